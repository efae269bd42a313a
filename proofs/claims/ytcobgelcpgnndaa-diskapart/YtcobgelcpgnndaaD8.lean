/- A write changes its own sector alone (DiskApart). -/
import Derived.Test.YtcobgelcpgnndaaD7
namespace Go.Proofs.Ytcobgelcpgnndaa
open Go.RowKit

theorem wr_in {L P : List Nat} {off k : Nat} (h1 : off ≤ k) (h2 : k < off + P.length) (h : off + P.length ≤ L.length) : (wr L off P).getD k 0 = P.getD (k - off) 0 := by
  have h3 : (L.take off).length = off := by rw [List.length_take]; omega
  rw [wr, List.getD_eq_getElem?_getD, List.append_assoc, List.getElem?_append_right (by omega), h3, List.getElem?_append_left (by omega), ← List.getD_eq_getElem?_getD]
theorem wr_out {L P : List Nat} {off k : Nat} (h1 : k < off ∨ off + P.length ≤ k) (h : off + P.length ≤ L.length) : (wr L off P).getD k 0 = L.getD k 0 := by
  have h3 : (L.take off).length = off := by rw [List.length_take]; omega
  rw [wr, List.getD_eq_getElem?_getD, List.getD_eq_getElem?_getD, List.append_assoc]
  rcases h1 with h1 | h1
  · rw [List.getElem?_append_left (by omega), List.getElem?_take, if_pos h1]
  · rw [List.getElem?_append_right (by omega), h3, List.getElem?_append_right (by omega), List.getElem?_drop]
    congr 2
    omega
theorem OB.gros {S : List Nat} {w w' : World} {e : TypeId} {k : IntKind} {B : Nat} {ao : Option Addr} {cap : Nat} {l : List Nat} (h : OB w e k B ao cap l) (G : GroS S w w') (hs : ∀ ad, ao = some ad → ad.block ∉ S) : OB w' e k B ao cap l := by
  refine ⟨⟨h.own.1, ?_⟩, h.wf⟩
  rcases h.own.2 with h1 | ⟨g, c, cur, h1, h2, h3, h4⟩
  · exact .inl h1
  · refine .inr ⟨g, c, cur, h1, h2, G.has h3 ?_, h4⟩
    injection h1 with e1 e2 e3
    exact hs _ e1
set_option maxRecDepth 100000 in
set_option maxHeartbeats 4000000 in
theorem diskApart_neg (w : World) (ao : Option Addr) (cap : Nat) (l : List Nat) (HN : NC w .u8 ao cap l) (hl : l.length ≤ 140737488355000) (ao3 : Option Addr) (cap3 : Nat) (s : List Nat) (HS : NC w .u8 ao3 cap3 s) (_hsl : s.length ≤ 140737488355000) (m : Nat) (hm : m = min (l.length / 64) 40) (i : Int) (hi : i < 0) (hB : hasB m i = false) : Calls Try.prog 7 #[.slice ao l.length cap, .int .i64 i, .slice ao3 s.length cap3] w fun e w' => e = .returned (.bool true) ∧ Gro w w' := by
  refine s_enter Try.func7 rfl Try.ntmps7 [.slice ao l.length cap, .int .i64 i, .slice ao3 s.length cap3] [.slice ao l.length cap, .int .i64 i, .slice ao3 s.length cap3, undef, undef, undef, undef, undef, undef, undef, undef, undef, undef, undef, undef, undef, undef, undef, undef, undef, undef, undef, undef, undef, undef, undef, undef, undef, undef, undef, undef, undef, undef, undef, undef, undef, undef, undef, undef, undef, undef, undef, undef, undef, undef, undef, undef, undef, undef, undef, undef, undef, undef, undef, undef, undef, undef, undef, undef, undef, undef, undef, undef, undef, undef, undef, undef, undef, undef, undef, undef, undef, undef, undef, undef, undef, undef, undef, undef, undef, undef, undef, undef, undef, undef, undef, undef, undef, undef, undef, undef, undef, undef, undef, undef, undef, undef, undef, undef] rfl ?_
  have GG := Gro.refl w
  have HL : Shut (∀ ad, ao = some ad → 0 < l.length → ad.block < w.heap.size) := ⟨HN.lt⟩
  have HLS : Shut (∀ ad, ao3 = some ad → 0 < s.length → ad.block < w.heap.size) := ⟨HS.lt⟩
  obtain ⟨C, hC⟩ : ∃ C, C = l.take (m * 64) := ⟨_, rfl⟩
  have hCl : C.length = m * 64 := by rw [hC, List.length_take]; omega
  have HC : NC w .u8 ao cap C := by rw [hC]; exact HN.take _ (by omega)
  have HLC : Shut (∀ ad, ao = some ad → 0 < C.length → ad.block < w.heap.size) := ⟨HC.lt⟩
  clear hC HN HL
  refine wp_seq ?_
  refine wp_region_lit ?_
  refine s_val 6 rfl rfl (.bool false) (rfl) ?_
  refine nr ?_; intro U h; simp only [z0, z1] at h; subst h
  refine wpList_nil ?_
  refine then_n ?_
  refine wp_seq ?_
  refine wp_region_lit ?_
  refine s_bsl 13 rfl rfl 28 0 _ rfl [] rfl #[] 5 (by kernel_rfl) ?_
  intro w1 g G eg kg
  have bg := size_base GG eg
  replace HC := HC.gro G
  replace HS := HS.gro G
  replace GG := GG.trans G
  clear G eg
  refine nr ?_; intro U h; simp only [z0, z1] at h; subst h
  refine s_val 14 rfl rfl (.slice ao l.length cap) (rfl) ?_
  refine nr ?_; intro U h; simp only [z0, z1] at h; subst h
  refine s_val 15 rfl rfl (.slice ao l.length cap) (rfl) ?_
  refine nr ?_; intro U h; simp only [z0, z1] at h; subst h
  refine s_val 16 rfl rfl (.int .i64 ((l.length : Nat) : Int)) (run_len Try.underlying28 _ rfl _ _ _ rfl _) ?_
  refine nr ?_; intro U h; simp only [z0, z1] at h; subst h
  refine s_val 17 rfl rfl (.int .i64 ((l.length / 64 : Nat) : Int)) (run_quo64 _ _ _ rfl ((l.length : Nat) : Int) 64 _ rfl rfl (by decide) (tdivN _ 64) (by omega) (by omega) _) ?_
  refine nr ?_; intro U h; simp only [z0, z1] at h; subst h
  refine s_val 18 rfl rfl (.int .i64 ((m : Nat) : Int)) (run_min64 _ _ _ rfl ((l.length / 64 : Nat) : Int) 40 _ rfl rfl (by omega) _) ?_
  refine nr ?_; intro U h; simp only [z0, z1] at h; subst h
  refine s_val 19 rfl rfl (.int .i64 ((C.length : Nat) : Int)) (run_mul64 _ _ _ rfl ((m : Nat) : Int) 64 _ rfl rfl (by omega) (by omega) (by omega) _) ?_
  refine nr ?_; intro U h; simp only [z0, z1] at h; subst h
  refine s_val 20 rfl rfl (.slice ao C.length cap) (run_cut0 bT _ _ rfl ao l.length cap C.length rfl rfl (by have := HC.fit; omega) _) ?_
  refine nr ?_; intro U h; simp only [z0, z1] at h; subst h
  have HO : OB _ 5 .u8 g (some ⟨g, 0, none⟩) 0 [] := OB.made kg (Nat.le_refl _) (Nat.le_refl _) (Nat.zero_le _) rfl rfl (fun x hx => by cases hx)
  refine s_app bT 21 rfl rfl _ _ rfl rfl HO (l' := C) rfl (HC) (by simp only [List.length_nil]; omega) (by decide) (Nat.le_of_lt (lt_of_heap kg)) ?_
  intro ao2 cap2 w2 HO2 BB
  rw [List.nil_append] at HO2
  simp only [List.nil_append]
  clear HO
  have HO := HO2.mono bg
  clear HO2
  replace HC := HC.below BB (fun ad ha h0 => by have := HLC.out ad ha h0; omega)
  replace HS := HS.below BB (fun ad ha h0 => by have := HLS.out ad ha h0; omega)
  replace GG := below_gro GG BB bg
  clear kg BB
  refine nr ?_; intro U h; simp only [z0, z1] at h; subst h
  refine s_val 0 rfl rfl (.slice ao2 C.length cap2) (rfl) ?_
  refine nr ?_; intro U h; simp only [z0] at h; subst h
  refine wpList_nil ?_
  refine then_n ?_
  refine wp_seq ?_
  refine wp_region_lit ?_
  refine s_val 23 rfl rfl (.slice ao2 C.length cap2) (rfl) ?_
  refine nr ?_; intro U h; simp only [z0, z1] at h; subst h
  have HLT := HO.ge
  refine s_callx 24 rfl rfl _ 19 Try.call19 rfl rfl _ rfl [.slice ao2 C.length cap2] rfl (of_ok _ ao2 cap2 C HO.nc m hCl (by omega)) (fun _ _ ⟨_, _, he, _⟩ => ⟨_, he⟩) ?_
  rintro v w3 ⟨p, sg, he, G, bp, bsg, HD⟩
  cases he
  have HA : ∀ ad, ao2 = some ad → ad.block ≠ p ∧ ad.block ≠ sg := fun ad ha => by have := HLT ad ha; omega
  clear HLT
  have bp := Nat.le_trans GG.size bp
  have bsg := Nat.le_trans GG.size bsg
  replace HS := HS.gro G
  replace HO := HO.gro G
  replace GG := GG.trans G
  clear G
  refine nr ?_; intro U h; simp only [z0, z1] at h; subst h
  refine s_val 22 rfl rfl (.tuple #[.pointer (some ⟨p, 0, none⟩), .int .i64 0]) (rfl) ?_
  refine nr ?_; intro U h; simp only [z0, z1] at h; subst h
  refine s_val 25 rfl rfl (.pointer (some ⟨p, 0, none⟩)) (rfl) ?_
  refine nr ?_; intro U h; simp only [z0, z1] at h; subst h
  refine s_val 26 rfl rfl (.int .i64 0) (rfl) ?_
  refine nr ?_; intro U h; simp only [z0, z1] at h; subst h
  refine s_val 7 rfl rfl (.pointer (some ⟨p, 0, none⟩)) (rfl) ?_
  refine nr ?_; intro U h; simp only [z0, z1] at h; subst h
  refine s_val 8 rfl rfl (.int .i64 0) (rfl) ?_
  refine nr ?_; intro U h; simp only [z0, z1] at h; subst h
  refine wpList_nil ?_
  refine then_n ?_
  refine wp_seq ?_
  refine wp_seq ?_
  refine wp_region_opq ?_
  intro OPS hY
  have y2 := hY 2 29 rfl
  have y6 := hY 6 33 rfl
  clear hY
  refine s_val 27 rfl rfl (.pointer (some ⟨p, 0, none⟩)) (rfl) ?_
  refine nr ?_; intro U h; simp only [z0, z1] at h; subst h
  refine s_val 28 rfl rfl (.bool false) (run_eqnp 23 _ _ _ rfl _ rfl rfl Try.underlying23 _) ?_
  refine nr ?_; intro U h; simp only [z0, z1] at h; subst h
  refine s_val 29 rfl rfl (.bool false) (rfl) ?_
  refine nr ?_; intro U h; simp only [z0, z1] at h; subst h
  refine s_gvalY 30 rfl rfl y2 rfl (.int .i64 0) (rfl) ?_
  refine nr ?_; intro U h; simp only [z0, z1] at h; subst h
  refine s_gvalY 31 rfl rfl y2 rfl (.bool false) (run_neq_k 31 .i64 _ _ _ rfl Try.underlying31 _ _ rfl rfl false rfl _) ?_
  refine nr ?_; intro U h; simp only [z0, z1] at h; subst h
  refine s_val 32 rfl rfl (.bool false) (rfl) ?_
  refine nr ?_; intro U h; simp only [z0, z1] at h; subst h
  refine s_val 33 rfl rfl (.bool false) (rfl) ?_
  refine nr ?_; intro U h; simp only [z0, z1] at h; subst h
  refine s_gcallvY 34 rfl rfl y6 rfl _ 10 Try.call10 rfl rfl _ rfl [] rfl (fixed_true _) ?_
  intro w4 G
  replace HS := HS.gro G
  replace HO := HO.gro G
  replace HD := HD.gro G
  replace GG := GG.trans G
  clear G
  refine nr ?_; intro U h; simp only [z0, z1] at h; subst h
  refine s_gvalY 35 rfl rfl y6 rfl (.bool false) (run_nt _ _ rfl true rfl) ?_
  refine nr ?_; intro U h; simp only [z0, z1] at h; subst h
  refine s_val 36 rfl rfl (.bool false) (rfl) ?_
  refine nr ?_; intro U h; simp only [z0, z1] at h; subst h
  refine wpList_nil ?_
  refine then_n ?_
  refine wp_cond_false rfl ?_
  refine wp_skip ?_
  refine then_n ?_
  refine wp_seq ?_
  refine wp_region_lit ?_
  refine s_val 37 rfl rfl (.pointer (some ⟨p, 0, none⟩)) (rfl) ?_
  refine nr ?_; intro U h; simp only [z0, z1] at h; subst h
  refine s_val 38 rfl rfl (.int .i64 i) (rfl) ?_
  refine nr ?_; intro U h; simp only [z0, z1] at h; subst h
  refine s_val 39 rfl rfl (.slice ao3 s.length cap3) (rfl) ?_
  refine nr ?_; intro U h; simp only [z0, z1] at h; subst h
  refine s_callv 40 rfl rfl _ 11 Try.call11 rfl rfl _ rfl [.pointer (some ⟨p, 0, none⟩), .int .i64 i, .slice ao3 s.length cap3] rfl (write_bad _ p sg m C (-1) 0 HD ao3 cap3 s i hB) ?_
  intro w5 G
  replace HS := HS.gro G
  replace HO := HO.gro G
  replace HD := HD.gro G
  replace GG := GG.trans G
  clear G
  refine nr ?_; intro U h; simp only [z0, z1] at h; subst h
  refine s_val 9 rfl rfl (.int .i64 1) (rfl) ?_
  refine nr ?_; intro U h; simp only [z0, z1] at h; subst h
  refine wpList_nil ?_
  refine then_n ?_
  refine wp_seq ?_
  refine wp_region_lit ?_
  refine s_val 41 rfl rfl (.pointer (some ⟨p, 0, none⟩)) (rfl) ?_
  refine nr ?_; intro U h; simp only [z0, z1] at h; subst h
  refine s_callx 42 rfl rfl _ 18 Try.call18 rfl rfl _ rfl [.pointer (some ⟨p, 0, none⟩)] rfl (bytes_len _ p sg m C _ _ HD) (fun _ _ ⟨_, he, _⟩ => ⟨_, he⟩) ?_
  rintro v w6 ⟨g2, he, G, bg2, k2⟩
  cases he
  have bg2 := Nat.le_trans GG.size bg2
  replace HS := HS.gro G
  replace HO := HO.gro G
  replace HD := HD.gro G
  replace GG := GG.trans G
  clear G
  have HO2 := ob_all k2 bg2 HD.byte (by simp only [maxLen]; omega)
  clear k2
  refine nr ?_; intro U h; simp only [z0, z1] at h; subst h
  refine s_val 10 rfl rfl (.slice (some ⟨g2, 0, none⟩) C.length C.length) (rfl) ?_
  refine nr ?_; intro U h; simp only [z0, z1] at h; subst h
  refine wpList_nil ?_
  refine then_n ?_
  refine wp_seq ?_
  refine wp_seq ?_
  refine wp_region_lit ?_
  refine s_val 43 rfl rfl (.slice (some ⟨g2, 0, none⟩) C.length C.length) (rfl) ?_
  refine nr ?_; intro U h; simp only [z0, z1] at h; subst h
  refine s_val 44 rfl rfl (.int .i64 ((C.length : Nat) : Int)) (run_len Try.underlying28 _ rfl _ _ _ rfl _) ?_
  refine nr ?_; intro U h; simp only [z0, z1] at h; subst h
  refine s_val 45 rfl rfl (.slice ao2 C.length cap2) (rfl) ?_
  refine nr ?_; intro U h; simp only [z0, z1] at h; subst h
  refine s_val 46 rfl rfl (.int .i64 ((C.length : Nat) : Int)) (run_len Try.underlying28 _ rfl _ _ _ rfl _) ?_
  refine nr ?_; intro U h; simp only [z0, z1] at h; subst h
  refine s_val 47 rfl rfl (.bool false) (run_neq_k 3 .i64 _ _ _ rfl Try.underlying3 ((C.length : Nat) : Int) ((C.length : Nat) : Int) rfl rfl false (decide_eq_true (by omega)) _) ?_
  refine nr ?_; intro U h; simp only [z0, z1] at h; subst h
  refine wpList_nil ?_
  refine then_n ?_
  refine wp_cond_false rfl ?_
  refine wp_skip ?_
  refine then_n ?_
  refine wp_seq ?_
  refine wp_seq ?_
  refine wp_region_lit ?_
  refine s_val 48 rfl rfl (.slice (some ⟨g2, 0, none⟩) C.length C.length) (rfl) ?_
  refine nr ?_; intro U h; simp only [z0, z1] at h; subst h
  refine s_val 49 rfl rfl (.int .i64 ((C.length : Nat) : Int)) (run_len Try.underlying28 _ rfl _ _ _ rfl _) ?_
  refine nr ?_; intro U h; simp only [z0, z1] at h; subst h
  refine s_val 50 rfl rfl (.int .i64 0) (rfl) ?_
  refine nr ?_; intro U h; simp only [z0, z1] at h; subst h
  refine wpList_nil ?_
  refine then_n ?_
  refine wp_block ?_
  refine wp_loopN (fun mz az wv => ∃ (k : Nat) (u6 u11 u12 u51 u52 u53 u54 u55 u56 u57 u58 u59 u60 u61 u62 u63 u64 u65 u66 u67 u68 u69 u70 u71 u72 u73 u74 u75 u76 u77 u78 u79 u80 u81 : Value), mz = C.length - k ∧ az = ⟨[.slice ao2 C.length cap2, .int .i64 i, .slice ao3 s.length cap3, undef, undef, undef, u6, .pointer (some ⟨p, 0, none⟩), .int .i64 0, .int .i64 1, .slice (some ⟨g2, 0, none⟩) C.length C.length, u11, u12, .slice (some ⟨g, 0, none⟩) (([] : List Nat).length) 0, .slice ao l.length cap, .slice ao l.length cap, .int .i64 ((l.length : Nat) : Int), .int .i64 ((l.length / 64 : Nat) : Int), .int .i64 ((m : Nat) : Int), .int .i64 ((C.length : Nat) : Int), .slice ao C.length cap, .slice ao2 C.length cap2, .tuple #[.pointer (some ⟨p, 0, none⟩), .int .i64 0], .slice ao2 C.length cap2, .tuple #[.pointer (some ⟨p, 0, none⟩), .int .i64 0], .pointer (some ⟨p, 0, none⟩), .int .i64 0, .pointer (some ⟨p, 0, none⟩), .bool false, .bool false, .int .i64 0, .bool false, .bool false, .bool false, .bool true, .bool false, .bool false, .pointer (some ⟨p, 0, none⟩), .int .i64 i, .slice ao3 s.length cap3, .int .i64 1, .pointer (some ⟨p, 0, none⟩), .slice (some ⟨g2, 0, none⟩) C.length C.length, .slice (some ⟨g2, 0, none⟩) C.length C.length, .int .i64 ((C.length : Nat) : Int), .slice ao2 C.length cap2, .int .i64 ((C.length : Nat) : Int), .bool false, .slice (some ⟨g2, 0, none⟩) C.length C.length, .int .i64 ((C.length : Nat) : Int), .int .i64 ((k : Nat) : Int), u51, u52, u53, u54, u55, u56, u57, u58, u59, u60, u61, u62, u63, u64, u65, u66, u67, u68, u69, u70, u71, u72, u73, u74, u75, u76, u77, u78, u79, u80, u81, undef, undef, undef, undef, undef, undef, undef, undef, undef, undef, undef, undef, undef, undef, undef, undef, undef].toArray, []⟩ ∧ k ≤ C.length ∧ Gro w wv ∧ OB wv 5 .u8 w.heap.size ao2 cap2 C ∧ OB wv 5 .u8 w.heap.size (some ⟨g2, 0, none⟩) C.length C ∧ NC wv .u8 ao3 cap3 s) ?_ _ ⟨0, .bool false, undef, undef, undef, undef, undef, undef, undef, undef, undef, undef, undef, undef, undef, undef, undef, undef, undef, undef, undef, undef, undef, undef, undef, undef, undef, undef, undef, undef, undef, undef, undef, undef, undef, rfl, rfl, Nat.zero_le _, GG, HO, HO2, HS⟩
  clear GG HS HO HO2
  rintro mz az wv ⟨k, u6, u11, u12, u51, u52, u53, u54, u55, u56, u57, u58, u59, u60, u61, u62, u63, u64, u65, u66, u67, u68, u69, u70, u71, u72, u73, u74, u75, u76, u77, u78, u79, u80, u81, rfl, rfl, hk, GG, HO, HO2, HS⟩
  refine wp_seq ?_
  refine wp_region_lit ?_
  obtain ⟨p1, hp1⟩ : ∃ p, decide (((k : Nat) : Int) < ((C.length : Nat) : Int)) = p := ⟨_, rfl⟩
  refine s_val 51 rfl rfl (.bool p1) (run_lssT 3 _ _ _ rfl ((k : Nat) : Int) ((C.length : Nat) : Int) rfl rfl p1 hp1 _) ?_
  refine nr ?_; intro U h; simp only [z0, z1] at h; subst h
  cases p1
  · refine wpList_nil ?_
    refine then_n ?_
    refine wp_seq ?_
    refine wp_cond_false rfl ?_
    refine wp_exit ?_
    refine then_x ?_
    refine then_x ?_
    refine blk_x ?_
    refine then_n ?_
    refine wp_seq ?_
    refine wp_region_opq ?_
    intro OPS hY
    have y4 := hY 4 86 rfl
    have y11 := hY 11 93 rfl
    clear hY
    refine s_val 82 rfl rfl (.int .i64 1) (rfl) ?_
    refine nr ?_; intro U h; simp only [z0, z1] at h; subst h
    refine s_val 83 rfl rfl (.bool false) (run_eq_k 31 .i64 _ _ _ rfl Try.underlying31 _ _ rfl rfl false rfl _) ?_
    refine nr ?_; intro U h; simp only [z0, z1] at h; subst h
    refine s_val 84 rfl rfl (.int .i64 i) (rfl) ?_
    refine nr ?_; intro U h; simp only [z0, z1] at h; subst h
    refine s_val 85 rfl rfl (.bool false) (run_geqT 3 _ _ _ rfl i 0 rfl rfl false (by first | exact decide_eq_true (by omega) | exact decide_eq_false (by omega)) _) ?_
    refine nr ?_; intro U h; simp only [z0, z1] at h; subst h
    refine s_val 86 rfl rfl (.bool false) (rfl) ?_
    refine nr ?_; intro U h; simp only [z0, z1] at h; subst h
    refine s_skipY 87 rfl rfl y4 rfl ?_
    refine nr ?_; intro U h; simp only [z0, z1] at h; subst h
    refine s_skipY 88 rfl rfl y4 rfl ?_
    refine nr ?_; intro U h; simp only [z0, z1] at h; subst h
    refine s_skipY 89 rfl rfl y4 rfl ?_
    refine nr ?_; intro U h; simp only [z0, z1] at h; subst h
    refine s_skipY 90 rfl rfl y4 rfl ?_
    refine nr ?_; intro U h; simp only [z0, z1] at h; subst h
    refine s_skipY 91 rfl rfl y4 rfl ?_
    refine nr ?_; intro U h; simp only [z0, z1] at h; subst h
    refine s_val 92 rfl rfl (.bool false) (rfl) ?_
    refine nr ?_; intro U h; simp only [z0, z1] at h; subst h
    refine s_val 93 rfl rfl (.bool false) (rfl) ?_
    refine nr ?_; intro U h; simp only [z0, z1] at h; subst h
    refine s_skipY 94 rfl rfl y11 rfl ?_
    refine nr ?_; intro U h; simp only [z0, z1] at h; subst h
    refine s_skipY 95 rfl rfl y11 rfl ?_
    refine nr ?_; intro U h; simp only [z0, z1] at h; subst h
    refine s_skipY 96 rfl rfl y11 rfl ?_
    refine nr ?_; intro U h; simp only [z0, z1] at h; subst h
    refine s_val 97 rfl rfl (.bool false) (rfl) ?_
    refine nr ?_; intro U h; simp only [z0, z1] at h; subst h
    refine s_val 98 rfl rfl (.bool true) (run_eqB 4 _ _ _ rfl false false rfl rfl Try.underlying4 true rfl _) ?_
    refine nr ?_; intro U h; simp only [z0, z1] at h; subst h
    refine s_val 6 rfl rfl (.bool true) (rfl) ?_
    refine nr ?_; intro U h; simp only [z0, z1] at h; subst h
    refine wpList_nil ?_
    refine then_n ?_
    refine wp_ret ?_
    refine bodyPost_ret (results_tmp Try.results7 _ _ _) rfl ?_
    exact ⟨rfl, GG⟩
  have hkn : k < C.length := by have := of_decide_eq_true hp1; omega
  refine wpList_nil ?_
  refine then_n ?_
  refine wp_seq ?_
  refine wp_cond_true rfl ?_
  refine wp_skip ?_
  refine then_n ?_
  refine wp_seq ?_
  refine wp_block ?_
  refine wp_seq ?_
  refine wp_region_lit ?_
  refine s_val 52 rfl rfl (.int .i64 ((k : Nat) : Int)) (rfl) ?_
  refine nr ?_; intro U h; simp only [z0, z1] at h; subst h
  refine s_val 11 rfl rfl (.int .i64 ((k : Nat) : Int)) (rfl) ?_
  refine nr ?_; intro U h; simp only [z0, z1] at h; subst h
  refine wpList_nil ?_
  refine then_n ?_
  refine wp_seq ?_
  refine wp_region_lit ?_
  refine s_val 53 rfl rfl (.slice ao2 C.length cap2) (rfl) ?_
  refine nr ?_; intro U h; simp only [z0, z1] at h; subst h
  refine s_val 54 rfl rfl (.int .i64 ((k : Nat) : Int)) (rfl) ?_
  refine nr ?_; intro U h; simp only [z0, z1] at h; subst h
  obtain ⟨gi, cur, hgi, hBi, ki, hci, hmi, hsi, hti⟩ := HO.blk (j := k) (by omega)
  refine s_val 55 rfl rfl (.pointer (some ⟨gi, k, none⟩)) (bat _ _ rfl gi C.length cap2 k (by exact congrArg (fun a => Value.slice a C.length cap2) hgi) rfl (by omega) _) ?_
  refine nr ?_; intro U h; simp only [z0, z1] at h; subst h
  refine s_val 56 rfl rfl (.int .u8 ((C.getD k 0 : Nat) : Int)) (run_ld bT _ rfl ⟨gi, k, none⟩ rfl _ _ (HO.cellv hgi (by omega))) ?_
  refine nr ?_; intro U h; simp only [z0, z1] at h; subst h
  refine s_val 12 rfl rfl (.int .u8 ((C.getD k 0 : Nat) : Int)) (rfl) ?_
  refine nr ?_; intro U h; simp only [z0, z1] at h; subst h
  refine wpList_nil ?_
  refine then_n ?_
  refine wp_seq ?_
  refine wp_seq ?_
  refine wp_region_opq ?_
  intro OPS hY
  have y2 := hY 2 59 rfl
  clear hY
  refine s_val 57 rfl rfl (.int .i64 1) (rfl) ?_
  refine nr ?_; intro U h; simp only [z0, z1] at h; subst h
  refine s_val 58 rfl rfl (.bool false) (run_eq_k 31 .i64 _ _ _ rfl Try.underlying31 _ _ rfl rfl false rfl _) ?_
  refine nr ?_; intro U h; simp only [z0, z1] at h; subst h
  refine s_val 59 rfl rfl (.bool false) (rfl) ?_
  refine nr ?_; intro U h; simp only [z0, z1] at h; subst h
  refine s_skipY 60 rfl rfl y2 rfl ?_
  refine nr ?_; intro U h; simp only [z0, z1] at h; subst h
  refine s_skipY 61 rfl rfl y2 rfl ?_
  refine nr ?_; intro U h; simp only [z0, z1] at h; subst h
  refine s_skipY 62 rfl rfl y2 rfl ?_
  refine nr ?_; intro U h; simp only [z0, z1] at h; subst h
  refine s_skipY 63 rfl rfl y2 rfl ?_
  refine nr ?_; intro U h; simp only [z0, z1] at h; subst h
  refine s_val 64 rfl rfl (.bool false) (rfl) ?_
  refine nr ?_; intro U h; simp only [z0, z1] at h; subst h
  refine wpList_nil ?_
  refine then_n ?_
  refine wp_cond_false rfl ?_
  refine wp_skip ?_
  refine then_n ?_
  refine wp_seq ?_
  refine wp_region_lit ?_
  refine s_val 75 rfl rfl (.slice (some ⟨g2, 0, none⟩) C.length C.length) (rfl) ?_
  refine nr ?_; intro U h; simp only [z0, z1] at h; subst h
  refine s_val 76 rfl rfl (.int .i64 ((k : Nat) : Int)) (rfl) ?_
  refine nr ?_; intro U h; simp only [z0, z1] at h; subst h
  refine s_val 77 rfl rfl (.pointer (some ⟨g2, k, none⟩)) (bat _ _ rfl g2 C.length C.length k rfl rfl hkn _) ?_
  refine nr ?_; intro U h; simp only [z0, z1] at h; subst h
  refine s_val 78 rfl rfl (.int .u8 ((C.getD k 0 : Nat) : Int)) (run_ld bT _ rfl ⟨g2, k, none⟩ rfl _ _ (HO2.cellv rfl hkn)) ?_
  refine nr ?_; intro U h; simp only [z0, z1] at h; subst h
  refine s_val 79 rfl rfl (.int .u8 ((C.getD k 0 : Nat) : Int)) (rfl) ?_
  refine nr ?_; intro U h; simp only [z0, z1] at h; subst h
  refine s_val 80 rfl rfl (.bool false) (run_neq_k 5 .u8 _ _ _ rfl Try.underlying5 ((C.getD k 0 : Nat) : Int) ((C.getD k 0 : Nat) : Int) rfl rfl false (decide_eq_true (by have hq : C.getD k 0 = C.getD k 0 := rfl; rw [hq])) _) ?_
  refine nr ?_; intro U h; simp only [z0, z1] at h; subst h
  refine wpList_nil ?_
  refine then_n ?_
  refine wp_cond_false rfl ?_
  refine wp_skip ?_
  refine blk_n ?_
  refine then_n ?_
  refine wp_region_lit ?_
  refine s_val 81 rfl rfl (.int .i64 ((k + 1 : Nat) : Int)) (run_add64 _ _ _ rfl ((k : Nat) : Int) 1 _ rfl rfl (by omega) (by omega) (by omega) _) ?_
  refine nr ?_; intro U h; simp only [z0, z1] at h; subst h
  refine s_val 50 rfl rfl (.int .i64 ((k + 1 : Nat) : Int)) (rfl) ?_
  refine nr ?_; intro U h; simp only [z0, z1] at h; subst h
  refine wpList_nil ?_
  refine then_n ?_
  exact ⟨_, (by omega : C.length - (k + 1) < C.length - k), k + 1, u6, .int .i64 ((k : Nat) : Int), .int .u8 ((C.getD k 0 : Nat) : Int), .bool true, .int .i64 ((k : Nat) : Int), .slice ao2 C.length cap2, .int .i64 ((k : Nat) : Int), .pointer (some ⟨gi, k, none⟩), .int .u8 ((C.getD k 0 : Nat) : Int), .int .i64 1, .bool false, .bool false, undef, undef, undef, undef, .bool false, u65, u66, u67, u68, u69, u70, u71, u72, u73, u74, .slice (some ⟨g2, 0, none⟩) C.length C.length, .int .i64 ((k : Nat) : Int), .pointer (some ⟨g2, k, none⟩), .int .u8 ((C.getD k 0 : Nat) : Int), .int .u8 ((C.getD k 0 : Nat) : Int), .bool false, .int .i64 ((k + 1 : Nat) : Int), rfl, rfl, hkn, GG, HO, HO2, HS⟩
set_option maxRecDepth 100000 in
set_option maxHeartbeats 4000000 in
theorem diskApart_big (w : World) (ao : Option Addr) (cap : Nat) (l : List Nat) (HN : NC w .u8 ao cap l) (hl : l.length ≤ 140737488355000) (ao3 : Option Addr) (cap3 : Nat) (s : List Nat) (HS : NC w .u8 ao3 cap3 s) (_hsl : s.length ≤ 140737488355000) (m : Nat) (hm : m = min (l.length / 64) 40) (i : Int) (hi : 0 ≤ i) (hi2 : (m : Int) ≤ i) (hB : hasB m i = false) : Calls Try.prog 7 #[.slice ao l.length cap, .int .i64 i, .slice ao3 s.length cap3] w fun e w' => e = .returned (.bool true) ∧ Gro w w' := by
  refine s_enter Try.func7 rfl Try.ntmps7 [.slice ao l.length cap, .int .i64 i, .slice ao3 s.length cap3] [.slice ao l.length cap, .int .i64 i, .slice ao3 s.length cap3, undef, undef, undef, undef, undef, undef, undef, undef, undef, undef, undef, undef, undef, undef, undef, undef, undef, undef, undef, undef, undef, undef, undef, undef, undef, undef, undef, undef, undef, undef, undef, undef, undef, undef, undef, undef, undef, undef, undef, undef, undef, undef, undef, undef, undef, undef, undef, undef, undef, undef, undef, undef, undef, undef, undef, undef, undef, undef, undef, undef, undef, undef, undef, undef, undef, undef, undef, undef, undef, undef, undef, undef, undef, undef, undef, undef, undef, undef, undef, undef, undef, undef, undef, undef, undef, undef, undef, undef, undef, undef, undef, undef, undef, undef, undef, undef] rfl ?_
  have GG := Gro.refl w
  have HL : Shut (∀ ad, ao = some ad → 0 < l.length → ad.block < w.heap.size) := ⟨HN.lt⟩
  have HLS : Shut (∀ ad, ao3 = some ad → 0 < s.length → ad.block < w.heap.size) := ⟨HS.lt⟩
  obtain ⟨C, hC⟩ : ∃ C, C = l.take (m * 64) := ⟨_, rfl⟩
  have hCl : C.length = m * 64 := by rw [hC, List.length_take]; omega
  have HC : NC w .u8 ao cap C := by rw [hC]; exact HN.take _ (by omega)
  have HLC : Shut (∀ ad, ao = some ad → 0 < C.length → ad.block < w.heap.size) := ⟨HC.lt⟩
  clear hC HN HL
  refine wp_seq ?_
  refine wp_region_lit ?_
  refine s_val 6 rfl rfl (.bool false) (rfl) ?_
  refine nr ?_; intro U h; simp only [z0, z1] at h; subst h
  refine wpList_nil ?_
  refine then_n ?_
  refine wp_seq ?_
  refine wp_region_lit ?_
  refine s_bsl 13 rfl rfl 28 0 _ rfl [] rfl #[] 5 (by kernel_rfl) ?_
  intro w1 g G eg kg
  have bg := size_base GG eg
  replace HC := HC.gro G
  replace HS := HS.gro G
  replace GG := GG.trans G
  clear G eg
  refine nr ?_; intro U h; simp only [z0, z1] at h; subst h
  refine s_val 14 rfl rfl (.slice ao l.length cap) (rfl) ?_
  refine nr ?_; intro U h; simp only [z0, z1] at h; subst h
  refine s_val 15 rfl rfl (.slice ao l.length cap) (rfl) ?_
  refine nr ?_; intro U h; simp only [z0, z1] at h; subst h
  refine s_val 16 rfl rfl (.int .i64 ((l.length : Nat) : Int)) (run_len Try.underlying28 _ rfl _ _ _ rfl _) ?_
  refine nr ?_; intro U h; simp only [z0, z1] at h; subst h
  refine s_val 17 rfl rfl (.int .i64 ((l.length / 64 : Nat) : Int)) (run_quo64 _ _ _ rfl ((l.length : Nat) : Int) 64 _ rfl rfl (by decide) (tdivN _ 64) (by omega) (by omega) _) ?_
  refine nr ?_; intro U h; simp only [z0, z1] at h; subst h
  refine s_val 18 rfl rfl (.int .i64 ((m : Nat) : Int)) (run_min64 _ _ _ rfl ((l.length / 64 : Nat) : Int) 40 _ rfl rfl (by omega) _) ?_
  refine nr ?_; intro U h; simp only [z0, z1] at h; subst h
  refine s_val 19 rfl rfl (.int .i64 ((C.length : Nat) : Int)) (run_mul64 _ _ _ rfl ((m : Nat) : Int) 64 _ rfl rfl (by omega) (by omega) (by omega) _) ?_
  refine nr ?_; intro U h; simp only [z0, z1] at h; subst h
  refine s_val 20 rfl rfl (.slice ao C.length cap) (run_cut0 bT _ _ rfl ao l.length cap C.length rfl rfl (by have := HC.fit; omega) _) ?_
  refine nr ?_; intro U h; simp only [z0, z1] at h; subst h
  have HO : OB _ 5 .u8 g (some ⟨g, 0, none⟩) 0 [] := OB.made kg (Nat.le_refl _) (Nat.le_refl _) (Nat.zero_le _) rfl rfl (fun x hx => by cases hx)
  refine s_app bT 21 rfl rfl _ _ rfl rfl HO (l' := C) rfl (HC) (by simp only [List.length_nil]; omega) (by decide) (Nat.le_of_lt (lt_of_heap kg)) ?_
  intro ao2 cap2 w2 HO2 BB
  rw [List.nil_append] at HO2
  simp only [List.nil_append]
  clear HO
  have HO := HO2.mono bg
  clear HO2
  replace HC := HC.below BB (fun ad ha h0 => by have := HLC.out ad ha h0; omega)
  replace HS := HS.below BB (fun ad ha h0 => by have := HLS.out ad ha h0; omega)
  replace GG := below_gro GG BB bg
  clear kg BB
  refine nr ?_; intro U h; simp only [z0, z1] at h; subst h
  refine s_val 0 rfl rfl (.slice ao2 C.length cap2) (rfl) ?_
  refine nr ?_; intro U h; simp only [z0] at h; subst h
  refine wpList_nil ?_
  refine then_n ?_
  refine wp_seq ?_
  refine wp_region_lit ?_
  refine s_val 23 rfl rfl (.slice ao2 C.length cap2) (rfl) ?_
  refine nr ?_; intro U h; simp only [z0, z1] at h; subst h
  have HLT := HO.ge
  refine s_callx 24 rfl rfl _ 19 Try.call19 rfl rfl _ rfl [.slice ao2 C.length cap2] rfl (of_ok _ ao2 cap2 C HO.nc m hCl (by omega)) (fun _ _ ⟨_, _, he, _⟩ => ⟨_, he⟩) ?_
  rintro v w3 ⟨p, sg, he, G, bp, bsg, HD⟩
  cases he
  have HA : ∀ ad, ao2 = some ad → ad.block ≠ p ∧ ad.block ≠ sg := fun ad ha => by have := HLT ad ha; omega
  clear HLT
  have bp := Nat.le_trans GG.size bp
  have bsg := Nat.le_trans GG.size bsg
  replace HS := HS.gro G
  replace HO := HO.gro G
  replace GG := GG.trans G
  clear G
  refine nr ?_; intro U h; simp only [z0, z1] at h; subst h
  refine s_val 22 rfl rfl (.tuple #[.pointer (some ⟨p, 0, none⟩), .int .i64 0]) (rfl) ?_
  refine nr ?_; intro U h; simp only [z0, z1] at h; subst h
  refine s_val 25 rfl rfl (.pointer (some ⟨p, 0, none⟩)) (rfl) ?_
  refine nr ?_; intro U h; simp only [z0, z1] at h; subst h
  refine s_val 26 rfl rfl (.int .i64 0) (rfl) ?_
  refine nr ?_; intro U h; simp only [z0, z1] at h; subst h
  refine s_val 7 rfl rfl (.pointer (some ⟨p, 0, none⟩)) (rfl) ?_
  refine nr ?_; intro U h; simp only [z0, z1] at h; subst h
  refine s_val 8 rfl rfl (.int .i64 0) (rfl) ?_
  refine nr ?_; intro U h; simp only [z0, z1] at h; subst h
  refine wpList_nil ?_
  refine then_n ?_
  refine wp_seq ?_
  refine wp_seq ?_
  refine wp_region_opq ?_
  intro OPS hY
  have y2 := hY 2 29 rfl
  have y6 := hY 6 33 rfl
  clear hY
  refine s_val 27 rfl rfl (.pointer (some ⟨p, 0, none⟩)) (rfl) ?_
  refine nr ?_; intro U h; simp only [z0, z1] at h; subst h
  refine s_val 28 rfl rfl (.bool false) (run_eqnp 23 _ _ _ rfl _ rfl rfl Try.underlying23 _) ?_
  refine nr ?_; intro U h; simp only [z0, z1] at h; subst h
  refine s_val 29 rfl rfl (.bool false) (rfl) ?_
  refine nr ?_; intro U h; simp only [z0, z1] at h; subst h
  refine s_gvalY 30 rfl rfl y2 rfl (.int .i64 0) (rfl) ?_
  refine nr ?_; intro U h; simp only [z0, z1] at h; subst h
  refine s_gvalY 31 rfl rfl y2 rfl (.bool false) (run_neq_k 31 .i64 _ _ _ rfl Try.underlying31 _ _ rfl rfl false rfl _) ?_
  refine nr ?_; intro U h; simp only [z0, z1] at h; subst h
  refine s_val 32 rfl rfl (.bool false) (rfl) ?_
  refine nr ?_; intro U h; simp only [z0, z1] at h; subst h
  refine s_val 33 rfl rfl (.bool false) (rfl) ?_
  refine nr ?_; intro U h; simp only [z0, z1] at h; subst h
  refine s_gcallvY 34 rfl rfl y6 rfl _ 10 Try.call10 rfl rfl _ rfl [] rfl (fixed_true _) ?_
  intro w4 G
  replace HS := HS.gro G
  replace HO := HO.gro G
  replace HD := HD.gro G
  replace GG := GG.trans G
  clear G
  refine nr ?_; intro U h; simp only [z0, z1] at h; subst h
  refine s_gvalY 35 rfl rfl y6 rfl (.bool false) (run_nt _ _ rfl true rfl) ?_
  refine nr ?_; intro U h; simp only [z0, z1] at h; subst h
  refine s_val 36 rfl rfl (.bool false) (rfl) ?_
  refine nr ?_; intro U h; simp only [z0, z1] at h; subst h
  refine wpList_nil ?_
  refine then_n ?_
  refine wp_cond_false rfl ?_
  refine wp_skip ?_
  refine then_n ?_
  refine wp_seq ?_
  refine wp_region_lit ?_
  refine s_val 37 rfl rfl (.pointer (some ⟨p, 0, none⟩)) (rfl) ?_
  refine nr ?_; intro U h; simp only [z0, z1] at h; subst h
  refine s_val 38 rfl rfl (.int .i64 i) (rfl) ?_
  refine nr ?_; intro U h; simp only [z0, z1] at h; subst h
  refine s_val 39 rfl rfl (.slice ao3 s.length cap3) (rfl) ?_
  refine nr ?_; intro U h; simp only [z0, z1] at h; subst h
  refine s_callv 40 rfl rfl _ 11 Try.call11 rfl rfl _ rfl [.pointer (some ⟨p, 0, none⟩), .int .i64 i, .slice ao3 s.length cap3] rfl (write_bad _ p sg m C (-1) 0 HD ao3 cap3 s i hB) ?_
  intro w5 G
  replace HS := HS.gro G
  replace HO := HO.gro G
  replace HD := HD.gro G
  replace GG := GG.trans G
  clear G
  refine nr ?_; intro U h; simp only [z0, z1] at h; subst h
  refine s_val 9 rfl rfl (.int .i64 1) (rfl) ?_
  refine nr ?_; intro U h; simp only [z0, z1] at h; subst h
  refine wpList_nil ?_
  refine then_n ?_
  refine wp_seq ?_
  refine wp_region_lit ?_
  refine s_val 41 rfl rfl (.pointer (some ⟨p, 0, none⟩)) (rfl) ?_
  refine nr ?_; intro U h; simp only [z0, z1] at h; subst h
  refine s_callx 42 rfl rfl _ 18 Try.call18 rfl rfl _ rfl [.pointer (some ⟨p, 0, none⟩)] rfl (bytes_len _ p sg m C _ _ HD) (fun _ _ ⟨_, he, _⟩ => ⟨_, he⟩) ?_
  rintro v w6 ⟨g2, he, G, bg2, k2⟩
  cases he
  have bg2 := Nat.le_trans GG.size bg2
  replace HS := HS.gro G
  replace HO := HO.gro G
  replace HD := HD.gro G
  replace GG := GG.trans G
  clear G
  have HO2 := ob_all k2 bg2 HD.byte (by simp only [maxLen]; omega)
  clear k2
  refine nr ?_; intro U h; simp only [z0, z1] at h; subst h
  refine s_val 10 rfl rfl (.slice (some ⟨g2, 0, none⟩) C.length C.length) (rfl) ?_
  refine nr ?_; intro U h; simp only [z0, z1] at h; subst h
  refine wpList_nil ?_
  refine then_n ?_
  refine wp_seq ?_
  refine wp_seq ?_
  refine wp_region_lit ?_
  refine s_val 43 rfl rfl (.slice (some ⟨g2, 0, none⟩) C.length C.length) (rfl) ?_
  refine nr ?_; intro U h; simp only [z0, z1] at h; subst h
  refine s_val 44 rfl rfl (.int .i64 ((C.length : Nat) : Int)) (run_len Try.underlying28 _ rfl _ _ _ rfl _) ?_
  refine nr ?_; intro U h; simp only [z0, z1] at h; subst h
  refine s_val 45 rfl rfl (.slice ao2 C.length cap2) (rfl) ?_
  refine nr ?_; intro U h; simp only [z0, z1] at h; subst h
  refine s_val 46 rfl rfl (.int .i64 ((C.length : Nat) : Int)) (run_len Try.underlying28 _ rfl _ _ _ rfl _) ?_
  refine nr ?_; intro U h; simp only [z0, z1] at h; subst h
  refine s_val 47 rfl rfl (.bool false) (run_neq_k 3 .i64 _ _ _ rfl Try.underlying3 ((C.length : Nat) : Int) ((C.length : Nat) : Int) rfl rfl false (decide_eq_true (by omega)) _) ?_
  refine nr ?_; intro U h; simp only [z0, z1] at h; subst h
  refine wpList_nil ?_
  refine then_n ?_
  refine wp_cond_false rfl ?_
  refine wp_skip ?_
  refine then_n ?_
  refine wp_seq ?_
  refine wp_seq ?_
  refine wp_region_lit ?_
  refine s_val 48 rfl rfl (.slice (some ⟨g2, 0, none⟩) C.length C.length) (rfl) ?_
  refine nr ?_; intro U h; simp only [z0, z1] at h; subst h
  refine s_val 49 rfl rfl (.int .i64 ((C.length : Nat) : Int)) (run_len Try.underlying28 _ rfl _ _ _ rfl _) ?_
  refine nr ?_; intro U h; simp only [z0, z1] at h; subst h
  refine s_val 50 rfl rfl (.int .i64 0) (rfl) ?_
  refine nr ?_; intro U h; simp only [z0, z1] at h; subst h
  refine wpList_nil ?_
  refine then_n ?_
  refine wp_block ?_
  refine wp_loopN (fun mz az wv => ∃ (k : Nat) (u6 u11 u12 u51 u52 u53 u54 u55 u56 u57 u58 u59 u60 u61 u62 u63 u64 u65 u66 u67 u68 u69 u70 u71 u72 u73 u74 u75 u76 u77 u78 u79 u80 u81 : Value), mz = C.length - k ∧ az = ⟨[.slice ao2 C.length cap2, .int .i64 i, .slice ao3 s.length cap3, undef, undef, undef, u6, .pointer (some ⟨p, 0, none⟩), .int .i64 0, .int .i64 1, .slice (some ⟨g2, 0, none⟩) C.length C.length, u11, u12, .slice (some ⟨g, 0, none⟩) (([] : List Nat).length) 0, .slice ao l.length cap, .slice ao l.length cap, .int .i64 ((l.length : Nat) : Int), .int .i64 ((l.length / 64 : Nat) : Int), .int .i64 ((m : Nat) : Int), .int .i64 ((C.length : Nat) : Int), .slice ao C.length cap, .slice ao2 C.length cap2, .tuple #[.pointer (some ⟨p, 0, none⟩), .int .i64 0], .slice ao2 C.length cap2, .tuple #[.pointer (some ⟨p, 0, none⟩), .int .i64 0], .pointer (some ⟨p, 0, none⟩), .int .i64 0, .pointer (some ⟨p, 0, none⟩), .bool false, .bool false, .int .i64 0, .bool false, .bool false, .bool false, .bool true, .bool false, .bool false, .pointer (some ⟨p, 0, none⟩), .int .i64 i, .slice ao3 s.length cap3, .int .i64 1, .pointer (some ⟨p, 0, none⟩), .slice (some ⟨g2, 0, none⟩) C.length C.length, .slice (some ⟨g2, 0, none⟩) C.length C.length, .int .i64 ((C.length : Nat) : Int), .slice ao2 C.length cap2, .int .i64 ((C.length : Nat) : Int), .bool false, .slice (some ⟨g2, 0, none⟩) C.length C.length, .int .i64 ((C.length : Nat) : Int), .int .i64 ((k : Nat) : Int), u51, u52, u53, u54, u55, u56, u57, u58, u59, u60, u61, u62, u63, u64, u65, u66, u67, u68, u69, u70, u71, u72, u73, u74, u75, u76, u77, u78, u79, u80, u81, undef, undef, undef, undef, undef, undef, undef, undef, undef, undef, undef, undef, undef, undef, undef, undef, undef].toArray, []⟩ ∧ k ≤ C.length ∧ Gro w wv ∧ OB wv 5 .u8 w.heap.size ao2 cap2 C ∧ OB wv 5 .u8 w.heap.size (some ⟨g2, 0, none⟩) C.length C ∧ NC wv .u8 ao3 cap3 s) ?_ _ ⟨0, .bool false, undef, undef, undef, undef, undef, undef, undef, undef, undef, undef, undef, undef, undef, undef, undef, undef, undef, undef, undef, undef, undef, undef, undef, undef, undef, undef, undef, undef, undef, undef, undef, undef, undef, rfl, rfl, Nat.zero_le _, GG, HO, HO2, HS⟩
  clear GG HS HO HO2
  rintro mz az wv ⟨k, u6, u11, u12, u51, u52, u53, u54, u55, u56, u57, u58, u59, u60, u61, u62, u63, u64, u65, u66, u67, u68, u69, u70, u71, u72, u73, u74, u75, u76, u77, u78, u79, u80, u81, rfl, rfl, hk, GG, HO, HO2, HS⟩
  refine wp_seq ?_
  refine wp_region_lit ?_
  obtain ⟨p1, hp1⟩ : ∃ p, decide (((k : Nat) : Int) < ((C.length : Nat) : Int)) = p := ⟨_, rfl⟩
  refine s_val 51 rfl rfl (.bool p1) (run_lssT 3 _ _ _ rfl ((k : Nat) : Int) ((C.length : Nat) : Int) rfl rfl p1 hp1 _) ?_
  refine nr ?_; intro U h; simp only [z0, z1] at h; subst h
  cases p1
  · refine wpList_nil ?_
    refine then_n ?_
    refine wp_seq ?_
    refine wp_cond_false rfl ?_
    refine wp_exit ?_
    refine then_x ?_
    refine then_x ?_
    refine blk_x ?_
    refine then_n ?_
    refine wp_seq ?_
    refine wp_region_opq ?_
    intro OPS hY
    have y4 := hY 4 86 rfl
    have y11 := hY 11 93 rfl
    clear hY
    refine s_val 82 rfl rfl (.int .i64 1) (rfl) ?_
    refine nr ?_; intro U h; simp only [z0, z1] at h; subst h
    refine s_val 83 rfl rfl (.bool false) (run_eq_k 31 .i64 _ _ _ rfl Try.underlying31 _ _ rfl rfl false rfl _) ?_
    refine nr ?_; intro U h; simp only [z0, z1] at h; subst h
    refine s_val 84 rfl rfl (.int .i64 i) (rfl) ?_
    refine nr ?_; intro U h; simp only [z0, z1] at h; subst h
    refine s_val 85 rfl rfl (.bool true) (run_geqT 3 _ _ _ rfl i 0 rfl rfl true (by first | exact decide_eq_true (by omega) | exact decide_eq_false (by omega)) _) ?_
    refine nr ?_; intro U h; simp only [z0, z1] at h; subst h
    refine s_val 86 rfl rfl (.bool true) (rfl) ?_
    refine nr ?_; intro U h; simp only [z0, z1] at h; subst h
    refine s_gvalY 87 rfl rfl y4 rfl (.int .i64 i) (rfl) ?_
    refine nr ?_; intro U h; simp only [z0, z1] at h; subst h
    refine s_gvalY 88 rfl rfl y4 rfl (.slice ao2 C.length cap2) (rfl) ?_
    refine nr ?_; intro U h; simp only [z0, z1] at h; subst h
    refine s_gvalY 89 rfl rfl y4 rfl (.int .i64 ((C.length : Nat) : Int)) (run_len Try.underlying28 _ rfl _ _ _ rfl _) ?_
    refine nr ?_; intro U h; simp only [z0, z1] at h; subst h
    refine s_gvalY 90 rfl rfl y4 rfl (.int .i64 ((m : Nat) : Int)) (run_quo64 _ _ _ rfl ((C.length : Nat) : Int) 64 _ rfl rfl (by decide) ((tdivN _ 64).trans (by omega)) (by omega) (by omega) _) ?_
    refine nr ?_; intro U h; simp only [z0, z1] at h; subst h
    refine s_gvalY 91 rfl rfl y4 rfl (.bool false) (run_lssT 3 _ _ _ rfl i ((m : Nat) : Int) rfl rfl false (by first | exact decide_eq_true (by omega) | exact decide_eq_false (by omega)) _) ?_
    refine nr ?_; intro U h; simp only [z0, z1] at h; subst h
    refine s_val 92 rfl rfl (.bool false) (rfl) ?_
    refine nr ?_; intro U h; simp only [z0, z1] at h; subst h
    refine s_val 93 rfl rfl (.bool false) (rfl) ?_
    refine nr ?_; intro U h; simp only [z0, z1] at h; subst h
    refine s_skipY 94 rfl rfl y11 rfl ?_
    refine nr ?_; intro U h; simp only [z0, z1] at h; subst h
    refine s_skipY 95 rfl rfl y11 rfl ?_
    refine nr ?_; intro U h; simp only [z0, z1] at h; subst h
    refine s_skipY 96 rfl rfl y11 rfl ?_
    refine nr ?_; intro U h; simp only [z0, z1] at h; subst h
    refine s_val 97 rfl rfl (.bool false) (rfl) ?_
    refine nr ?_; intro U h; simp only [z0, z1] at h; subst h
    refine s_val 98 rfl rfl (.bool true) (run_eqB 4 _ _ _ rfl false false rfl rfl Try.underlying4 true rfl _) ?_
    refine nr ?_; intro U h; simp only [z0, z1] at h; subst h
    refine s_val 6 rfl rfl (.bool true) (rfl) ?_
    refine nr ?_; intro U h; simp only [z0, z1] at h; subst h
    refine wpList_nil ?_
    refine then_n ?_
    refine wp_ret ?_
    refine bodyPost_ret (results_tmp Try.results7 _ _ _) rfl ?_
    exact ⟨rfl, GG⟩
  have hkn : k < C.length := by have := of_decide_eq_true hp1; omega
  refine wpList_nil ?_
  refine then_n ?_
  refine wp_seq ?_
  refine wp_cond_true rfl ?_
  refine wp_skip ?_
  refine then_n ?_
  refine wp_seq ?_
  refine wp_block ?_
  refine wp_seq ?_
  refine wp_region_lit ?_
  refine s_val 52 rfl rfl (.int .i64 ((k : Nat) : Int)) (rfl) ?_
  refine nr ?_; intro U h; simp only [z0, z1] at h; subst h
  refine s_val 11 rfl rfl (.int .i64 ((k : Nat) : Int)) (rfl) ?_
  refine nr ?_; intro U h; simp only [z0, z1] at h; subst h
  refine wpList_nil ?_
  refine then_n ?_
  refine wp_seq ?_
  refine wp_region_lit ?_
  refine s_val 53 rfl rfl (.slice ao2 C.length cap2) (rfl) ?_
  refine nr ?_; intro U h; simp only [z0, z1] at h; subst h
  refine s_val 54 rfl rfl (.int .i64 ((k : Nat) : Int)) (rfl) ?_
  refine nr ?_; intro U h; simp only [z0, z1] at h; subst h
  obtain ⟨gi, cur, hgi, hBi, ki, hci, hmi, hsi, hti⟩ := HO.blk (j := k) (by omega)
  refine s_val 55 rfl rfl (.pointer (some ⟨gi, k, none⟩)) (bat _ _ rfl gi C.length cap2 k (by exact congrArg (fun a => Value.slice a C.length cap2) hgi) rfl (by omega) _) ?_
  refine nr ?_; intro U h; simp only [z0, z1] at h; subst h
  refine s_val 56 rfl rfl (.int .u8 ((C.getD k 0 : Nat) : Int)) (run_ld bT _ rfl ⟨gi, k, none⟩ rfl _ _ (HO.cellv hgi (by omega))) ?_
  refine nr ?_; intro U h; simp only [z0, z1] at h; subst h
  refine s_val 12 rfl rfl (.int .u8 ((C.getD k 0 : Nat) : Int)) (rfl) ?_
  refine nr ?_; intro U h; simp only [z0, z1] at h; subst h
  refine wpList_nil ?_
  refine then_n ?_
  refine wp_seq ?_
  refine wp_seq ?_
  refine wp_region_opq ?_
  intro OPS hY
  have y2 := hY 2 59 rfl
  clear hY
  refine s_val 57 rfl rfl (.int .i64 1) (rfl) ?_
  refine nr ?_; intro U h; simp only [z0, z1] at h; subst h
  refine s_val 58 rfl rfl (.bool false) (run_eq_k 31 .i64 _ _ _ rfl Try.underlying31 _ _ rfl rfl false rfl _) ?_
  refine nr ?_; intro U h; simp only [z0, z1] at h; subst h
  refine s_val 59 rfl rfl (.bool false) (rfl) ?_
  refine nr ?_; intro U h; simp only [z0, z1] at h; subst h
  refine s_skipY 60 rfl rfl y2 rfl ?_
  refine nr ?_; intro U h; simp only [z0, z1] at h; subst h
  refine s_skipY 61 rfl rfl y2 rfl ?_
  refine nr ?_; intro U h; simp only [z0, z1] at h; subst h
  refine s_skipY 62 rfl rfl y2 rfl ?_
  refine nr ?_; intro U h; simp only [z0, z1] at h; subst h
  refine s_skipY 63 rfl rfl y2 rfl ?_
  refine nr ?_; intro U h; simp only [z0, z1] at h; subst h
  refine s_val 64 rfl rfl (.bool false) (rfl) ?_
  refine nr ?_; intro U h; simp only [z0, z1] at h; subst h
  refine wpList_nil ?_
  refine then_n ?_
  refine wp_cond_false rfl ?_
  refine wp_skip ?_
  refine then_n ?_
  refine wp_seq ?_
  refine wp_region_lit ?_
  refine s_val 75 rfl rfl (.slice (some ⟨g2, 0, none⟩) C.length C.length) (rfl) ?_
  refine nr ?_; intro U h; simp only [z0, z1] at h; subst h
  refine s_val 76 rfl rfl (.int .i64 ((k : Nat) : Int)) (rfl) ?_
  refine nr ?_; intro U h; simp only [z0, z1] at h; subst h
  refine s_val 77 rfl rfl (.pointer (some ⟨g2, k, none⟩)) (bat _ _ rfl g2 C.length C.length k rfl rfl hkn _) ?_
  refine nr ?_; intro U h; simp only [z0, z1] at h; subst h
  refine s_val 78 rfl rfl (.int .u8 ((C.getD k 0 : Nat) : Int)) (run_ld bT _ rfl ⟨g2, k, none⟩ rfl _ _ (HO2.cellv rfl hkn)) ?_
  refine nr ?_; intro U h; simp only [z0, z1] at h; subst h
  refine s_val 79 rfl rfl (.int .u8 ((C.getD k 0 : Nat) : Int)) (rfl) ?_
  refine nr ?_; intro U h; simp only [z0, z1] at h; subst h
  refine s_val 80 rfl rfl (.bool false) (run_neq_k 5 .u8 _ _ _ rfl Try.underlying5 ((C.getD k 0 : Nat) : Int) ((C.getD k 0 : Nat) : Int) rfl rfl false (decide_eq_true (by have hq : C.getD k 0 = C.getD k 0 := rfl; rw [hq])) _) ?_
  refine nr ?_; intro U h; simp only [z0, z1] at h; subst h
  refine wpList_nil ?_
  refine then_n ?_
  refine wp_cond_false rfl ?_
  refine wp_skip ?_
  refine blk_n ?_
  refine then_n ?_
  refine wp_region_lit ?_
  refine s_val 81 rfl rfl (.int .i64 ((k + 1 : Nat) : Int)) (run_add64 _ _ _ rfl ((k : Nat) : Int) 1 _ rfl rfl (by omega) (by omega) (by omega) _) ?_
  refine nr ?_; intro U h; simp only [z0, z1] at h; subst h
  refine s_val 50 rfl rfl (.int .i64 ((k + 1 : Nat) : Int)) (rfl) ?_
  refine nr ?_; intro U h; simp only [z0, z1] at h; subst h
  refine wpList_nil ?_
  refine then_n ?_
  exact ⟨_, (by omega : C.length - (k + 1) < C.length - k), k + 1, u6, .int .i64 ((k : Nat) : Int), .int .u8 ((C.getD k 0 : Nat) : Int), .bool true, .int .i64 ((k : Nat) : Int), .slice ao2 C.length cap2, .int .i64 ((k : Nat) : Int), .pointer (some ⟨gi, k, none⟩), .int .u8 ((C.getD k 0 : Nat) : Int), .int .i64 1, .bool false, .bool false, undef, undef, undef, undef, .bool false, u65, u66, u67, u68, u69, u70, u71, u72, u73, u74, .slice (some ⟨g2, 0, none⟩) C.length C.length, .int .i64 ((k : Nat) : Int), .pointer (some ⟨g2, k, none⟩), .int .u8 ((C.getD k 0 : Nat) : Int), .int .u8 ((C.getD k 0 : Nat) : Int), .bool false, .int .i64 ((k + 1 : Nat) : Int), rfl, rfl, hkn, GG, HO, HO2, HS⟩
set_option maxRecDepth 100000 in
set_option maxHeartbeats 4000000 in
theorem diskApart_long (w : World) (ao : Option Addr) (cap : Nat) (l : List Nat) (HN : NC w .u8 ao cap l) (hl : l.length ≤ 140737488355000) (ao3 : Option Addr) (cap3 : Nat) (s : List Nat) (HS : NC w .u8 ao3 cap3 s) (_hsl : s.length ≤ 140737488355000) (m : Nat) (hm : m = min (l.length / 64) 40) (i : Nat) (hi : i < m) (hs : 64 < s.length) : Calls Try.prog 7 #[.slice ao l.length cap, .int .i64 ((i : Nat) : Int), .slice ao3 s.length cap3] w fun e w' => e = .returned (.bool true) ∧ Gro w w' := by
  refine s_enter Try.func7 rfl Try.ntmps7 [.slice ao l.length cap, .int .i64 ((i : Nat) : Int), .slice ao3 s.length cap3] [.slice ao l.length cap, .int .i64 ((i : Nat) : Int), .slice ao3 s.length cap3, undef, undef, undef, undef, undef, undef, undef, undef, undef, undef, undef, undef, undef, undef, undef, undef, undef, undef, undef, undef, undef, undef, undef, undef, undef, undef, undef, undef, undef, undef, undef, undef, undef, undef, undef, undef, undef, undef, undef, undef, undef, undef, undef, undef, undef, undef, undef, undef, undef, undef, undef, undef, undef, undef, undef, undef, undef, undef, undef, undef, undef, undef, undef, undef, undef, undef, undef, undef, undef, undef, undef, undef, undef, undef, undef, undef, undef, undef, undef, undef, undef, undef, undef, undef, undef, undef, undef, undef, undef, undef, undef, undef, undef, undef, undef, undef] rfl ?_
  have GG := Gro.refl w
  have HL : Shut (∀ ad, ao = some ad → 0 < l.length → ad.block < w.heap.size) := ⟨HN.lt⟩
  have HLS : Shut (∀ ad, ao3 = some ad → 0 < s.length → ad.block < w.heap.size) := ⟨HS.lt⟩
  obtain ⟨C, hC⟩ : ∃ C, C = l.take (m * 64) := ⟨_, rfl⟩
  have hCl : C.length = m * 64 := by rw [hC, List.length_take]; omega
  have HC : NC w .u8 ao cap C := by rw [hC]; exact HN.take _ (by omega)
  have HLC : Shut (∀ ad, ao = some ad → 0 < C.length → ad.block < w.heap.size) := ⟨HC.lt⟩
  clear hC HN HL
  refine wp_seq ?_
  refine wp_region_lit ?_
  refine s_val 6 rfl rfl (.bool false) (rfl) ?_
  refine nr ?_; intro U h; simp only [z0, z1] at h; subst h
  refine wpList_nil ?_
  refine then_n ?_
  refine wp_seq ?_
  refine wp_region_lit ?_
  refine s_bsl 13 rfl rfl 28 0 _ rfl [] rfl #[] 5 (by kernel_rfl) ?_
  intro w1 g G eg kg
  have bg := size_base GG eg
  replace HC := HC.gro G
  replace HS := HS.gro G
  replace GG := GG.trans G
  clear G eg
  refine nr ?_; intro U h; simp only [z0, z1] at h; subst h
  refine s_val 14 rfl rfl (.slice ao l.length cap) (rfl) ?_
  refine nr ?_; intro U h; simp only [z0, z1] at h; subst h
  refine s_val 15 rfl rfl (.slice ao l.length cap) (rfl) ?_
  refine nr ?_; intro U h; simp only [z0, z1] at h; subst h
  refine s_val 16 rfl rfl (.int .i64 ((l.length : Nat) : Int)) (run_len Try.underlying28 _ rfl _ _ _ rfl _) ?_
  refine nr ?_; intro U h; simp only [z0, z1] at h; subst h
  refine s_val 17 rfl rfl (.int .i64 ((l.length / 64 : Nat) : Int)) (run_quo64 _ _ _ rfl ((l.length : Nat) : Int) 64 _ rfl rfl (by decide) (tdivN _ 64) (by omega) (by omega) _) ?_
  refine nr ?_; intro U h; simp only [z0, z1] at h; subst h
  refine s_val 18 rfl rfl (.int .i64 ((m : Nat) : Int)) (run_min64 _ _ _ rfl ((l.length / 64 : Nat) : Int) 40 _ rfl rfl (by omega) _) ?_
  refine nr ?_; intro U h; simp only [z0, z1] at h; subst h
  refine s_val 19 rfl rfl (.int .i64 ((C.length : Nat) : Int)) (run_mul64 _ _ _ rfl ((m : Nat) : Int) 64 _ rfl rfl (by omega) (by omega) (by omega) _) ?_
  refine nr ?_; intro U h; simp only [z0, z1] at h; subst h
  refine s_val 20 rfl rfl (.slice ao C.length cap) (run_cut0 bT _ _ rfl ao l.length cap C.length rfl rfl (by have := HC.fit; omega) _) ?_
  refine nr ?_; intro U h; simp only [z0, z1] at h; subst h
  have HO : OB _ 5 .u8 g (some ⟨g, 0, none⟩) 0 [] := OB.made kg (Nat.le_refl _) (Nat.le_refl _) (Nat.zero_le _) rfl rfl (fun x hx => by cases hx)
  refine s_app bT 21 rfl rfl _ _ rfl rfl HO (l' := C) rfl (HC) (by simp only [List.length_nil]; omega) (by decide) (Nat.le_of_lt (lt_of_heap kg)) ?_
  intro ao2 cap2 w2 HO2 BB
  rw [List.nil_append] at HO2
  simp only [List.nil_append]
  clear HO
  have HO := HO2.mono bg
  clear HO2
  replace HC := HC.below BB (fun ad ha h0 => by have := HLC.out ad ha h0; omega)
  replace HS := HS.below BB (fun ad ha h0 => by have := HLS.out ad ha h0; omega)
  replace GG := below_gro GG BB bg
  clear kg BB
  refine nr ?_; intro U h; simp only [z0, z1] at h; subst h
  refine s_val 0 rfl rfl (.slice ao2 C.length cap2) (rfl) ?_
  refine nr ?_; intro U h; simp only [z0] at h; subst h
  refine wpList_nil ?_
  refine then_n ?_
  refine wp_seq ?_
  refine wp_region_lit ?_
  refine s_val 23 rfl rfl (.slice ao2 C.length cap2) (rfl) ?_
  refine nr ?_; intro U h; simp only [z0, z1] at h; subst h
  have HLT := HO.ge
  refine s_callx 24 rfl rfl _ 19 Try.call19 rfl rfl _ rfl [.slice ao2 C.length cap2] rfl (of_ok _ ao2 cap2 C HO.nc m hCl (by omega)) (fun _ _ ⟨_, _, he, _⟩ => ⟨_, he⟩) ?_
  rintro v w3 ⟨p, sg, he, G, bp, bsg, HD⟩
  cases he
  have HA : ∀ ad, ao2 = some ad → ad.block ≠ p ∧ ad.block ≠ sg := fun ad ha => by have := HLT ad ha; omega
  clear HLT
  have bp := Nat.le_trans GG.size bp
  have bsg := Nat.le_trans GG.size bsg
  replace HS := HS.gro G
  replace HO := HO.gro G
  replace GG := GG.trans G
  clear G
  refine nr ?_; intro U h; simp only [z0, z1] at h; subst h
  refine s_val 22 rfl rfl (.tuple #[.pointer (some ⟨p, 0, none⟩), .int .i64 0]) (rfl) ?_
  refine nr ?_; intro U h; simp only [z0, z1] at h; subst h
  refine s_val 25 rfl rfl (.pointer (some ⟨p, 0, none⟩)) (rfl) ?_
  refine nr ?_; intro U h; simp only [z0, z1] at h; subst h
  refine s_val 26 rfl rfl (.int .i64 0) (rfl) ?_
  refine nr ?_; intro U h; simp only [z0, z1] at h; subst h
  refine s_val 7 rfl rfl (.pointer (some ⟨p, 0, none⟩)) (rfl) ?_
  refine nr ?_; intro U h; simp only [z0, z1] at h; subst h
  refine s_val 8 rfl rfl (.int .i64 0) (rfl) ?_
  refine nr ?_; intro U h; simp only [z0, z1] at h; subst h
  refine wpList_nil ?_
  refine then_n ?_
  refine wp_seq ?_
  refine wp_seq ?_
  refine wp_region_opq ?_
  intro OPS hY
  have y2 := hY 2 29 rfl
  have y6 := hY 6 33 rfl
  clear hY
  refine s_val 27 rfl rfl (.pointer (some ⟨p, 0, none⟩)) (rfl) ?_
  refine nr ?_; intro U h; simp only [z0, z1] at h; subst h
  refine s_val 28 rfl rfl (.bool false) (run_eqnp 23 _ _ _ rfl _ rfl rfl Try.underlying23 _) ?_
  refine nr ?_; intro U h; simp only [z0, z1] at h; subst h
  refine s_val 29 rfl rfl (.bool false) (rfl) ?_
  refine nr ?_; intro U h; simp only [z0, z1] at h; subst h
  refine s_gvalY 30 rfl rfl y2 rfl (.int .i64 0) (rfl) ?_
  refine nr ?_; intro U h; simp only [z0, z1] at h; subst h
  refine s_gvalY 31 rfl rfl y2 rfl (.bool false) (run_neq_k 31 .i64 _ _ _ rfl Try.underlying31 _ _ rfl rfl false rfl _) ?_
  refine nr ?_; intro U h; simp only [z0, z1] at h; subst h
  refine s_val 32 rfl rfl (.bool false) (rfl) ?_
  refine nr ?_; intro U h; simp only [z0, z1] at h; subst h
  refine s_val 33 rfl rfl (.bool false) (rfl) ?_
  refine nr ?_; intro U h; simp only [z0, z1] at h; subst h
  refine s_gcallvY 34 rfl rfl y6 rfl _ 10 Try.call10 rfl rfl _ rfl [] rfl (fixed_true _) ?_
  intro w4 G
  replace HS := HS.gro G
  replace HO := HO.gro G
  replace HD := HD.gro G
  replace GG := GG.trans G
  clear G
  refine nr ?_; intro U h; simp only [z0, z1] at h; subst h
  refine s_gvalY 35 rfl rfl y6 rfl (.bool false) (run_nt _ _ rfl true rfl) ?_
  refine nr ?_; intro U h; simp only [z0, z1] at h; subst h
  refine s_val 36 rfl rfl (.bool false) (rfl) ?_
  refine nr ?_; intro U h; simp only [z0, z1] at h; subst h
  refine wpList_nil ?_
  refine then_n ?_
  refine wp_cond_false rfl ?_
  refine wp_skip ?_
  refine then_n ?_
  refine wp_seq ?_
  refine wp_region_lit ?_
  refine s_val 37 rfl rfl (.pointer (some ⟨p, 0, none⟩)) (rfl) ?_
  refine nr ?_; intro U h; simp only [z0, z1] at h; subst h
  refine s_val 38 rfl rfl (.int .i64 ((i : Nat) : Int)) (rfl) ?_
  refine nr ?_; intro U h; simp only [z0, z1] at h; subst h
  refine s_val 39 rfl rfl (.slice ao3 s.length cap3) (rfl) ?_
  refine nr ?_; intro U h; simp only [z0, z1] at h; subst h
  refine s_callv 40 rfl rfl _ 11 Try.call11 rfl rfl _ rfl [.pointer (some ⟨p, 0, none⟩), .int .i64 ((i : Nat) : Int), .slice ao3 s.length cap3] rfl (write_long _ p sg m C (-1) 0 HD ao3 cap3 s i hi hs) ?_
  intro w5 G
  replace HS := HS.gro G
  replace HO := HO.gro G
  replace HD := HD.gro G
  replace GG := GG.trans G
  clear G
  refine nr ?_; intro U h; simp only [z0, z1] at h; subst h
  refine s_val 9 rfl rfl (.int .i64 4) (rfl) ?_
  refine nr ?_; intro U h; simp only [z0, z1] at h; subst h
  refine wpList_nil ?_
  refine then_n ?_
  refine wp_seq ?_
  refine wp_region_lit ?_
  refine s_val 41 rfl rfl (.pointer (some ⟨p, 0, none⟩)) (rfl) ?_
  refine nr ?_; intro U h; simp only [z0, z1] at h; subst h
  refine s_callx 42 rfl rfl _ 18 Try.call18 rfl rfl _ rfl [.pointer (some ⟨p, 0, none⟩)] rfl (bytes_len _ p sg m C _ _ HD) (fun _ _ ⟨_, he, _⟩ => ⟨_, he⟩) ?_
  rintro v w6 ⟨g2, he, G, bg2, k2⟩
  cases he
  have bg2 := Nat.le_trans GG.size bg2
  replace HS := HS.gro G
  replace HO := HO.gro G
  replace HD := HD.gro G
  replace GG := GG.trans G
  clear G
  have HO2 := ob_all k2 bg2 HD.byte (by simp only [maxLen]; omega)
  clear k2
  refine nr ?_; intro U h; simp only [z0, z1] at h; subst h
  refine s_val 10 rfl rfl (.slice (some ⟨g2, 0, none⟩) C.length C.length) (rfl) ?_
  refine nr ?_; intro U h; simp only [z0, z1] at h; subst h
  refine wpList_nil ?_
  refine then_n ?_
  refine wp_seq ?_
  refine wp_seq ?_
  refine wp_region_lit ?_
  refine s_val 43 rfl rfl (.slice (some ⟨g2, 0, none⟩) C.length C.length) (rfl) ?_
  refine nr ?_; intro U h; simp only [z0, z1] at h; subst h
  refine s_val 44 rfl rfl (.int .i64 ((C.length : Nat) : Int)) (run_len Try.underlying28 _ rfl _ _ _ rfl _) ?_
  refine nr ?_; intro U h; simp only [z0, z1] at h; subst h
  refine s_val 45 rfl rfl (.slice ao2 C.length cap2) (rfl) ?_
  refine nr ?_; intro U h; simp only [z0, z1] at h; subst h
  refine s_val 46 rfl rfl (.int .i64 ((C.length : Nat) : Int)) (run_len Try.underlying28 _ rfl _ _ _ rfl _) ?_
  refine nr ?_; intro U h; simp only [z0, z1] at h; subst h
  refine s_val 47 rfl rfl (.bool false) (run_neq_k 3 .i64 _ _ _ rfl Try.underlying3 ((C.length : Nat) : Int) ((C.length : Nat) : Int) rfl rfl false (decide_eq_true (by omega)) _) ?_
  refine nr ?_; intro U h; simp only [z0, z1] at h; subst h
  refine wpList_nil ?_
  refine then_n ?_
  refine wp_cond_false rfl ?_
  refine wp_skip ?_
  refine then_n ?_
  refine wp_seq ?_
  refine wp_seq ?_
  refine wp_region_lit ?_
  refine s_val 48 rfl rfl (.slice (some ⟨g2, 0, none⟩) C.length C.length) (rfl) ?_
  refine nr ?_; intro U h; simp only [z0, z1] at h; subst h
  refine s_val 49 rfl rfl (.int .i64 ((C.length : Nat) : Int)) (run_len Try.underlying28 _ rfl _ _ _ rfl _) ?_
  refine nr ?_; intro U h; simp only [z0, z1] at h; subst h
  refine s_val 50 rfl rfl (.int .i64 0) (rfl) ?_
  refine nr ?_; intro U h; simp only [z0, z1] at h; subst h
  refine wpList_nil ?_
  refine then_n ?_
  refine wp_block ?_
  refine wp_loopN (fun mz az wv => ∃ (k : Nat) (u6 u11 u12 u51 u52 u53 u54 u55 u56 u57 u58 u59 u60 u61 u62 u63 u64 u65 u66 u67 u68 u69 u70 u71 u72 u73 u74 u75 u76 u77 u78 u79 u80 u81 : Value), mz = C.length - k ∧ az = ⟨[.slice ao2 C.length cap2, .int .i64 ((i : Nat) : Int), .slice ao3 s.length cap3, undef, undef, undef, u6, .pointer (some ⟨p, 0, none⟩), .int .i64 0, .int .i64 4, .slice (some ⟨g2, 0, none⟩) C.length C.length, u11, u12, .slice (some ⟨g, 0, none⟩) (([] : List Nat).length) 0, .slice ao l.length cap, .slice ao l.length cap, .int .i64 ((l.length : Nat) : Int), .int .i64 ((l.length / 64 : Nat) : Int), .int .i64 ((m : Nat) : Int), .int .i64 ((C.length : Nat) : Int), .slice ao C.length cap, .slice ao2 C.length cap2, .tuple #[.pointer (some ⟨p, 0, none⟩), .int .i64 0], .slice ao2 C.length cap2, .tuple #[.pointer (some ⟨p, 0, none⟩), .int .i64 0], .pointer (some ⟨p, 0, none⟩), .int .i64 0, .pointer (some ⟨p, 0, none⟩), .bool false, .bool false, .int .i64 0, .bool false, .bool false, .bool false, .bool true, .bool false, .bool false, .pointer (some ⟨p, 0, none⟩), .int .i64 ((i : Nat) : Int), .slice ao3 s.length cap3, .int .i64 4, .pointer (some ⟨p, 0, none⟩), .slice (some ⟨g2, 0, none⟩) C.length C.length, .slice (some ⟨g2, 0, none⟩) C.length C.length, .int .i64 ((C.length : Nat) : Int), .slice ao2 C.length cap2, .int .i64 ((C.length : Nat) : Int), .bool false, .slice (some ⟨g2, 0, none⟩) C.length C.length, .int .i64 ((C.length : Nat) : Int), .int .i64 ((k : Nat) : Int), u51, u52, u53, u54, u55, u56, u57, u58, u59, u60, u61, u62, u63, u64, u65, u66, u67, u68, u69, u70, u71, u72, u73, u74, u75, u76, u77, u78, u79, u80, u81, undef, undef, undef, undef, undef, undef, undef, undef, undef, undef, undef, undef, undef, undef, undef, undef, undef].toArray, []⟩ ∧ k ≤ C.length ∧ Gro w wv ∧ OB wv 5 .u8 w.heap.size ao2 cap2 C ∧ OB wv 5 .u8 w.heap.size (some ⟨g2, 0, none⟩) C.length C ∧ NC wv .u8 ao3 cap3 s) ?_ _ ⟨0, .bool false, undef, undef, undef, undef, undef, undef, undef, undef, undef, undef, undef, undef, undef, undef, undef, undef, undef, undef, undef, undef, undef, undef, undef, undef, undef, undef, undef, undef, undef, undef, undef, undef, undef, rfl, rfl, Nat.zero_le _, GG, HO, HO2, HS⟩
  clear GG HS HO HO2
  rintro mz az wv ⟨k, u6, u11, u12, u51, u52, u53, u54, u55, u56, u57, u58, u59, u60, u61, u62, u63, u64, u65, u66, u67, u68, u69, u70, u71, u72, u73, u74, u75, u76, u77, u78, u79, u80, u81, rfl, rfl, hk, GG, HO, HO2, HS⟩
  refine wp_seq ?_
  refine wp_region_lit ?_
  obtain ⟨p1, hp1⟩ : ∃ p, decide (((k : Nat) : Int) < ((C.length : Nat) : Int)) = p := ⟨_, rfl⟩
  refine s_val 51 rfl rfl (.bool p1) (run_lssT 3 _ _ _ rfl ((k : Nat) : Int) ((C.length : Nat) : Int) rfl rfl p1 hp1 _) ?_
  refine nr ?_; intro U h; simp only [z0, z1] at h; subst h
  cases p1
  · refine wpList_nil ?_
    refine then_n ?_
    refine wp_seq ?_
    refine wp_cond_false rfl ?_
    refine wp_exit ?_
    refine then_x ?_
    refine then_x ?_
    refine blk_x ?_
    refine then_n ?_
    refine wp_seq ?_
    refine wp_region_opq ?_
    intro OPS hY
    have y4 := hY 4 86 rfl
    have y11 := hY 11 93 rfl
    clear hY
    refine s_val 82 rfl rfl (.int .i64 4) (rfl) ?_
    refine nr ?_; intro U h; simp only [z0, z1] at h; subst h
    refine s_val 83 rfl rfl (.bool false) (run_eq_k 31 .i64 _ _ _ rfl Try.underlying31 _ _ rfl rfl false rfl _) ?_
    refine nr ?_; intro U h; simp only [z0, z1] at h; subst h
    refine s_val 84 rfl rfl (.int .i64 ((i : Nat) : Int)) (rfl) ?_
    refine nr ?_; intro U h; simp only [z0, z1] at h; subst h
    refine s_val 85 rfl rfl (.bool true) (run_geqT 3 _ _ _ rfl ((i : Nat) : Int) 0 rfl rfl true (by first | exact decide_eq_true (by omega) | exact decide_eq_false (by omega)) _) ?_
    refine nr ?_; intro U h; simp only [z0, z1] at h; subst h
    refine s_val 86 rfl rfl (.bool true) (rfl) ?_
    refine nr ?_; intro U h; simp only [z0, z1] at h; subst h
    refine s_gvalY 87 rfl rfl y4 rfl (.int .i64 ((i : Nat) : Int)) (rfl) ?_
    refine nr ?_; intro U h; simp only [z0, z1] at h; subst h
    refine s_gvalY 88 rfl rfl y4 rfl (.slice ao2 C.length cap2) (rfl) ?_
    refine nr ?_; intro U h; simp only [z0, z1] at h; subst h
    refine s_gvalY 89 rfl rfl y4 rfl (.int .i64 ((C.length : Nat) : Int)) (run_len Try.underlying28 _ rfl _ _ _ rfl _) ?_
    refine nr ?_; intro U h; simp only [z0, z1] at h; subst h
    refine s_gvalY 90 rfl rfl y4 rfl (.int .i64 ((m : Nat) : Int)) (run_quo64 _ _ _ rfl ((C.length : Nat) : Int) 64 _ rfl rfl (by decide) ((tdivN _ 64).trans (by omega)) (by omega) (by omega) _) ?_
    refine nr ?_; intro U h; simp only [z0, z1] at h; subst h
    refine s_gvalY 91 rfl rfl y4 rfl (.bool true) (run_lssT 3 _ _ _ rfl ((i : Nat) : Int) ((m : Nat) : Int) rfl rfl true (by first | exact decide_eq_true (by omega) | exact decide_eq_false (by omega)) _) ?_
    refine nr ?_; intro U h; simp only [z0, z1] at h; subst h
    refine s_val 92 rfl rfl (.bool true) (rfl) ?_
    refine nr ?_; intro U h; simp only [z0, z1] at h; subst h
    refine s_val 93 rfl rfl (.bool true) (rfl) ?_
    refine nr ?_; intro U h; simp only [z0, z1] at h; subst h
    refine s_gvalY 94 rfl rfl y11 rfl (.slice ao3 s.length cap3) (rfl) ?_
    refine nr ?_; intro U h; simp only [z0, z1] at h; subst h
    refine s_gvalY 95 rfl rfl y11 rfl (.int .i64 ((s.length : Nat) : Int)) (run_len Try.underlying28 _ rfl _ _ _ rfl _) ?_
    refine nr ?_; intro U h; simp only [z0, z1] at h; subst h
    refine s_gvalY 96 rfl rfl y11 rfl (.bool false) (run_leqT 3 _ _ _ rfl ((s.length : Nat) : Int) 64 rfl rfl false (by first | exact decide_eq_true (by omega) | exact decide_eq_false (by omega)) _) ?_
    refine nr ?_; intro U h; simp only [z0, z1] at h; subst h
    refine s_val 97 rfl rfl (.bool false) (rfl) ?_
    refine nr ?_; intro U h; simp only [z0, z1] at h; subst h
    refine s_val 98 rfl rfl (.bool true) (run_eqB 4 _ _ _ rfl false false rfl rfl Try.underlying4 true rfl _) ?_
    refine nr ?_; intro U h; simp only [z0, z1] at h; subst h
    refine s_val 6 rfl rfl (.bool true) (rfl) ?_
    refine nr ?_; intro U h; simp only [z0, z1] at h; subst h
    refine wpList_nil ?_
    refine then_n ?_
    refine wp_ret ?_
    refine bodyPost_ret (results_tmp Try.results7 _ _ _) rfl ?_
    exact ⟨rfl, GG⟩
  have hkn : k < C.length := by have := of_decide_eq_true hp1; omega
  refine wpList_nil ?_
  refine then_n ?_
  refine wp_seq ?_
  refine wp_cond_true rfl ?_
  refine wp_skip ?_
  refine then_n ?_
  refine wp_seq ?_
  refine wp_block ?_
  refine wp_seq ?_
  refine wp_region_lit ?_
  refine s_val 52 rfl rfl (.int .i64 ((k : Nat) : Int)) (rfl) ?_
  refine nr ?_; intro U h; simp only [z0, z1] at h; subst h
  refine s_val 11 rfl rfl (.int .i64 ((k : Nat) : Int)) (rfl) ?_
  refine nr ?_; intro U h; simp only [z0, z1] at h; subst h
  refine wpList_nil ?_
  refine then_n ?_
  refine wp_seq ?_
  refine wp_region_lit ?_
  refine s_val 53 rfl rfl (.slice ao2 C.length cap2) (rfl) ?_
  refine nr ?_; intro U h; simp only [z0, z1] at h; subst h
  refine s_val 54 rfl rfl (.int .i64 ((k : Nat) : Int)) (rfl) ?_
  refine nr ?_; intro U h; simp only [z0, z1] at h; subst h
  obtain ⟨gi, cur, hgi, hBi, ki, hci, hmi, hsi, hti⟩ := HO.blk (j := k) (by omega)
  refine s_val 55 rfl rfl (.pointer (some ⟨gi, k, none⟩)) (bat _ _ rfl gi C.length cap2 k (by exact congrArg (fun a => Value.slice a C.length cap2) hgi) rfl (by omega) _) ?_
  refine nr ?_; intro U h; simp only [z0, z1] at h; subst h
  refine s_val 56 rfl rfl (.int .u8 ((C.getD k 0 : Nat) : Int)) (run_ld bT _ rfl ⟨gi, k, none⟩ rfl _ _ (HO.cellv hgi (by omega))) ?_
  refine nr ?_; intro U h; simp only [z0, z1] at h; subst h
  refine s_val 12 rfl rfl (.int .u8 ((C.getD k 0 : Nat) : Int)) (rfl) ?_
  refine nr ?_; intro U h; simp only [z0, z1] at h; subst h
  refine wpList_nil ?_
  refine then_n ?_
  refine wp_seq ?_
  refine wp_seq ?_
  refine wp_region_opq ?_
  intro OPS hY
  have y2 := hY 2 59 rfl
  clear hY
  refine s_val 57 rfl rfl (.int .i64 4) (rfl) ?_
  refine nr ?_; intro U h; simp only [z0, z1] at h; subst h
  refine s_val 58 rfl rfl (.bool false) (run_eq_k 31 .i64 _ _ _ rfl Try.underlying31 _ _ rfl rfl false rfl _) ?_
  refine nr ?_; intro U h; simp only [z0, z1] at h; subst h
  refine s_val 59 rfl rfl (.bool false) (rfl) ?_
  refine nr ?_; intro U h; simp only [z0, z1] at h; subst h
  refine s_skipY 60 rfl rfl y2 rfl ?_
  refine nr ?_; intro U h; simp only [z0, z1] at h; subst h
  refine s_skipY 61 rfl rfl y2 rfl ?_
  refine nr ?_; intro U h; simp only [z0, z1] at h; subst h
  refine s_skipY 62 rfl rfl y2 rfl ?_
  refine nr ?_; intro U h; simp only [z0, z1] at h; subst h
  refine s_skipY 63 rfl rfl y2 rfl ?_
  refine nr ?_; intro U h; simp only [z0, z1] at h; subst h
  refine s_val 64 rfl rfl (.bool false) (rfl) ?_
  refine nr ?_; intro U h; simp only [z0, z1] at h; subst h
  refine wpList_nil ?_
  refine then_n ?_
  refine wp_cond_false rfl ?_
  refine wp_skip ?_
  refine then_n ?_
  refine wp_seq ?_
  refine wp_region_lit ?_
  refine s_val 75 rfl rfl (.slice (some ⟨g2, 0, none⟩) C.length C.length) (rfl) ?_
  refine nr ?_; intro U h; simp only [z0, z1] at h; subst h
  refine s_val 76 rfl rfl (.int .i64 ((k : Nat) : Int)) (rfl) ?_
  refine nr ?_; intro U h; simp only [z0, z1] at h; subst h
  refine s_val 77 rfl rfl (.pointer (some ⟨g2, k, none⟩)) (bat _ _ rfl g2 C.length C.length k rfl rfl hkn _) ?_
  refine nr ?_; intro U h; simp only [z0, z1] at h; subst h
  refine s_val 78 rfl rfl (.int .u8 ((C.getD k 0 : Nat) : Int)) (run_ld bT _ rfl ⟨g2, k, none⟩ rfl _ _ (HO2.cellv rfl hkn)) ?_
  refine nr ?_; intro U h; simp only [z0, z1] at h; subst h
  refine s_val 79 rfl rfl (.int .u8 ((C.getD k 0 : Nat) : Int)) (rfl) ?_
  refine nr ?_; intro U h; simp only [z0, z1] at h; subst h
  refine s_val 80 rfl rfl (.bool false) (run_neq_k 5 .u8 _ _ _ rfl Try.underlying5 ((C.getD k 0 : Nat) : Int) ((C.getD k 0 : Nat) : Int) rfl rfl false (decide_eq_true (by have hq : C.getD k 0 = C.getD k 0 := rfl; rw [hq])) _) ?_
  refine nr ?_; intro U h; simp only [z0, z1] at h; subst h
  refine wpList_nil ?_
  refine then_n ?_
  refine wp_cond_false rfl ?_
  refine wp_skip ?_
  refine blk_n ?_
  refine then_n ?_
  refine wp_region_lit ?_
  refine s_val 81 rfl rfl (.int .i64 ((k + 1 : Nat) : Int)) (run_add64 _ _ _ rfl ((k : Nat) : Int) 1 _ rfl rfl (by omega) (by omega) (by omega) _) ?_
  refine nr ?_; intro U h; simp only [z0, z1] at h; subst h
  refine s_val 50 rfl rfl (.int .i64 ((k + 1 : Nat) : Int)) (rfl) ?_
  refine nr ?_; intro U h; simp only [z0, z1] at h; subst h
  refine wpList_nil ?_
  refine then_n ?_
  exact ⟨_, (by omega : C.length - (k + 1) < C.length - k), k + 1, u6, .int .i64 ((k : Nat) : Int), .int .u8 ((C.getD k 0 : Nat) : Int), .bool true, .int .i64 ((k : Nat) : Int), .slice ao2 C.length cap2, .int .i64 ((k : Nat) : Int), .pointer (some ⟨gi, k, none⟩), .int .u8 ((C.getD k 0 : Nat) : Int), .int .i64 4, .bool false, .bool false, undef, undef, undef, undef, .bool false, u65, u66, u67, u68, u69, u70, u71, u72, u73, u74, .slice (some ⟨g2, 0, none⟩) C.length C.length, .int .i64 ((k : Nat) : Int), .pointer (some ⟨g2, k, none⟩), .int .u8 ((C.getD k 0 : Nat) : Int), .int .u8 ((C.getD k 0 : Nat) : Int), .bool false, .int .i64 ((k + 1 : Nat) : Int), rfl, rfl, hkn, GG, HO, HO2, HS⟩
set_option maxRecDepth 100000 in
set_option maxHeartbeats 4000000 in
theorem diskApart_ok (w : World) (ao : Option Addr) (cap : Nat) (l : List Nat) (HN : NC w .u8 ao cap l) (hl : l.length ≤ 140737488355000) (ao3 : Option Addr) (cap3 : Nat) (s : List Nat) (HS : NC w .u8 ao3 cap3 s) (_hsl : s.length ≤ 140737488355000) (m : Nat) (hm : m = min (l.length / 64) 40) (i : Nat) (hi : i < m) (hs : s.length ≤ 64) : Calls Try.prog 7 #[.slice ao l.length cap, .int .i64 ((i : Nat) : Int), .slice ao3 s.length cap3] w fun e w' => e = .returned (.bool true) ∧ Gro w w' := by
  refine s_enter Try.func7 rfl Try.ntmps7 [.slice ao l.length cap, .int .i64 ((i : Nat) : Int), .slice ao3 s.length cap3] [.slice ao l.length cap, .int .i64 ((i : Nat) : Int), .slice ao3 s.length cap3, undef, undef, undef, undef, undef, undef, undef, undef, undef, undef, undef, undef, undef, undef, undef, undef, undef, undef, undef, undef, undef, undef, undef, undef, undef, undef, undef, undef, undef, undef, undef, undef, undef, undef, undef, undef, undef, undef, undef, undef, undef, undef, undef, undef, undef, undef, undef, undef, undef, undef, undef, undef, undef, undef, undef, undef, undef, undef, undef, undef, undef, undef, undef, undef, undef, undef, undef, undef, undef, undef, undef, undef, undef, undef, undef, undef, undef, undef, undef, undef, undef, undef, undef, undef, undef, undef, undef, undef, undef, undef, undef, undef, undef, undef, undef, undef] rfl ?_
  have GG := Gro.refl w
  have HL : Shut (∀ ad, ao = some ad → 0 < l.length → ad.block < w.heap.size) := ⟨HN.lt⟩
  have HLS : Shut (∀ ad, ao3 = some ad → 0 < s.length → ad.block < w.heap.size) := ⟨HS.lt⟩
  obtain ⟨C, hC⟩ : ∃ C, C = l.take (m * 64) := ⟨_, rfl⟩
  have hCl : C.length = m * 64 := by rw [hC, List.length_take]; omega
  have HC : NC w .u8 ao cap C := by rw [hC]; exact HN.take _ (by omega)
  have HLC : Shut (∀ ad, ao = some ad → 0 < C.length → ad.block < w.heap.size) := ⟨HC.lt⟩
  clear hC HN HL
  refine wp_seq ?_
  refine wp_region_lit ?_
  refine s_val 6 rfl rfl (.bool false) (rfl) ?_
  refine nr ?_; intro U h; simp only [z0, z1] at h; subst h
  refine wpList_nil ?_
  refine then_n ?_
  refine wp_seq ?_
  refine wp_region_lit ?_
  refine s_bsl 13 rfl rfl 28 0 _ rfl [] rfl #[] 5 (by kernel_rfl) ?_
  intro w1 g G eg kg
  have bg := size_base GG eg
  replace HC := HC.gro G
  replace HS := HS.gro G
  replace GG := GG.trans G
  clear G eg
  refine nr ?_; intro U h; simp only [z0, z1] at h; subst h
  refine s_val 14 rfl rfl (.slice ao l.length cap) (rfl) ?_
  refine nr ?_; intro U h; simp only [z0, z1] at h; subst h
  refine s_val 15 rfl rfl (.slice ao l.length cap) (rfl) ?_
  refine nr ?_; intro U h; simp only [z0, z1] at h; subst h
  refine s_val 16 rfl rfl (.int .i64 ((l.length : Nat) : Int)) (run_len Try.underlying28 _ rfl _ _ _ rfl _) ?_
  refine nr ?_; intro U h; simp only [z0, z1] at h; subst h
  refine s_val 17 rfl rfl (.int .i64 ((l.length / 64 : Nat) : Int)) (run_quo64 _ _ _ rfl ((l.length : Nat) : Int) 64 _ rfl rfl (by decide) (tdivN _ 64) (by omega) (by omega) _) ?_
  refine nr ?_; intro U h; simp only [z0, z1] at h; subst h
  refine s_val 18 rfl rfl (.int .i64 ((m : Nat) : Int)) (run_min64 _ _ _ rfl ((l.length / 64 : Nat) : Int) 40 _ rfl rfl (by omega) _) ?_
  refine nr ?_; intro U h; simp only [z0, z1] at h; subst h
  refine s_val 19 rfl rfl (.int .i64 ((C.length : Nat) : Int)) (run_mul64 _ _ _ rfl ((m : Nat) : Int) 64 _ rfl rfl (by omega) (by omega) (by omega) _) ?_
  refine nr ?_; intro U h; simp only [z0, z1] at h; subst h
  refine s_val 20 rfl rfl (.slice ao C.length cap) (run_cut0 bT _ _ rfl ao l.length cap C.length rfl rfl (by have := HC.fit; omega) _) ?_
  refine nr ?_; intro U h; simp only [z0, z1] at h; subst h
  have HO : OB _ 5 .u8 g (some ⟨g, 0, none⟩) 0 [] := OB.made kg (Nat.le_refl _) (Nat.le_refl _) (Nat.zero_le _) rfl rfl (fun x hx => by cases hx)
  refine s_app bT 21 rfl rfl _ _ rfl rfl HO (l' := C) rfl (HC) (by simp only [List.length_nil]; omega) (by decide) (Nat.le_of_lt (lt_of_heap kg)) ?_
  intro ao2 cap2 w2 HO2 BB
  rw [List.nil_append] at HO2
  simp only [List.nil_append]
  clear HO
  have HO := HO2.mono bg
  clear HO2
  replace HC := HC.below BB (fun ad ha h0 => by have := HLC.out ad ha h0; omega)
  replace HS := HS.below BB (fun ad ha h0 => by have := HLS.out ad ha h0; omega)
  replace GG := below_gro GG BB bg
  clear kg BB
  refine nr ?_; intro U h; simp only [z0, z1] at h; subst h
  refine s_val 0 rfl rfl (.slice ao2 C.length cap2) (rfl) ?_
  refine nr ?_; intro U h; simp only [z0] at h; subst h
  refine wpList_nil ?_
  refine then_n ?_
  refine wp_seq ?_
  refine wp_region_lit ?_
  refine s_val 23 rfl rfl (.slice ao2 C.length cap2) (rfl) ?_
  refine nr ?_; intro U h; simp only [z0, z1] at h; subst h
  have HLT := HO.ge
  refine s_callx 24 rfl rfl _ 19 Try.call19 rfl rfl _ rfl [.slice ao2 C.length cap2] rfl (of_ok _ ao2 cap2 C HO.nc m hCl (by omega)) (fun _ _ ⟨_, _, he, _⟩ => ⟨_, he⟩) ?_
  rintro v w3 ⟨p, sg, he, G, bp, bsg, HD⟩
  cases he
  have HA : ∀ ad, ao2 = some ad → ad.block ≠ p ∧ ad.block ≠ sg := fun ad ha => by have := HLT ad ha; omega
  clear HLT
  have bp := Nat.le_trans GG.size bp
  have bsg := Nat.le_trans GG.size bsg
  replace HS := HS.gro G
  replace HO := HO.gro G
  replace GG := GG.trans G
  clear G
  refine nr ?_; intro U h; simp only [z0, z1] at h; subst h
  refine s_val 22 rfl rfl (.tuple #[.pointer (some ⟨p, 0, none⟩), .int .i64 0]) (rfl) ?_
  refine nr ?_; intro U h; simp only [z0, z1] at h; subst h
  refine s_val 25 rfl rfl (.pointer (some ⟨p, 0, none⟩)) (rfl) ?_
  refine nr ?_; intro U h; simp only [z0, z1] at h; subst h
  refine s_val 26 rfl rfl (.int .i64 0) (rfl) ?_
  refine nr ?_; intro U h; simp only [z0, z1] at h; subst h
  refine s_val 7 rfl rfl (.pointer (some ⟨p, 0, none⟩)) (rfl) ?_
  refine nr ?_; intro U h; simp only [z0, z1] at h; subst h
  refine s_val 8 rfl rfl (.int .i64 0) (rfl) ?_
  refine nr ?_; intro U h; simp only [z0, z1] at h; subst h
  refine wpList_nil ?_
  refine then_n ?_
  refine wp_seq ?_
  refine wp_seq ?_
  refine wp_region_opq ?_
  intro OPS hY
  have y2 := hY 2 29 rfl
  have y6 := hY 6 33 rfl
  clear hY
  refine s_val 27 rfl rfl (.pointer (some ⟨p, 0, none⟩)) (rfl) ?_
  refine nr ?_; intro U h; simp only [z0, z1] at h; subst h
  refine s_val 28 rfl rfl (.bool false) (run_eqnp 23 _ _ _ rfl _ rfl rfl Try.underlying23 _) ?_
  refine nr ?_; intro U h; simp only [z0, z1] at h; subst h
  refine s_val 29 rfl rfl (.bool false) (rfl) ?_
  refine nr ?_; intro U h; simp only [z0, z1] at h; subst h
  refine s_gvalY 30 rfl rfl y2 rfl (.int .i64 0) (rfl) ?_
  refine nr ?_; intro U h; simp only [z0, z1] at h; subst h
  refine s_gvalY 31 rfl rfl y2 rfl (.bool false) (run_neq_k 31 .i64 _ _ _ rfl Try.underlying31 _ _ rfl rfl false rfl _) ?_
  refine nr ?_; intro U h; simp only [z0, z1] at h; subst h
  refine s_val 32 rfl rfl (.bool false) (rfl) ?_
  refine nr ?_; intro U h; simp only [z0, z1] at h; subst h
  refine s_val 33 rfl rfl (.bool false) (rfl) ?_
  refine nr ?_; intro U h; simp only [z0, z1] at h; subst h
  refine s_gcallvY 34 rfl rfl y6 rfl _ 10 Try.call10 rfl rfl _ rfl [] rfl (fixed_true _) ?_
  intro w4 G
  replace HS := HS.gro G
  replace HO := HO.gro G
  replace HD := HD.gro G
  replace GG := GG.trans G
  clear G
  refine nr ?_; intro U h; simp only [z0, z1] at h; subst h
  refine s_gvalY 35 rfl rfl y6 rfl (.bool false) (run_nt _ _ rfl true rfl) ?_
  refine nr ?_; intro U h; simp only [z0, z1] at h; subst h
  refine s_val 36 rfl rfl (.bool false) (rfl) ?_
  refine nr ?_; intro U h; simp only [z0, z1] at h; subst h
  refine wpList_nil ?_
  refine then_n ?_
  refine wp_cond_false rfl ?_
  refine wp_skip ?_
  refine then_n ?_
  refine wp_seq ?_
  refine wp_region_lit ?_
  refine s_val 37 rfl rfl (.pointer (some ⟨p, 0, none⟩)) (rfl) ?_
  refine nr ?_; intro U h; simp only [z0, z1] at h; subst h
  refine s_val 38 rfl rfl (.int .i64 ((i : Nat) : Int)) (rfl) ?_
  refine nr ?_; intro U h; simp only [z0, z1] at h; subst h
  refine s_val 39 rfl rfl (.slice ao3 s.length cap3) (rfl) ?_
  refine nr ?_; intro U h; simp only [z0, z1] at h; subst h
  refine s_callx 40 rfl rfl _ 11 Try.call11 rfl rfl _ rfl [.pointer (some ⟨p, 0, none⟩), .int .i64 ((i : Nat) : Int), .slice ao3 s.length cap3] rfl (write_end _ p sg m C (-1) 0 HD ao3 cap3 s ⟨HS, fun ad ha h0 => by have := HLS.out ad ha h0; simp; omega⟩ i hi hs rfl (by decide) (by decide)) (fun _ _ ⟨he, _⟩ => ⟨_, he⟩) ?_
  rintro v w5 ⟨he, G, HD2⟩
  cases he
  replace GG := G.gro GG (by simp; omega)
  replace HO := HO.gros G (fun ad ha => by have := HA ad ha; simp; omega)
  replace HS := G.nc HS (fun ad ha h0 => by have := HLS.out ad ha h0; simp; omega)
  clear G HD
  have HD := HD2
  clear HD2
  refine nr ?_; intro U h; simp only [z0, z1] at h; subst h
  have hDl : (wr C (i * 64) (padS s)).length = C.length := wr_len (by rw [padS_len hs]; exact sec_fit hCl hi)
  have hfit : i * 64 + (padS s).length ≤ C.length := by rw [padS_len hs]; exact sec_fit hCl hi
  have hpl := padS_len hs
  refine s_val 9 rfl rfl (.int .i64 0) (rfl) ?_
  refine nr ?_; intro U h; simp only [z0, z1] at h; subst h
  refine wpList_nil ?_
  refine then_n ?_
  refine wp_seq ?_
  refine wp_region_lit ?_
  refine s_val 41 rfl rfl (.pointer (some ⟨p, 0, none⟩)) (rfl) ?_
  refine nr ?_; intro U h; simp only [z0, z1] at h; subst h
  refine s_callx 42 rfl rfl _ 18 Try.call18 rfl rfl _ rfl [.pointer (some ⟨p, 0, none⟩)] rfl (bytes_len _ p sg m (wr C (i * 64) (padS s)) _ _ HD) (fun _ _ ⟨_, he, _⟩ => ⟨_, he⟩) ?_
  rintro v w6 ⟨g2, he, G, bg2, k2⟩
  cases he
  have bg2 := Nat.le_trans GG.size bg2
  replace HS := HS.gro G
  replace HO := HO.gro G
  replace HD := HD.gro G
  replace GG := GG.trans G
  clear G
  have HO2 := ob_all k2 bg2 HD.byte (by simp only [maxLen]; omega)
  clear k2
  refine nr ?_; intro U h; simp only [z0, z1] at h; subst h
  refine s_val 10 rfl rfl (.slice (some ⟨g2, 0, none⟩) ((wr C (i * 64) (padS s)).length) ((wr C (i * 64) (padS s)).length)) (rfl) ?_
  refine nr ?_; intro U h; simp only [z0, z1] at h; subst h
  refine wpList_nil ?_
  refine then_n ?_
  refine wp_seq ?_
  refine wp_seq ?_
  refine wp_region_lit ?_
  refine s_val 43 rfl rfl (.slice (some ⟨g2, 0, none⟩) ((wr C (i * 64) (padS s)).length) ((wr C (i * 64) (padS s)).length)) (rfl) ?_
  refine nr ?_; intro U h; simp only [z0, z1] at h; subst h
  refine s_val 44 rfl rfl (.int .i64 ((((wr C (i * 64) (padS s)).length : Nat) : Int))) (run_len Try.underlying28 _ rfl _ _ _ rfl _) ?_
  refine nr ?_; intro U h; simp only [z0, z1] at h; subst h
  refine s_val 45 rfl rfl (.slice ao2 C.length cap2) (rfl) ?_
  refine nr ?_; intro U h; simp only [z0, z1] at h; subst h
  refine s_val 46 rfl rfl (.int .i64 ((C.length : Nat) : Int)) (run_len Try.underlying28 _ rfl _ _ _ rfl _) ?_
  refine nr ?_; intro U h; simp only [z0, z1] at h; subst h
  refine s_val 47 rfl rfl (.bool false) (run_neq_k 3 .i64 _ _ _ rfl Try.underlying3 (((wr C (i * 64) (padS s)).length : Nat) : Int) ((C.length : Nat) : Int) rfl rfl false (decide_eq_true (by omega)) _) ?_
  refine nr ?_; intro U h; simp only [z0, z1] at h; subst h
  refine wpList_nil ?_
  refine then_n ?_
  refine wp_cond_false rfl ?_
  refine wp_skip ?_
  refine then_n ?_
  refine wp_seq ?_
  refine wp_seq ?_
  refine wp_region_lit ?_
  refine s_val 48 rfl rfl (.slice (some ⟨g2, 0, none⟩) ((wr C (i * 64) (padS s)).length) ((wr C (i * 64) (padS s)).length)) (rfl) ?_
  refine nr ?_; intro U h; simp only [z0, z1] at h; subst h
  refine s_val 49 rfl rfl (.int .i64 ((((wr C (i * 64) (padS s)).length : Nat) : Int))) (run_len Try.underlying28 _ rfl _ _ _ rfl _) ?_
  refine nr ?_; intro U h; simp only [z0, z1] at h; subst h
  refine s_val 50 rfl rfl (.int .i64 0) (rfl) ?_
  refine nr ?_; intro U h; simp only [z0, z1] at h; subst h
  refine wpList_nil ?_
  refine then_n ?_
  refine wp_block ?_
  refine wp_loopN (fun mz az wv => ∃ (k : Nat) (u6 u11 u12 u51 u52 u53 u54 u55 u56 u57 u58 u59 u60 u61 u62 u63 u64 u65 u66 u67 u68 u69 u70 u71 u72 u73 u74 u75 u76 u77 u78 u79 u80 u81 : Value), mz = (wr C (i * 64) (padS s)).length - k ∧ az = ⟨[.slice ao2 C.length cap2, .int .i64 ((i : Nat) : Int), .slice ao3 s.length cap3, undef, undef, undef, u6, .pointer (some ⟨p, 0, none⟩), .int .i64 0, .int .i64 0, .slice (some ⟨g2, 0, none⟩) ((wr C (i * 64) (padS s)).length) ((wr C (i * 64) (padS s)).length), u11, u12, .slice (some ⟨g, 0, none⟩) (([] : List Nat).length) 0, .slice ao l.length cap, .slice ao l.length cap, .int .i64 ((l.length : Nat) : Int), .int .i64 ((l.length / 64 : Nat) : Int), .int .i64 ((m : Nat) : Int), .int .i64 ((C.length : Nat) : Int), .slice ao C.length cap, .slice ao2 C.length cap2, .tuple #[.pointer (some ⟨p, 0, none⟩), .int .i64 0], .slice ao2 C.length cap2, .tuple #[.pointer (some ⟨p, 0, none⟩), .int .i64 0], .pointer (some ⟨p, 0, none⟩), .int .i64 0, .pointer (some ⟨p, 0, none⟩), .bool false, .bool false, .int .i64 0, .bool false, .bool false, .bool false, .bool true, .bool false, .bool false, .pointer (some ⟨p, 0, none⟩), .int .i64 ((i : Nat) : Int), .slice ao3 s.length cap3, .int .i64 0, .pointer (some ⟨p, 0, none⟩), .slice (some ⟨g2, 0, none⟩) ((wr C (i * 64) (padS s)).length) ((wr C (i * 64) (padS s)).length), .slice (some ⟨g2, 0, none⟩) ((wr C (i * 64) (padS s)).length) ((wr C (i * 64) (padS s)).length), .int .i64 ((((wr C (i * 64) (padS s)).length : Nat) : Int)), .slice ao2 C.length cap2, .int .i64 ((C.length : Nat) : Int), .bool false, .slice (some ⟨g2, 0, none⟩) ((wr C (i * 64) (padS s)).length) ((wr C (i * 64) (padS s)).length), .int .i64 ((((wr C (i * 64) (padS s)).length : Nat) : Int)), .int .i64 ((k : Nat) : Int), u51, u52, u53, u54, u55, u56, u57, u58, u59, u60, u61, u62, u63, u64, u65, u66, u67, u68, u69, u70, u71, u72, u73, u74, u75, u76, u77, u78, u79, u80, u81, undef, undef, undef, undef, undef, undef, undef, undef, undef, undef, undef, undef, undef, undef, undef, undef, undef].toArray, []⟩ ∧ k ≤ (wr C (i * 64) (padS s)).length ∧ Gro w wv ∧ OB wv 5 .u8 w.heap.size ao2 cap2 C ∧ OB wv 5 .u8 w.heap.size (some ⟨g2, 0, none⟩) (wr C (i * 64) (padS s)).length (wr C (i * 64) (padS s)) ∧ NC wv .u8 ao3 cap3 s) ?_ _ ⟨0, .bool false, undef, undef, undef, undef, undef, undef, undef, undef, undef, undef, undef, undef, undef, undef, undef, undef, undef, undef, undef, undef, undef, undef, undef, undef, undef, undef, undef, undef, undef, undef, undef, undef, undef, rfl, rfl, Nat.zero_le _, GG, HO, HO2, HS⟩
  clear GG HS HO HO2
  rintro mz az wv ⟨k, u6, u11, u12, u51, u52, u53, u54, u55, u56, u57, u58, u59, u60, u61, u62, u63, u64, u65, u66, u67, u68, u69, u70, u71, u72, u73, u74, u75, u76, u77, u78, u79, u80, u81, rfl, rfl, hk, GG, HO, HO2, HS⟩
  refine wp_seq ?_
  refine wp_region_lit ?_
  obtain ⟨p1, hp1⟩ : ∃ p, decide (((k : Nat) : Int) < ((((wr C (i * 64) (padS s)).length : Nat) : Int))) = p := ⟨_, rfl⟩
  refine s_val 51 rfl rfl (.bool p1) (run_lssT 3 _ _ _ rfl ((k : Nat) : Int) ((((wr C (i * 64) (padS s)).length : Nat) : Int)) rfl rfl p1 hp1 _) ?_
  refine nr ?_; intro U h; simp only [z0, z1] at h; subst h
  cases p1
  · refine wpList_nil ?_
    refine then_n ?_
    refine wp_seq ?_
    refine wp_cond_false rfl ?_
    refine wp_exit ?_
    refine then_x ?_
    refine then_x ?_
    refine blk_x ?_
    refine then_n ?_
    refine wp_seq ?_
    refine wp_region_opq ?_
    intro OPS hY
    have y4 := hY 4 86 rfl
    have y11 := hY 11 93 rfl
    clear hY
    refine s_val 82 rfl rfl (.int .i64 0) (rfl) ?_
    refine nr ?_; intro U h; simp only [z0, z1] at h; subst h
    refine s_val 83 rfl rfl (.bool true) (run_eq_k 31 .i64 _ _ _ rfl Try.underlying31 _ _ rfl rfl true rfl _) ?_
    refine nr ?_; intro U h; simp only [z0, z1] at h; subst h
    refine s_val 84 rfl rfl (.int .i64 ((i : Nat) : Int)) (rfl) ?_
    refine nr ?_; intro U h; simp only [z0, z1] at h; subst h
    refine s_val 85 rfl rfl (.bool true) (run_geqT 3 _ _ _ rfl ((i : Nat) : Int) 0 rfl rfl true (by first | exact decide_eq_true (by omega) | exact decide_eq_false (by omega)) _) ?_
    refine nr ?_; intro U h; simp only [z0, z1] at h; subst h
    refine s_val 86 rfl rfl (.bool true) (rfl) ?_
    refine nr ?_; intro U h; simp only [z0, z1] at h; subst h
    refine s_gvalY 87 rfl rfl y4 rfl (.int .i64 ((i : Nat) : Int)) (rfl) ?_
    refine nr ?_; intro U h; simp only [z0, z1] at h; subst h
    refine s_gvalY 88 rfl rfl y4 rfl (.slice ao2 C.length cap2) (rfl) ?_
    refine nr ?_; intro U h; simp only [z0, z1] at h; subst h
    refine s_gvalY 89 rfl rfl y4 rfl (.int .i64 ((C.length : Nat) : Int)) (run_len Try.underlying28 _ rfl _ _ _ rfl _) ?_
    refine nr ?_; intro U h; simp only [z0, z1] at h; subst h
    refine s_gvalY 90 rfl rfl y4 rfl (.int .i64 ((m : Nat) : Int)) (run_quo64 _ _ _ rfl ((C.length : Nat) : Int) 64 _ rfl rfl (by decide) ((tdivN _ 64).trans (by omega)) (by omega) (by omega) _) ?_
    refine nr ?_; intro U h; simp only [z0, z1] at h; subst h
    refine s_gvalY 91 rfl rfl y4 rfl (.bool true) (run_lssT 3 _ _ _ rfl ((i : Nat) : Int) ((m : Nat) : Int) rfl rfl true (by first | exact decide_eq_true (by omega) | exact decide_eq_false (by omega)) _) ?_
    refine nr ?_; intro U h; simp only [z0, z1] at h; subst h
    refine s_val 92 rfl rfl (.bool true) (rfl) ?_
    refine nr ?_; intro U h; simp only [z0, z1] at h; subst h
    refine s_val 93 rfl rfl (.bool true) (rfl) ?_
    refine nr ?_; intro U h; simp only [z0, z1] at h; subst h
    refine s_gvalY 94 rfl rfl y11 rfl (.slice ao3 s.length cap3) (rfl) ?_
    refine nr ?_; intro U h; simp only [z0, z1] at h; subst h
    refine s_gvalY 95 rfl rfl y11 rfl (.int .i64 ((s.length : Nat) : Int)) (run_len Try.underlying28 _ rfl _ _ _ rfl _) ?_
    refine nr ?_; intro U h; simp only [z0, z1] at h; subst h
    refine s_gvalY 96 rfl rfl y11 rfl (.bool true) (run_leqT 3 _ _ _ rfl ((s.length : Nat) : Int) 64 rfl rfl true (by first | exact decide_eq_true (by omega) | exact decide_eq_false (by omega)) _) ?_
    refine nr ?_; intro U h; simp only [z0, z1] at h; subst h
    refine s_val 97 rfl rfl (.bool true) (rfl) ?_
    refine nr ?_; intro U h; simp only [z0, z1] at h; subst h
    refine s_val 98 rfl rfl (.bool true) (run_eqB 4 _ _ _ rfl true true rfl rfl Try.underlying4 true rfl _) ?_
    refine nr ?_; intro U h; simp only [z0, z1] at h; subst h
    refine s_val 6 rfl rfl (.bool true) (rfl) ?_
    refine nr ?_; intro U h; simp only [z0, z1] at h; subst h
    refine wpList_nil ?_
    refine then_n ?_
    refine wp_ret ?_
    refine bodyPost_ret (results_tmp Try.results7 _ _ _) rfl ?_
    exact ⟨rfl, GG⟩
  have hkn : k < (wr C (i * 64) (padS s)).length := by have := of_decide_eq_true hp1; omega
  refine wpList_nil ?_
  refine then_n ?_
  refine wp_seq ?_
  refine wp_cond_true rfl ?_
  refine wp_skip ?_
  refine then_n ?_
  refine wp_seq ?_
  refine wp_block ?_
  refine wp_seq ?_
  refine wp_region_lit ?_
  refine s_val 52 rfl rfl (.int .i64 ((k : Nat) : Int)) (rfl) ?_
  refine nr ?_; intro U h; simp only [z0, z1] at h; subst h
  refine s_val 11 rfl rfl (.int .i64 ((k : Nat) : Int)) (rfl) ?_
  refine nr ?_; intro U h; simp only [z0, z1] at h; subst h
  refine wpList_nil ?_
  refine then_n ?_
  refine wp_seq ?_
  refine wp_region_lit ?_
  refine s_val 53 rfl rfl (.slice ao2 C.length cap2) (rfl) ?_
  refine nr ?_; intro U h; simp only [z0, z1] at h; subst h
  refine s_val 54 rfl rfl (.int .i64 ((k : Nat) : Int)) (rfl) ?_
  refine nr ?_; intro U h; simp only [z0, z1] at h; subst h
  obtain ⟨gi, cur, hgi, hBi, ki, hci, hmi, hsi, hti⟩ := HO.blk (j := k) (by omega)
  refine s_val 55 rfl rfl (.pointer (some ⟨gi, k, none⟩)) (bat _ _ rfl gi C.length cap2 k (by exact congrArg (fun a => Value.slice a C.length cap2) hgi) rfl (by omega) _) ?_
  refine nr ?_; intro U h; simp only [z0, z1] at h; subst h
  refine s_val 56 rfl rfl (.int .u8 ((C.getD k 0 : Nat) : Int)) (run_ld bT _ rfl ⟨gi, k, none⟩ rfl _ _ (HO.cellv hgi (by omega))) ?_
  refine nr ?_; intro U h; simp only [z0, z1] at h; subst h
  refine s_val 12 rfl rfl (.int .u8 ((C.getD k 0 : Nat) : Int)) (rfl) ?_
  refine nr ?_; intro U h; simp only [z0, z1] at h; subst h
  refine wpList_nil ?_
  refine then_n ?_
  refine wp_seq ?_
  refine wp_seq ?_
  refine wp_region_opq ?_
  intro OPS hY
  have y2 := hY 2 59 rfl
  clear hY
  refine s_val 57 rfl rfl (.int .i64 0) (rfl) ?_
  refine nr ?_; intro U h; simp only [z0, z1] at h; subst h
  refine s_val 58 rfl rfl (.bool true) (run_eq_k 31 .i64 _ _ _ rfl Try.underlying31 _ _ rfl rfl true rfl _) ?_
  refine nr ?_; intro U h; simp only [z0, z1] at h; subst h
  refine s_val 59 rfl rfl (.bool true) (rfl) ?_
  refine nr ?_; intro U h; simp only [z0, z1] at h; subst h
  refine s_gvalY 60 rfl rfl y2 rfl (.int .i64 ((k : Nat) : Int)) (rfl) ?_
  refine nr ?_; intro U h; simp only [z0, z1] at h; subst h
  refine s_gvalY 61 rfl rfl y2 rfl (.int .i64 ((k / 64 : Nat) : Int)) (run_quo64 _ _ _ rfl ((k : Nat) : Int) 64 _ rfl rfl (by decide) (tdivN _ 64) (by omega) (by omega) _) ?_
  refine nr ?_; intro U h; simp only [z0, z1] at h; subst h
  refine s_gvalY 62 rfl rfl y2 rfl (.int .i64 ((i : Nat) : Int)) (rfl) ?_
  refine nr ?_; intro U h; simp only [z0, z1] at h; subst h
  obtain ⟨p2, hp2⟩ : ∃ p, decide (((k / 64 : Nat) : Int) = ((i : Nat) : Int)) = p := ⟨_, rfl⟩
  refine s_gvalY 63 rfl rfl y2 rfl (.bool p2) (run_eq_k 3 .i64 _ _ _ rfl Try.underlying3 _ _ rfl rfl p2 hp2 _) ?_
  refine nr ?_; intro U h; simp only [z0, z1] at h; subst h
  cases p2
  · have hki : k / 64 ≠ i := by have := of_decide_eq_false hp2; omega
    refine s_val _ rfl rfl (.bool false) rfl ?_
    refine nr ?_; intro U h; simp only [z0, z1] at h; subst h
    refine wpList_nil ?_
    refine then_n ?_
    refine wp_cond_false rfl ?_
    refine wp_skip ?_
    refine then_n ?_
    refine wp_seq ?_
    refine wp_region_lit ?_
    refine s_val 75 rfl rfl (.slice (some ⟨g2, 0, none⟩) ((wr C (i * 64) (padS s)).length) ((wr C (i * 64) (padS s)).length)) (rfl) ?_
    refine nr ?_; intro U h; simp only [z0, z1] at h; subst h
    refine s_val 76 rfl rfl (.int .i64 ((k : Nat) : Int)) (rfl) ?_
    refine nr ?_; intro U h; simp only [z0, z1] at h; subst h
    refine s_val 77 rfl rfl (.pointer (some ⟨g2, k, none⟩)) (bat _ _ rfl g2 (wr C (i * 64) (padS s)).length (wr C (i * 64) (padS s)).length k rfl rfl hkn _) ?_
    refine nr ?_; intro U h; simp only [z0, z1] at h; subst h
    refine s_val 78 rfl rfl (.int .u8 ((((wr C (i * 64) (padS s)).getD k 0 : Nat) : Int))) (run_ld bT _ rfl ⟨g2, k, none⟩ rfl _ _ (HO2.cellv rfl hkn)) ?_
    refine nr ?_; intro U h; simp only [z0, z1] at h; subst h
    refine s_val 79 rfl rfl (.int .u8 ((C.getD k 0 : Nat) : Int)) (rfl) ?_
    refine nr ?_; intro U h; simp only [z0, z1] at h; subst h
    refine s_val 80 rfl rfl (.bool false) (run_neq_k 5 .u8 _ _ _ rfl Try.underlying5 (((wr C (i * 64) (padS s)).getD k 0 : Nat) : Int) ((C.getD k 0 : Nat) : Int) rfl rfl false (decide_eq_true (by have hq : (wr C (i * 64) (padS s)).getD k 0 = C.getD k 0 := wr_out (by omega) hfit; rw [hq])) _) ?_
    refine nr ?_; intro U h; simp only [z0, z1] at h; subst h
    refine wpList_nil ?_
    refine then_n ?_
    refine wp_cond_false rfl ?_
    refine wp_skip ?_
    refine blk_n ?_
    refine then_n ?_
    refine wp_region_lit ?_
    refine s_val 81 rfl rfl (.int .i64 ((k + 1 : Nat) : Int)) (run_add64 _ _ _ rfl ((k : Nat) : Int) 1 _ rfl rfl (by omega) (by omega) (by omega) _) ?_
    refine nr ?_; intro U h; simp only [z0, z1] at h; subst h
    refine s_val 50 rfl rfl (.int .i64 ((k + 1 : Nat) : Int)) (rfl) ?_
    refine nr ?_; intro U h; simp only [z0, z1] at h; subst h
    refine wpList_nil ?_
    refine then_n ?_
    exact ⟨_, (by omega : (wr C (i * 64) (padS s)).length - (k + 1) < (wr C (i * 64) (padS s)).length - k), k + 1, u6, .int .i64 ((k : Nat) : Int), .int .u8 ((C.getD k 0 : Nat) : Int), .bool true, .int .i64 ((k : Nat) : Int), .slice ao2 C.length cap2, .int .i64 ((k : Nat) : Int), .pointer (some ⟨gi, k, none⟩), .int .u8 ((C.getD k 0 : Nat) : Int), .int .i64 0, .bool true, .bool true, .int .i64 ((k : Nat) : Int), .int .i64 ((k / 64 : Nat) : Int), .int .i64 ((i : Nat) : Int), .bool false, .bool false, u65, u66, u67, u68, u69, u70, u71, u72, u73, u74, .slice (some ⟨g2, 0, none⟩) ((wr C (i * 64) (padS s)).length) ((wr C (i * 64) (padS s)).length), .int .i64 ((k : Nat) : Int), .pointer (some ⟨g2, k, none⟩), .int .u8 ((((wr C (i * 64) (padS s)).getD k 0 : Nat) : Int)), .int .u8 ((C.getD k 0 : Nat) : Int), .bool false, .int .i64 ((k + 1 : Nat) : Int), rfl, rfl, hkn, GG, HO, HO2, HS⟩
  have hki : k / 64 = i := by have := of_decide_eq_true hp2; omega
  refine s_val 64 rfl rfl (.bool true) (rfl) ?_
  refine nr ?_; intro U h; simp only [z0, z1] at h; subst h
  refine wpList_nil ?_
  refine then_n ?_
  refine wp_cond_true rfl ?_
  refine wp_seq ?_
  refine wp_region_lit ?_
  refine s_val 12 rfl rfl (.int .u8 0) (rfl) ?_
  refine nr ?_; intro U h; simp only [z0, z1] at h; subst h
  refine wpList_nil ?_
  refine then_n ?_
  refine wp_seq ?_
  refine wp_region_lit ?_
  refine s_val 65 rfl rfl (.int .i64 ((k : Nat) : Int)) (rfl) ?_
  refine nr ?_; intro U h; simp only [z0, z1] at h; subst h
  refine s_val 66 rfl rfl (.int .i64 ((k % 64 : Nat) : Int)) (run_rem64 _ _ _ rfl ((k : Nat) : Int) 64 _ rfl rfl (by decide) (tmodN _ 64) (by omega) (by omega) _) ?_
  refine nr ?_; intro U h; simp only [z0, z1] at h; subst h
  refine s_val 67 rfl rfl (.slice ao3 s.length cap3) (rfl) ?_
  refine nr ?_; intro U h; simp only [z0, z1] at h; subst h
  refine s_val 68 rfl rfl (.int .i64 ((s.length : Nat) : Int)) (run_len Try.underlying28 _ rfl _ _ _ rfl _) ?_
  refine nr ?_; intro U h; simp only [z0, z1] at h; subst h
  obtain ⟨p3, hp3⟩ : ∃ p, decide (((k % 64 : Nat) : Int) < ((s.length : Nat) : Int)) = p := ⟨_, rfl⟩
  refine s_val 69 rfl rfl (.bool p3) (run_lssT 3 _ _ _ rfl ((k % 64 : Nat) : Int) ((s.length : Nat) : Int) rfl rfl p3 hp3 _) ?_
  refine nr ?_; intro U h; simp only [z0, z1] at h; subst h
  cases p3
  · have hks : s.length ≤ k % 64 := by have := of_decide_eq_false hp3; omega
    refine wpList_nil ?_
    refine then_n ?_
    refine wp_cond_false rfl ?_
    refine wp_skip ?_
    refine then_n ?_
    refine wp_seq ?_
    refine wp_region_lit ?_
    refine s_val 75 rfl rfl (.slice (some ⟨g2, 0, none⟩) ((wr C (i * 64) (padS s)).length) ((wr C (i * 64) (padS s)).length)) (rfl) ?_
    refine nr ?_; intro U h; simp only [z0, z1] at h; subst h
    refine s_val 76 rfl rfl (.int .i64 ((k : Nat) : Int)) (rfl) ?_
    refine nr ?_; intro U h; simp only [z0, z1] at h; subst h
    refine s_val 77 rfl rfl (.pointer (some ⟨g2, k, none⟩)) (bat _ _ rfl g2 (wr C (i * 64) (padS s)).length (wr C (i * 64) (padS s)).length k rfl rfl hkn _) ?_
    refine nr ?_; intro U h; simp only [z0, z1] at h; subst h
    refine s_val 78 rfl rfl (.int .u8 ((((wr C (i * 64) (padS s)).getD k 0 : Nat) : Int))) (run_ld bT _ rfl ⟨g2, k, none⟩ rfl _ _ (HO2.cellv rfl hkn)) ?_
    refine nr ?_; intro U h; simp only [z0, z1] at h; subst h
    refine s_val 79 rfl rfl (.int .u8 0) (rfl) ?_
    refine nr ?_; intro U h; simp only [z0, z1] at h; subst h
    refine s_val 80 rfl rfl (.bool false) (run_neq_k 5 .u8 _ _ _ rfl Try.underlying5 (((wr C (i * 64) (padS s)).getD k 0 : Nat) : Int) 0 rfl rfl false (decide_eq_true (by have hq : (wr C (i * 64) (padS s)).getD k 0 = 0 := (wr_in (by omega) (by omega) hfit).trans (padS_out (by omega)); rw [hq]; rfl)) _) ?_
    refine nr ?_; intro U h; simp only [z0, z1] at h; subst h
    refine wpList_nil ?_
    refine then_n ?_
    refine wp_cond_false rfl ?_
    refine wp_skip ?_
    refine blk_n ?_
    refine then_n ?_
    refine wp_region_lit ?_
    refine s_val 81 rfl rfl (.int .i64 ((k + 1 : Nat) : Int)) (run_add64 _ _ _ rfl ((k : Nat) : Int) 1 _ rfl rfl (by omega) (by omega) (by omega) _) ?_
    refine nr ?_; intro U h; simp only [z0, z1] at h; subst h
    refine s_val 50 rfl rfl (.int .i64 ((k + 1 : Nat) : Int)) (rfl) ?_
    refine nr ?_; intro U h; simp only [z0, z1] at h; subst h
    refine wpList_nil ?_
    refine then_n ?_
    exact ⟨_, (by omega : (wr C (i * 64) (padS s)).length - (k + 1) < (wr C (i * 64) (padS s)).length - k), k + 1, u6, .int .i64 ((k : Nat) : Int), .int .u8 0, .bool true, .int .i64 ((k : Nat) : Int), .slice ao2 C.length cap2, .int .i64 ((k : Nat) : Int), .pointer (some ⟨gi, k, none⟩), .int .u8 ((C.getD k 0 : Nat) : Int), .int .i64 0, .bool true, .bool true, .int .i64 ((k : Nat) : Int), .int .i64 ((k / 64 : Nat) : Int), .int .i64 ((i : Nat) : Int), .bool true, .bool true, .int .i64 ((k : Nat) : Int), .int .i64 ((k % 64 : Nat) : Int), .slice ao3 s.length cap3, .int .i64 ((s.length : Nat) : Int), .bool false, u70, u71, u72, u73, u74, .slice (some ⟨g2, 0, none⟩) ((wr C (i * 64) (padS s)).length) ((wr C (i * 64) (padS s)).length), .int .i64 ((k : Nat) : Int), .pointer (some ⟨g2, k, none⟩), .int .u8 ((((wr C (i * 64) (padS s)).getD k 0 : Nat) : Int)), .int .u8 0, .bool false, .int .i64 ((k + 1 : Nat) : Int), rfl, rfl, hkn, GG, HO, HO2, HS⟩
  have hks : k % 64 < s.length := by have := of_decide_eq_true hp3; omega
  refine wpList_nil ?_
  refine then_n ?_
  refine wp_cond_true rfl ?_
  refine wp_region_lit ?_
  refine s_val 70 rfl rfl (.slice ao3 s.length cap3) (rfl) ?_
  refine nr ?_; intro U h; simp only [z0, z1] at h; subst h
  refine s_val 71 rfl rfl (.int .i64 ((k : Nat) : Int)) (rfl) ?_
  refine nr ?_; intro U h; simp only [z0, z1] at h; subst h
  refine s_val 72 rfl rfl (.int .i64 ((k % 64 : Nat) : Int)) (run_rem64 _ _ _ rfl ((k : Nat) : Int) 64 _ rfl rfl (by decide) (tmodN _ 64) (by omega) (by omega) _) ?_
  refine nr ?_; intro U h; simp only [z0, z1] at h; subst h
  obtain ⟨ad, hao, _⟩ := HS.at hks
  refine s_val 73 rfl rfl (.pointer (some (ad.add (k % 64)))) (run_idx bT _ _ rfl ad s.length cap3 (k % 64) (by exact congrArg (fun a => Value.slice a s.length cap3) hao) rfl hks _) ?_
  refine nr ?_; intro U h; simp only [z0, z1] at h; subst h
  refine s_val 74 rfl rfl (.int .u8 ((s.getD (k % 64) 0 : Nat) : Int)) (run_ld bT _ rfl (ad.add (k % 64)) rfl _ _ (HS.cell ad hao _ hks)) ?_
  refine nr ?_; intro U h; simp only [z0, z1] at h; subst h
  refine s_val 12 rfl rfl (.int .u8 ((s.getD (k % 64) 0 : Nat) : Int)) (rfl) ?_
  refine nr ?_; intro U h; simp only [z0, z1] at h; subst h
  refine wpList_nil ?_
  refine then_n ?_
  refine wp_seq ?_
  refine wp_region_lit ?_
  refine s_val 75 rfl rfl (.slice (some ⟨g2, 0, none⟩) ((wr C (i * 64) (padS s)).length) ((wr C (i * 64) (padS s)).length)) (rfl) ?_
  refine nr ?_; intro U h; simp only [z0, z1] at h; subst h
  refine s_val 76 rfl rfl (.int .i64 ((k : Nat) : Int)) (rfl) ?_
  refine nr ?_; intro U h; simp only [z0, z1] at h; subst h
  refine s_val 77 rfl rfl (.pointer (some ⟨g2, k, none⟩)) (bat _ _ rfl g2 (wr C (i * 64) (padS s)).length (wr C (i * 64) (padS s)).length k rfl rfl hkn _) ?_
  refine nr ?_; intro U h; simp only [z0, z1] at h; subst h
  refine s_val 78 rfl rfl (.int .u8 ((((wr C (i * 64) (padS s)).getD k 0 : Nat) : Int))) (run_ld bT _ rfl ⟨g2, k, none⟩ rfl _ _ (HO2.cellv rfl hkn)) ?_
  refine nr ?_; intro U h; simp only [z0, z1] at h; subst h
  refine s_val 79 rfl rfl (.int .u8 ((s.getD (k % 64) 0 : Nat) : Int)) (rfl) ?_
  refine nr ?_; intro U h; simp only [z0, z1] at h; subst h
  refine s_val 80 rfl rfl (.bool false) (run_neq_k 5 .u8 _ _ _ rfl Try.underlying5 (((wr C (i * 64) (padS s)).getD k 0 : Nat) : Int) ((s.getD (k % 64) 0 : Nat) : Int) rfl rfl false (decide_eq_true (by have hq : (wr C (i * 64) (padS s)).getD k 0 = s.getD (k % 64) 0 := (wr_in (by omega) (by omega) hfit).trans ((congrArg (fun j => (padS s).getD j 0) (by omega : k - i * 64 = k % 64)).trans (padS_at hks)); rw [hq])) _) ?_
  refine nr ?_; intro U h; simp only [z0, z1] at h; subst h
  refine wpList_nil ?_
  refine then_n ?_
  refine wp_cond_false rfl ?_
  refine wp_skip ?_
  refine blk_n ?_
  refine then_n ?_
  refine wp_region_lit ?_
  refine s_val 81 rfl rfl (.int .i64 ((k + 1 : Nat) : Int)) (run_add64 _ _ _ rfl ((k : Nat) : Int) 1 _ rfl rfl (by omega) (by omega) (by omega) _) ?_
  refine nr ?_; intro U h; simp only [z0, z1] at h; subst h
  refine s_val 50 rfl rfl (.int .i64 ((k + 1 : Nat) : Int)) (rfl) ?_
  refine nr ?_; intro U h; simp only [z0, z1] at h; subst h
  refine wpList_nil ?_
  refine then_n ?_
  exact ⟨_, (by omega : (wr C (i * 64) (padS s)).length - (k + 1) < (wr C (i * 64) (padS s)).length - k), k + 1, u6, .int .i64 ((k : Nat) : Int), .int .u8 ((s.getD (k % 64) 0 : Nat) : Int), .bool true, .int .i64 ((k : Nat) : Int), .slice ao2 C.length cap2, .int .i64 ((k : Nat) : Int), .pointer (some ⟨gi, k, none⟩), .int .u8 ((C.getD k 0 : Nat) : Int), .int .i64 0, .bool true, .bool true, .int .i64 ((k : Nat) : Int), .int .i64 ((k / 64 : Nat) : Int), .int .i64 ((i : Nat) : Int), .bool true, .bool true, .int .i64 ((k : Nat) : Int), .int .i64 ((k % 64 : Nat) : Int), .slice ao3 s.length cap3, .int .i64 ((s.length : Nat) : Int), .bool true, .slice ao3 s.length cap3, .int .i64 ((k : Nat) : Int), .int .i64 ((k % 64 : Nat) : Int), .pointer (some (ad.add (k % 64))), .int .u8 ((s.getD (k % 64) 0 : Nat) : Int), .slice (some ⟨g2, 0, none⟩) ((wr C (i * 64) (padS s)).length) ((wr C (i * 64) (padS s)).length), .int .i64 ((k : Nat) : Int), .pointer (some ⟨g2, k, none⟩), .int .u8 ((((wr C (i * 64) (padS s)).getD k 0 : Nat) : Int)), .int .u8 ((s.getD (k % 64) 0 : Nat) : Int), .bool false, .int .i64 ((k + 1 : Nat) : Int), rfl, rfl, hkn, GG, HO, HO2, HS⟩
theorem diskApart_any (w : World) (ao : Option Addr) (cap : Nat) (l : List Nat) (HN : NC w .u8 ao cap l) (hl : l.length ≤ 140737488355000) (ao3 : Option Addr) (cap3 : Nat) (s : List Nat) (HS : NC w .u8 ao3 cap3 s) (_hsl : s.length ≤ 140737488355000) (i : Int) : Calls Try.prog 7 #[.slice ao l.length cap, .int .i64 i, .slice ao3 s.length cap3] w fun e w' => e = .returned (.bool true) ∧ Gro w w' := by
  cases hB : hasB (min (l.length / 64) 40) i
  · rcases hasB_f hB with h | ⟨h, h2⟩
    · exact diskApart_neg w ao cap l HN hl ao3 cap3 s HS _hsl _ rfl i h hB
    · exact diskApart_big w ao cap l HN hl ao3 cap3 s HS _hsl _ rfl i h h2 hB
  · obtain ⟨j, rfl, hj⟩ := hasB_nat hB
    by_cases hs : s.length ≤ 64
    · exact diskApart_ok w ao cap l HN hl ao3 cap3 s HS _hsl _ rfl j hj hs
    · exact diskApart_long w ao cap l HN hl ao3 cap3 s HS _hsl _ rfl j hj (by omega)
end Go.Proofs.Ytcobgelcpgnndaa
