/- How a vault's state goes on; of each key the newest is kept (the law). -/
import Derived.Test.YtgfnjekpafempaaDV13
namespace Go.Proofs.Ytgfnjekpafempaa
open Go.RowKit
/-- What the disk says, and what is kept. -/
structure PS (n : Nat) (L : List Nat) (h : Hd) (rs : List (List Nat)) (Lx : List It) (c : Nat) (M : List (Nat × IM)) : Prop where
  good : Good L n h rs
  hld : hld rs = some (Lx, c)
  rel : MRel M Lx
  sk : SKv Lx
  ok : ∀ x ∈ Lx, x.ok
section
variable {n : Nat} {L : List Nat} {h : Hd} {rs : List (List Nat)} {Lx : List It} {c : Nat} {M : List (Nat × IM)}
theorem PS.few (H : PS n L h rs Lx c M) (hn : n ≤ 4096) : Lx.length ≤ 4096 := H.good.few hn H.hld
theorem re_it (x : IM) (ao : Option Addr) (cap : Nat) : (x.re ao cap).it = x.it := rfl
theorem PS.item (H : PS n L h rs Lx c M) (kn : KNM M) (hn0 : ∀ y ∈ M, 0 ≤ y.2.n) {x : IM} (hx : x.it.ok) (hx0 : 0 ≤ x.n) (hq : isN M x = true) {L2 : List Nat} {h2 : Hd} (hg : Good L2 n h2 (rs ++ [formV x.it])) (ao : Option Addr) (cap : Nat) : PS n L2 h2 (rs ++ [formV x.it]) (tkV Lx x.it) c (putM M x.key (x.re ao cap)) :=
  ⟨hg, hld_item H.hld hx top_256, MRel.put H.rel kn H.sk (isN_true H.rel hx0 hn0 hq) (re_it x ao cap), tkV_SK H.sk _, fun y hy => by
    rcases tkV_mem hy with hy | rfl
    · exact H.ok y hy
    · exact hx⟩
theorem PS.fail (H : PS n L h rs Lx c M) {L2 : List Nat} {h2 : Hd} (hg : Good L2 n h2 rs) : PS n L2 h2 rs Lx c M := ⟨hg, H.hld, H.rel, H.sk, H.ok⟩
theorem PS.sure (H : PS n L h rs Lx c M) (hn0 : ∀ y ∈ M, 0 ≤ y.2.n) {t : List IM} (ht : ∀ x ∈ t, 0 ≤ x.n) (hs : Sure Lx (t.map IM.it)) : SureM M t := fun x hx => by
  obtain ⟨y, h1, h2⟩ := hs x.it (List.mem_map_of_mem hx)
  obtain ⟨z, h3, h4⟩ := H.rel.some h1
  refine ⟨z, h3, ?_⟩
  rw [nwV_nwr (ht x hx) (hn0 _ (getM_some h3)), h4]
  exact h2
theorem tried_of {t : List IM} (h : Tried Lx (t.map IM.it)) : TriedM Lx t := fun z hz => by
  obtain ⟨y, hy, e⟩ := List.mem_map.1 (h z hz)
  exact ⟨y, hy, e⟩
theorem PS.stay (H : PS n L h rs Lx c M) (hn0 : ∀ y ∈ M, 0 ≤ y.2.n) {x : IM} (hx0 : 0 ≤ x.n) (hq : isN M x = false) {s : List It} (hs : Sure Lx s) : Sure Lx (s ++ [x.it]) := by
  obtain ⟨y, h1, h2⟩ := isN_false H.rel hx0 hn0 hq
  exact hs.stay (x := x.it) h1 h2
end
theorem VK.keepW {U : List Nat} {w w' : World} {vp lp p sg mb n : Nat} {L : List Nat} {pw dn : Int} {h : Hd} {dw : Bool} {inc : Int} {M : List (Nat × IM)} (H : VK U w vp lp p sg mb n L pw dn h dw inc M) (G : GroS [vp, lp, p, sg, mb] w w') {B : Nat} {ao : Option Addr} {cap : Nat} {l : List IM} (HO : OW kM 56 w B ao cap l) : OW kM 56 w' B ao cap l :=
  HO.gros G fun k hk hm => by
    obtain ⟨cur, hc, _⟩ := HO.blkt hk
    exact H.nin hc (by decide) hm
theorem DK.keepW {w w' : World} {p sg n : Nat} {L : List Nat} {pw dn : Int} (H : DK w p sg n L pw dn) (G : GroS [p, sg] w w') {B : Nat} {ao : Option Addr} {cap : Nat} {l : List IM} (HO : OW kM 56 w B ao cap l) : OW kM 56 w' B ao cap l :=
  HO.gros G fun k hk hm => by
    obtain ⟨cur, hc, _⟩ := HO.blkt hk
    exact H.nin hc (by decide) hm
theorem ris_at {Z : List IM} (h : RisI Z) {i : Nat} (hi : i + 1 < Z.length) : (Z.getD i zM).key < (Z.getD (i + 1) zM).key := by
  have h1 := (List.pairwise_iff_getElem.1 h) i (i + 1) (by omega) hi (Nat.lt_succ_self i)
  rw [List.getD_eq_getElem?_getD, List.getElem?_eq_getElem (by omega), List.getD_eq_getElem?_getD, List.getElem?_eq_getElem hi]
  exact h1
theorem VK.nrow {U : List Nat} {w : World} {vp lp p sg mb n : Nat} {L : List Nat} {pw dn : Int} {h : Hd} {dw : Bool} {inc : Int} {M : List (Nat × IM)} (H : VK U w vp lp p sg mb n L pw dn h dw inc M) {g : Nat} {c : Array Value} {t : TypeId} (hk : w.heap[g]? = some (.cells c t (0, 0))) (ht : t ≠ 5) : ∀ x ∈ M, ∀ ad, x.2.ao = some ad → 0 < x.2.val.length → ad.block ≠ g := fun x hx ad ha h0 => by
  obtain ⟨cur, hc⟩ := (H.mr.row x hx).ty ad ha h0
  exact ne_type hc hk (Ne.symm ht)
theorem VK.gros {U : List Nat} {w w' : World} {vp lp p sg mb n : Nat} {L : List Nat} {pw dn : Int} {h : Hd} {dw : Bool} {inc : Int} {M : List (Nat × IM)} (H : VK U w vp lp p sg mb n L pw dn h dw inc M) {S : List Nat} (G : GroS S w w') (hs : ∀ k ∈ S, k ∉ [vp, lp, p, sg, mb] ∧ ∀ x ∈ M, ∀ ad, x.2.ao = some ad → 0 < x.2.val.length → ad.block ≠ k) : VK U w' vp lp p sg mb n L pw dn h dw inc M := by
  have hk : ∀ k ∈ [vp, lp, p, sg, mb], k ∉ S := fun k hm hS => (hs k hS).1 hm
  exact ⟨⟨G.has H.vb.box (hk _ (by simp)), H.vb.map.gros G (hk _ (by simp)), H.vb.ok⟩, H.log.gros G (hk _ (by simp)), H.dsk.gros G (hk _ (by simp)) (hk _ (by simp)), ⟨fun x hx => ⟨⟨G.nc (H.mr.row x hx).nc (fun ad ha h0 hm => (hs _ hm).2 x hx ad ha h0 rfl), (H.mr.row x hx).ne⟩, fun ad ha h0 => by
    obtain ⟨cur, hc⟩ := (H.mr.row x hx).ty ad ha h0
    exact ⟨cur, G.has hc (fun hm => (hs _ hm).2 x hx ad ha h0 rfl)⟩⟩, H.mr.key, H.mr.n1, H.mr.len⟩, H.sub, fun k hk => Nat.lt_of_lt_of_le (H.lt k hk) G.size⟩
set_option maxRecDepth 100000 in
set_option maxHeartbeats 4000000 in
theorem vaultNewest_any (w : World) (ao : Option Addr) (cap : Nat) (l : List IM) (HA : RK kM w ao cap l) (HN : ∀ x ∈ l, NC w .u8 x.ao x.cap x.val) : Calls Try.prog 7 #[.slice ao l.length cap] w (fun e w' => e = .returned (.bool true) ∧ Gro w w') := by
  refine s_enter Try.func7 rfl Try.ntmps7 [.slice ao l.length cap] [.slice ao l.length cap, undef, undef, undef, undef, undef, undef, undef, undef, undef, undef, undef, undef, undef, undef, undef, undef, undef, undef, undef, undef, undef, undef, undef, undef, undef, undef, undef, undef, undef, undef, undef, undef, undef, undef, undef, undef, undef, undef, undef, undef, undef, undef, undef, undef, undef, undef, undef, undef, undef, undef, undef, undef, undef, undef, undef, undef, undef, undef, undef, undef, undef, undef, undef, undef, undef, undef, undef, undef, undef, undef, undef, undef, undef, undef, undef, undef, undef, undef, undef, undef, undef, undef, undef, undef, undef, undef, undef, undef, undef, undef, undef, undef, undef, undef, undef, undef, undef, undef, undef, undef, undef, undef, undef, undef] rfl ?_
  have GG := Gro.refl w
  refine wp_seq ?_
  refine wp_region_lit ?_
  refine s_val 2 rfl rfl (.bool false) (rfl) ?_
  refine nr ?_; intro U h; simp only [z0, z1] at h; subst h
  refine wpList_nil ?_
  refine then_n ?_
  refine wp_seq ?_
  refine wp_region_lit ?_
  refine s_callx 18 rfl rfl _ 23 Try.call23 rfl rfl _ rfl [.int .i64 900] rfl (new_any _ 900) (by rintro _ _ ⟨_, _, he, _, _, _, _⟩; exact ⟨_, he⟩) ?_
  rintro v w1 ⟨p, sg, he, G, hp, hs, HD⟩
  cases he
  replace GG := GG.trans G
  clear G
  replace HD : DK w1 p sg 900 (zs (900 * 64)) (-1) 0 := HD
  refine nr ?_; intro U h; simp only [z0, z1] at h; subst h
  obtain ⟨er1, L1, pw1, h1, dw1, rs1, HA1, SA1⟩ := append_a 900 _ (-1) ⟨0, 0, 0⟩ false [] (begV 1) (good_new 900 (by decide)) ok_m1 (by decide) (by decide)
  obtain ⟨rfl, rfl⟩ := HA1.go rfl rfl (by decide) (by decide)
  have hw1 := HA1.ok rfl
  subst hw1
  have HG1 := HA1.yes
  have hg1 : h1.g ≤ 0 + 1 := HA1.g
  have hu1 : h1.u ≤ 0 + 1 := by have h := HA1.u; rw [sec_6 (by decide)] at h; exact h
  have szz1 := GG.size
  refine s_callx 19 rfl rfl _ 13 Try.call13 rfl rfl _ rfl [.pointer (some ⟨p, 0, none⟩)] rfl ((vopen_go [p, sg] _ p sg 900 _ (-1) 0 HD (by decide) ⟨0, 0, 0⟩ [] (good_new 900 (by decide)) (by decide) HD.lt2 (by simp) (by simp) [] 0 hld_nil (by decide) 0 L1 (-1) h1 false rs1 HA1 SA1 (by decide) (by decide)).mono fun e w' h => h.yes) (by rintro _ _ ⟨_, _, _, _, _, he, _, _, _, _, _, _, _, _⟩; exact ⟨_, he⟩) ?_
  rintro v w2 ⟨vp, lp, mb, M, dn1, he, G, HV, hM, hv1, hv2, hv3, hd1, hd2⟩
  cases he
  replace GG := G.gro GG (fun k hk => by simp only [List.mem_cons, List.not_mem_nil, or_false] at hk; omega)
  have GV := Gro.refl w2
  clear HD
  replace HV : VK [vp, lp, mb, p, sg] w2 vp lp p sg mb 900 L1 (-1) dn1 h1 false 1 M := HV
  have HP : PS 900 L1 h1 [begV 1] [] 1 M := ⟨HG1, hld_f1, hM, SKv.nil, fun _ h => by cases h⟩
  refine nr ?_; intro U h; simp only [z0, z1] at h; subst h
  refine s_val 17 rfl rfl (.tuple #[.pointer (some ⟨vp, 0, none⟩), .int .i64 0]) (rfl) ?_
  refine nr ?_; intro U h; simp only [z0, z1] at h; subst h
  refine s_val 20 rfl rfl (.pointer (some ⟨vp, 0, none⟩)) (rfl) ?_
  refine nr ?_; intro U h; simp only [z0, z1] at h; subst h
  refine s_val 21 rfl rfl (.int .i64 0) (rfl) ?_
  refine nr ?_; intro U h; simp only [z0, z1] at h; subst h
  refine s_val 3 rfl rfl (.pointer (some ⟨vp, 0, none⟩)) (rfl) ?_
  refine nr ?_; intro U h; simp only [z0, z1] at h; subst h
  refine s_val 4 rfl rfl (.int .i64 0) (rfl) ?_
  refine nr ?_; intro U h; simp only [z0, z1] at h; subst h
  refine wpList_nil ?_
  refine then_n ?_
  refine wp_seq ?_
  refine wp_seq ?_
  refine wp_region_opq ?_
  intro OPS hY
  have y2 := hY 2 24 rfl
  have y6 := hY 6 28 rfl
  clear hY
  refine s_val 22 rfl rfl (.pointer (some ⟨vp, 0, none⟩)) (rfl) ?_
  refine nr ?_; intro U h; simp only [z0, z1] at h; subst h
  refine s_val 23 rfl rfl (.bool false) (run_eqnp 37 _ _ _ rfl _ rfl rfl Try.underlying37 _) ?_
  refine nr ?_; intro U h; simp only [z0, z1] at h; subst h
  refine s_val 24 rfl rfl (.bool false) (rfl) ?_
  refine nr ?_; intro U h; simp only [z0, z1] at h; subst h
  refine s_gvalY 25 rfl rfl y2 rfl (.int .i64 0) (rfl) ?_
  refine nr ?_; intro U h; simp only [z0, z1] at h; subst h
  refine s_gvalY 26 rfl rfl y2 rfl (.bool false) (run_neq_k 26 .i64 _ _ _ rfl Try.underlying26 0 0 rfl rfl false (decide_eq_true rfl) _) ?_
  refine nr ?_; intro U h; simp only [z0, z1] at h; subst h
  refine s_val 27 rfl rfl (.bool false) (rfl) ?_
  refine nr ?_; intro U h; simp only [z0, z1] at h; subst h
  refine s_val 28 rfl rfl (.bool false) (rfl) ?_
  refine nr ?_; intro U h; simp only [z0, z1] at h; subst h
  refine s_gcallvY 29 rfl rfl y6 rfl _ 10 Try.call10 rfl rfl _ rfl [] rfl (fixed_any _) ?_
  intro w3 G
  replace GV := GV.gro G
  replace GG := GG.trans G
  clear G
  refine nr ?_; intro U h; simp only [z0, z1] at h; subst h
  refine s_gvalY 30 rfl rfl y6 rfl (.bool false) (run_nt _ _ rfl true rfl) ?_
  refine nr ?_; intro U h; simp only [z0, z1] at h; subst h
  refine s_val 31 rfl rfl (.bool false) (rfl) ?_
  refine nr ?_; intro U h; simp only [z0, z1] at h; subst h
  refine wpList_nil ?_
  refine then_n ?_
  refine wp_cond_false rfl ?_
  refine wp_skip ?_
  refine then_n ?_
  refine wp_seq ?_
  refine wp_region_lit ?_
  refine s_val 5 rfl rfl (.slice none 0 0) (rfl) ?_
  refine nr ?_; intro U h; simp only [z0, z1] at h; subst h
  refine wpList_nil ?_
  refine then_n ?_
  refine wp_seq ?_
  refine wp_seq ?_
  refine wp_region_lit ?_
  refine s_val 32 rfl rfl (.slice ao l.length cap) (rfl) ?_
  refine nr ?_; intro U h; simp only [z0, z1] at h; subst h
  refine s_val 33 rfl rfl (.int .i64 ((l.length : Nat) : Int)) (run_len Try.underlying45 _ rfl _ _ _ rfl _) ?_
  refine nr ?_; intro U h; simp only [z0, z1] at h; subst h
  refine s_val 34 rfl rfl (.int .i64 0) (rfl) ?_
  refine nr ?_; intro U h; simp only [z0, z1] at h; subst h
  refine wpList_nil ?_
  refine then_n ?_
  refine wp_block ?_
  refine wp_loopN (fun mz az wv => ∃ (i : Nat) (L : List Nat) (dn : Int) (h : Hd) (rs : List (List Nat)) (Lx : List It) (M : List (Nat × IM)) (tk : List IM) (to : Option Addr) (tc : Nat) (us1 : Nat → Value), mz = l.length - i ∧ az = ⟨[.slice ao l.length cap, undef, .bool false, .pointer (some ⟨vp, 0, none⟩), .int .i64 0, .slice to tk.length tc, us1 0, us1 1, us1 2, us1 3, undef, undef, undef, undef, undef, undef, undef, .tuple #[.pointer (some ⟨vp, 0, none⟩), .int .i64 0], .pointer (some ⟨p, 0, none⟩), .tuple #[.pointer (some ⟨vp, 0, none⟩), .int .i64 0], .pointer (some ⟨vp, 0, none⟩), .int .i64 0, .pointer (some ⟨vp, 0, none⟩), .bool false, .bool false, .int .i64 0, .bool false, .bool false, .bool false, .bool true, .bool false, .bool false, .slice ao l.length cap, .int .i64 ((l.length : Nat) : Int), .int .i64 ((i : Nat) : Int), us1 4, us1 5, us1 6, us1 7, us1 8, us1 9, us1 10, us1 11, us1 12, us1 13, us1 14, us1 15, us1 16, us1 17, us1 18, us1 19, us1 20, us1 21, us1 22, undef, undef, undef, undef, undef, undef, undef, undef, undef, undef, undef, undef, undef, undef, undef, undef, undef, undef, undef, undef, undef, undef, undef, undef, undef, undef, undef, undef, undef, undef, undef, undef, undef, undef, undef, undef, undef, undef, undef, undef, undef, undef, undef, undef, undef, undef, undef, undef, undef, undef, undef].toArray, []⟩ ∧ Gro w wv ∧ VK [vp, lp, mb, p, sg] wv vp lp p sg mb 900 L (-1) dn h false 1 M ∧ PS 900 L h rs Lx 1 M ∧ OW kM 56 wv w.heap.size to tc tk ∧ i ≤ l.length ∧ (i ≤ 61 ∧ h.g ≤ i + 1 ∧ h.u ≤ 1 + 2 * i ∧ 0 ≤ dn ∧ dn ≤ 20 + 20 * i ∧ tk.length ≤ i) ∧ (∀ x ∈ tk, x ∈ l ∧ 1 ≤ x.n) ∧ Sure Lx (tk.map IM.it) ∧ Tried Lx (tk.map IM.it)) ?_ _ ⟨0, _, _, _, _, _, _, [], none, 0, (fun kz => ([undef, undef, undef, undef, undef, undef, undef, undef, undef, undef, undef, undef, undef, undef, undef, undef, undef, undef, undef, undef, undef, undef, undef] : List Value).getD kz undef), rfl, rfl, GG, HV.gro GV, HP, OW.nil _ _, Nat.zero_le _, ⟨by omega, by omega, by omega, by omega, by omega, Nat.le_refl _⟩, fun _ h => by (cases h), fun _ h => by (cases h), fun _ h => by (cases h)⟩
  clear GG GV HV HP
  rintro mz az wv ⟨i, L, dn, h, rs, Lx, M, tk, to, tc, us1, rfl, rfl, GG, HV, HP, HT, hi, hb, htk, hsu, htr⟩
  have GV := Gro.refl wv
  refine wp_seq ?_
  cases t1 : decide (((i : Nat) : Int) < ((l.length : Nat) : Int))
  · refine wp_region_lit ?_
    refine s_val 35 rfl rfl (.bool false) (run_lssT 3 _ _ _ rfl ((i : Nat) : Int) ((l.length : Nat) : Int) rfl rfl false t1 _) ?_
    refine nr ?_; intro U h; simp only [z0, z1] at h; subst h
    refine wpList_nil ?_
    refine then_n ?_
    refine wp_seq ?_
    refine wp_cond_false rfl ?_
    refine wp_exit ?_
    refine then_x ?_
    refine then_x ?_
    refine blk_x ?_
    refine then_n ?_
    refine wp_seq ?_
    refine wp_region_lit ?_
    refine s_val 54 rfl rfl (.pointer (some ⟨vp, 0, none⟩)) (rfl) ?_
    refine nr ?_; intro U h; simp only [z0, z1] at h; subst h
    have hfew := HP.few (by decide)
    refine s_callx 55 rfl rfl _ 17 Try.call17 rfl rfl _ rfl [.pointer (some ⟨vp, 0, none⟩)] rfl (all_any _ _ vp lp p sg mb 900 L (-1) dn h false 1 M (HV.gro GV) Lx HP.rel HP.sk hfew) (by rintro _ _ ⟨_, _, _, he, _, _, _, _, _⟩; exact ⟨_, he⟩) ?_
    rintro v w4 ⟨zo, zc, Z, he, G, HZ, HS, hRis, hZL⟩
    cases he
    have hZl : Z.length ≤ 4096 := by rw [← List.length_map (f := IM.it), hZL]; exact hfew
    replace HZ := HZ.mono GG.size
    replace HT := HT.gro G
    replace GV := GV.gro G
    replace GG := GG.trans G
    clear G
    refine nr ?_; intro U h; simp only [z0, z1] at h; subst h
    refine s_val 10 rfl rfl (.slice zo Z.length zc) (rfl) ?_
    refine nr ?_; intro U h; simp only [z0, z1] at h; subst h
    refine wpList_nil ?_
    refine then_n ?_
    refine wp_seq ?_
    refine wp_seq ?_
    refine wp_region_lit ?_
    refine s_val 56 rfl rfl (.slice zo Z.length zc) (rfl) ?_
    refine nr ?_; intro U h; simp only [z0, z1] at h; subst h
    refine s_val 57 rfl rfl (.int .i64 ((Z.length : Nat) : Int)) (run_len Try.underlying45 _ rfl _ _ _ rfl _) ?_
    refine nr ?_; intro U h; simp only [z0, z1] at h; subst h
    refine s_val 58 rfl rfl (.int .i64 0) (rfl) ?_
    refine nr ?_; intro U h; simp only [z0, z1] at h; subst h
    refine wpList_nil ?_
    refine then_n ?_
    refine wp_block ?_
    refine wp_loopN (fun mz az wv2 => ∃ (i2 : Nat) (us2 : Nat → Value), mz = Z.length - i2 ∧ az = ⟨[.slice ao l.length cap, undef, us2 0, .pointer (some ⟨vp, 0, none⟩), .int .i64 0, .slice to tk.length tc, us1 0, us1 1, us1 2, us1 3, .slice zo Z.length zc, us2 1, us2 2, undef, undef, undef, undef, .tuple #[.pointer (some ⟨vp, 0, none⟩), .int .i64 0], .pointer (some ⟨p, 0, none⟩), .tuple #[.pointer (some ⟨vp, 0, none⟩), .int .i64 0], .pointer (some ⟨vp, 0, none⟩), .int .i64 0, .pointer (some ⟨vp, 0, none⟩), .bool false, .bool false, .int .i64 0, .bool false, .bool false, .bool false, .bool true, .bool false, .bool false, .slice ao l.length cap, .int .i64 ((l.length : Nat) : Int), .int .i64 ((i : Nat) : Int), .bool false, us1 5, us1 6, us1 7, us1 8, us1 9, us1 10, us1 11, us1 12, us1 13, us1 14, us1 15, us1 16, us1 17, us1 18, us1 19, us1 20, us1 21, us1 22, .pointer (some ⟨vp, 0, none⟩), .slice zo Z.length zc, .slice zo Z.length zc, .int .i64 ((Z.length : Nat) : Int), .int .i64 ((i2 : Nat) : Int), us2 3, us2 4, us2 5, us2 6, us2 7, us2 8, us2 9, us2 10, us2 11, us2 12, us2 13, us2 14, us2 15, us2 16, us2 17, us2 18, us2 19, us2 20, us2 21, undef, undef, undef, undef, undef, undef, undef, undef, undef, undef, undef, undef, undef, undef, undef, undef, undef, undef, undef, undef, undef, undef, undef, undef, undef, undef, undef].toArray, []⟩ ∧ Gro w wv2 ∧ Gro wv wv2 ∧ OW kM 56 wv2 w.heap.size zo zc Z ∧ OW kM 56 wv2 w.heap.size to tc tk ∧ i2 ≤ Z.length) ?_ _ ⟨0, (fun kz => ([.bool false, undef, undef, undef, undef, undef, undef, undef, undef, undef, undef, undef, undef, undef, undef, undef, undef, undef, undef, undef, undef, undef] : List Value).getD kz undef), rfl, rfl, GG, GV, HZ, HT, Nat.zero_le _⟩
    clear GG HT GV HZ
    rintro mz az wv2 ⟨i2, us2, rfl, rfl, GG, GV, HZ, HT, hi2⟩
    refine wp_seq ?_
    cases t4 : decide (((i2 : Nat) : Int) < ((Z.length : Nat) : Int))
    · refine wp_region_lit ?_
      refine s_val 59 rfl rfl (.bool false) (run_lssT 3 _ _ _ rfl ((i2 : Nat) : Int) ((Z.length : Nat) : Int) rfl rfl false t4 _) ?_
      refine nr ?_; intro U h; simp only [z0, z1] at h; subst h
      refine wpList_nil ?_
      refine then_n ?_
      refine wp_seq ?_
      refine wp_cond_false rfl ?_
      refine wp_exit ?_
      refine then_x ?_
      refine then_x ?_
      refine blk_x ?_
      refine then_n ?_
      refine wp_seq ?_
      refine wp_seq ?_
      have hSM : SureM M tk := HP.sure HV.mr.n0 (fun x hx => by have := (htk x hx).2; omega) hsu
      refine wp_region_lit ?_
      refine s_val 78 rfl rfl (.slice to tk.length tc) (rfl) ?_
      refine nr ?_; intro U h; simp only [z0, z1] at h; subst h
      refine s_val 79 rfl rfl (.int .i64 ((tk.length : Nat) : Int)) (run_len Try.underlying45 _ rfl _ _ _ rfl _) ?_
      refine nr ?_; intro U h; simp only [z0, z1] at h; subst h
      refine s_val 80 rfl rfl (.int .i64 0) (rfl) ?_
      refine nr ?_; intro U h; simp only [z0, z1] at h; subst h
      refine wpList_nil ?_
      refine then_n ?_
      refine wp_block ?_
      refine wp_loopN (fun mz az wv3 => ∃ (i3 : Nat) (us3 : Nat → Value), mz = tk.length - i3 ∧ az = ⟨[.slice ao l.length cap, undef, us3 0, .pointer (some ⟨vp, 0, none⟩), .int .i64 0, .slice to tk.length tc, us1 0, us1 1, us1 2, us1 3, .slice zo Z.length zc, us2 1, us2 2, undef, us3 1, us3 2, us3 3, .tuple #[.pointer (some ⟨vp, 0, none⟩), .int .i64 0], .pointer (some ⟨p, 0, none⟩), .tuple #[.pointer (some ⟨vp, 0, none⟩), .int .i64 0], .pointer (some ⟨vp, 0, none⟩), .int .i64 0, .pointer (some ⟨vp, 0, none⟩), .bool false, .bool false, .int .i64 0, .bool false, .bool false, .bool false, .bool true, .bool false, .bool false, .slice ao l.length cap, .int .i64 ((l.length : Nat) : Int), .int .i64 ((i : Nat) : Int), .bool false, us1 5, us1 6, us1 7, us1 8, us1 9, us1 10, us1 11, us1 12, us1 13, us1 14, us1 15, us1 16, us1 17, us1 18, us1 19, us1 20, us1 21, us1 22, .pointer (some ⟨vp, 0, none⟩), .slice zo Z.length zc, .slice zo Z.length zc, .int .i64 ((Z.length : Nat) : Int), .int .i64 ((i2 : Nat) : Int), .bool false, us2 4, us2 5, us2 6, us2 7, us2 8, us2 9, us2 10, us2 11, us2 12, us2 13, us2 14, us2 15, us2 16, us2 17, us2 18, us2 19, us2 20, us2 21, .slice to tk.length tc, .int .i64 ((tk.length : Nat) : Int), .int .i64 ((i3 : Nat) : Int), us3 4, us3 5, us3 6, us3 7, us3 8, us3 9, us3 10, us3 11, us3 12, us3 13, us3 14, us3 15, us3 16, us3 17, us3 18, us3 19, us3 20, us3 21, us3 22, us3 23, undef, undef, undef, undef].toArray, []⟩ ∧ Gro w wv3 ∧ Gro wv wv3 ∧ OW kM 56 wv3 w.heap.size to tc tk ∧ i3 ≤ tk.length) ?_ _ ⟨0, (fun kz => ([us2 0, undef, undef, undef, undef, undef, undef, undef, undef, undef, undef, undef, undef, undef, undef, undef, undef, undef, undef, undef, undef, undef, undef, undef] : List Value).getD kz undef), rfl, rfl, GG, GV, HT, Nat.zero_le _⟩
      clear GG GV HT
      rintro mz az wv3 ⟨i3, us3, rfl, rfl, GG, GV, HT, hi3⟩
      refine wp_seq ?_
      cases t6 : decide (((i3 : Nat) : Int) < ((tk.length : Nat) : Int))
      · refine wp_region_lit ?_
        refine s_val 81 rfl rfl (.bool false) (run_lssT 3 _ _ _ rfl ((i3 : Nat) : Int) ((tk.length : Nat) : Int) rfl rfl false t6 _) ?_
        refine nr ?_; intro U h; simp only [z0, z1] at h; subst h
        refine wpList_nil ?_
        refine then_n ?_
        refine wp_seq ?_
        refine wp_cond_false rfl ?_
        refine wp_exit ?_
        refine then_x ?_
        refine then_x ?_
        refine blk_x ?_
        refine then_n ?_
        refine wp_seq ?_
        refine wp_region_lit ?_
        refine s_val 101 rfl rfl (.pointer (some ⟨vp, 0, none⟩)) (rfl) ?_
        refine nr ?_; intro U h; simp only [z0, z1] at h; subst h
        refine s_val 102 rfl rfl (.slice to tk.length tc) (rfl) ?_
        refine nr ?_; intro U h; simp only [z0, z1] at h; subst h
        refine s_val 103 rfl rfl (.slice to tk.length tc) (rfl) ?_
        refine nr ?_; intro U h; simp only [z0, z1] at h; subst h
        refine s_callv 104 rfl rfl _ 25 Try.call25 rfl rfl _ rfl [.pointer (some ⟨vp, 0, none⟩), .slice to tk.length tc, .slice to tk.length tc] rfl (holds_any _ _ vp lp p sg mb 900 L (-1) dn h false 1 M (HV.gro GV) Lx HP.rel HP.sk hfew HP.ok to to tc tc tk tk HT.re HT.re (fun x hx => (HN x (htk x hx).1).gro GG) (by omega) (by omega) hSM (tried_of htr)) ?_
        intro w5 G
        replace GV := GV.gro G
        replace HT := HT.gro G
        replace GG := GG.trans G
        clear G
        refine nr ?_; intro U h; simp only [z0, z1] at h; subst h
        refine s_val 2 rfl rfl (.bool true) (rfl) ?_
        refine nr ?_; intro U h; simp only [z0, z1] at h; subst h
        refine wpList_nil ?_
        refine then_n ?_
        refine wp_ret ?_
        refine bodyPost_ret (results_tmp Try.results7 _ _ _) rfl ?_
        exact ⟨rfl, GG⟩
      · have hlt3 : i3 < tk.length := by have := of_decide_eq_true t6; omega
        obtain ⟨y, hy, hny⟩ := hSM (tk.getD i3 zM) (getD_mem3 hlt3)
        have hky : getK M (tk.getD i3 zM).key = y := by unfold getK; rw [hy]; rfl
        have hyo : y.ok := HV.vb.ok _ (getM_some hy)
        refine wp_region_lit ?_
        refine s_val 81 rfl rfl (.bool true) (run_lssT 3 _ _ _ rfl ((i3 : Nat) : Int) ((tk.length : Nat) : Int) rfl rfl true t6 _) ?_
        refine nr ?_; intro U h; simp only [z0, z1] at h; subst h
        refine wpList_nil ?_
        refine then_n ?_
        refine wp_seq ?_
        refine wp_cond_true rfl ?_
        refine wp_skip ?_
        refine then_n ?_
        refine wp_seq ?_
        refine wp_block ?_
        refine wp_seq ?_
        refine wp_region_lit ?_
        refine s_val 82 rfl rfl (.pointer (pK kM to i3 0)) (run_ixK rM (HT.re) _ _ rfl rfl i3 rfl (by omega)) ?_
        refine nr ?_; intro U h; simp only [z0, z1] at h; subst h
        refine s_val 83 rfl rfl (.agg (itA (tk.getD i3 zM))) (run_ldKM (HT.re) _ rfl i3 rfl (by omega)) ?_
        refine nr ?_; intro U h; simp only [z0, z1] at h; subst h
        refine s_alloc 14 rfl rfl 56 rfl _ zeroIt (itA zM) rfl ?_
        intro w5 g1 G eg1 kg1
        have bg1 := size_base GG eg1
        have dGVg1 := GV.ne eg1
        have dHTg1 := HT.ne eg1
        replace GV := GV.gro G
        replace HT := HT.gro G
        replace GG := GG.trans G
        clear G
        clear eg1
        refine nr ?_; intro U h; simp only [z0, z1] at h; subst h
        refine s_store rfl rfl 56 _ _ rfl g1 0 rfl (.agg (itA (tk.getD i3 zM))) rfl 56 _ kg1 (itA (tk.getD i3 zM)) rfl (siIt' _) (itA_fit _ _) (itA_one _) (itA (tk.getD i3 zM)) (splice_whole _ _ (itA_sz _ _)) ?_
        intro w6 St
        replace GV := GV.st St dGVg1
        replace HT := HT.st St dHTg1
        replace GG := GG.store St bg1
        replace kg1 := St.new
        clear St
        refine wpList_nil ?_
        refine then_n ?_
        refine wp_seq ?_
        refine wp_region_lit ?_
        refine s_val 85 rfl rfl (.pointer (some ⟨vp, 0, none⟩)) (rfl) ?_
        refine nr ?_; intro U h; simp only [z0, z1] at h; subst h
        refine s_val 86 rfl rfl (.pointer (some ⟨g1, 0, none⟩)) (run_fld 56 _ 0 rfl g1 0 rfl 0 (by kernel_rfl)) ?_
        refine nr ?_; intro U h; simp only [z0, z1] at h; subst h
        refine s_val 87 rfl rfl (.agg (idA (tk.getD i3 zM).key)) (ldItk _ rfl g1 rfl (kg1)) ?_
        refine nr ?_; intro U h; simp only [z0, z1] at h; subst h
        refine s_callx 88 rfl rfl _ 27 Try.call27 rfl rfl _ rfl [.pointer (some ⟨vp, 0, none⟩), .agg (idA (tk.getD i3 zM).key)] rfl ((get_any _ _ vp lp p sg mb 900 L (-1) dn h false 1 M (HV.gro GV) (tk.getD i3 zM).key (atM HT.re hlt3).key).mono fun e w' h => by rw [hky, hy] at h; exact h) (by rintro _ _ ⟨_, _, he, _, _⟩; exact ⟨_, he⟩) ?_
        rintro v w7 ⟨ao4, cap4, he, G, HO4⟩
        cases he
        replace kg1 := G.has kg1
        replace GV := GV.gro G
        replace HT := HT.gro G
        replace GG := GG.trans G
        clear G
        refine nr ?_; intro U h; simp only [z0, z1] at h; subst h
        refine s_val 84 rfl rfl (.tuple #[.agg (itA (y.re ao4 cap4)), .bool true]) (rfl) ?_
        refine nr ?_; intro U h; simp only [z0, z1] at h; subst h
        refine s_val 89 rfl rfl (.agg (itA (y.re ao4 cap4))) (rfl) ?_
        refine nr ?_; intro U h; simp only [z0, z1] at h; subst h
        refine s_val 90 rfl rfl (.bool true) (rfl) ?_
        refine nr ?_; intro U h; simp only [z0, z1] at h; subst h
        refine s_alloc 15 rfl rfl 56 rfl _ zeroIt (itA zM) rfl ?_
        intro w8 g2 G eg2 kg2
        have bg2 := size_base GG eg2
        have dg1g2 := lt_new kg1 eg2
        have dGVg2 := GV.ne eg2
        have dHTg2 := HT.ne eg2
        replace kg1 := G.has kg1
        replace GV := GV.gro G
        replace HT := HT.gro G
        replace GG := GG.trans G
        clear G
        clear eg2
        refine nr ?_; intro U h; simp only [z0, z1] at h; subst h
        refine s_store rfl rfl 56 _ _ rfl g2 0 rfl (.agg (itA (y.re ao4 cap4))) rfl 56 _ kg2 (itA (y.re ao4 cap4)) rfl (siIt' _) (itA_fit _ _) (itA_one _) (itA (y.re ao4 cap4)) (splice_whole _ _ (itA_sz _ _)) ?_
        intro w9 St
        replace kg1 := St.has (by omega) kg1
        replace GV := GV.st St dGVg2
        replace HT := HT.st St dHTg2
        replace GG := GG.store St bg2
        replace kg2 := St.new
        clear St
        refine s_val 16 rfl rfl (.bool true) (rfl) ?_
        refine nr ?_; intro U h; simp only [z0, z1] at h; subst h
        refine wpList_nil ?_
        refine then_n ?_
        refine wp_seq ?_
        refine wp_region_opq ?_
        intro OPS hY
        have y2 := hY 2 93 rfl
        clear hY
        refine s_val 91 rfl rfl (.bool true) (rfl) ?_
        refine nr ?_; intro U h; simp only [z0, z1] at h; subst h
        refine s_val 92 rfl rfl (.bool false) (run_nt _ _ rfl true rfl) ?_
        refine nr ?_; intro U h; simp only [z0, z1] at h; subst h
        refine s_val 93 rfl rfl (.bool false) (rfl) ?_
        refine nr ?_; intro U h; simp only [z0, z1] at h; subst h
        refine s_gvalY 94 rfl rfl y2 rfl (.pointer (some ⟨g1, 16, none⟩)) (run_fld 56 _ 1 rfl g1 0 rfl 16 (by kernel_rfl)) ?_
        refine nr ?_; intro U h; simp only [z0, z1] at h; subst h
        refine s_gvalY 95 rfl rfl y2 rfl (.agg (veA (tk.getD i3 zM).ver)) (ldItv _ rfl g1 rfl (kg1)) ?_
        refine nr ?_; intro U h; simp only [z0, z1] at h; subst h
        refine s_gvalY 96 rfl rfl y2 rfl (.pointer (some ⟨g2, 16, none⟩)) (run_fld 56 _ 1 rfl g2 0 rfl 16 (by kernel_rfl)) ?_
        refine nr ?_; intro U h; simp only [z0, z1] at h; subst h
        refine s_gvalY 97 rfl rfl y2 rfl (.agg (veA (y.re ao4 cap4).ver)) (ldItv _ rfl g2 rfl (kg2)) ?_
        refine nr ?_; intro U h; simp only [z0, z1] at h; subst h
        refine s_gcallvY 98 rfl rfl y2 rfl _ 22 Try.call22 rfl rfl _ rfl [.agg (veA (tk.getD i3 zM).ver), .agg (veA (y.re ao4 cap4).ver)] rfl (Calls.bool (rnewer_any (tk.getD i3 zM).ver y.ver (atM HT.re hlt3).ver hyo.ver _) hny) ?_
        intro w10 G
        replace kg1 := G.has kg1
        replace kg2 := G.has kg2
        replace GV := GV.gro G
        replace HT := HT.gro G
        replace GG := GG.trans G
        clear G
        refine nr ?_; intro U h; simp only [z0, z1] at h; subst h
        refine s_val 99 rfl rfl (.bool false) (rfl) ?_
        refine nr ?_; intro U h; simp only [z0, z1] at h; subst h
        refine wpList_nil ?_
        refine then_n ?_
        refine wp_cond_false rfl ?_
        refine wp_skip ?_
        refine blk_n ?_
        refine then_n ?_
        refine wp_region_lit ?_
        refine s_val 100 rfl rfl (.int .i64 ((i3 + 1 : Nat) : Int)) (run_addI 3 _ _ _ rfl ((i3 : Nat) : Int) 1 ((i3 + 1 : Nat) : Int) rfl rfl (by omega) (by omega) (by omega) _) ?_
        refine nr ?_; intro U h; simp only [z0, z1] at h; subst h
        refine s_val 80 rfl rfl (.int .i64 ((i3 + 1 : Nat) : Int)) (rfl) ?_
        refine nr ?_; intro U h; simp only [z0, z1] at h; subst h
        refine wpList_nil ?_
        refine then_n ?_
        exact ⟨_, by omega, i3 + 1, (fun kz => ([us3 0, .pointer (some ⟨g1, 0, none⟩), .pointer (some ⟨g2, 0, none⟩), .bool true, .bool true, .pointer (pK kM to i3 0), .agg (itA (tk.getD i3 zM)), .tuple #[.agg (itA (y.re ao4 cap4)), .bool true], .pointer (some ⟨vp, 0, none⟩), .pointer (some ⟨g1, 0, none⟩), .agg (idA (tk.getD i3 zM).key), .tuple #[.agg (itA (y.re ao4 cap4)), .bool true], .agg (itA (y.re ao4 cap4)), .bool true, .bool true, .bool false, .bool false, .pointer (some ⟨g1, 16, none⟩), .agg (veA (tk.getD i3 zM).ver), .pointer (some ⟨g2, 16, none⟩), .agg (veA (y.re ao4 cap4).ver), .bool false, .bool false, .int .i64 ((i3 + 1 : Nat) : Int)] : List Value).getD kz undef), rfl, rfl, GG, GV, HT, by omega⟩
    · have hlt2 : i2 < Z.length := by have := of_decide_eq_true t4; omega
      refine wp_region_lit ?_
      refine s_val 59 rfl rfl (.bool true) (run_lssT 3 _ _ _ rfl ((i2 : Nat) : Int) ((Z.length : Nat) : Int) rfl rfl true t4 _) ?_
      refine nr ?_; intro U h; simp only [z0, z1] at h; subst h
      refine wpList_nil ?_
      refine then_n ?_
      refine wp_seq ?_
      refine wp_cond_true rfl ?_
      refine wp_skip ?_
      refine then_n ?_
      refine wp_seq ?_
      refine wp_block ?_
      refine wp_seq ?_
      refine wp_region_lit ?_
      refine s_val 60 rfl rfl (.int .i64 ((i2 : Nat) : Int)) (rfl) ?_
      refine nr ?_; intro U h; simp only [z0, z1] at h; subst h
      refine s_val 61 rfl rfl (.pointer (pK kM zo i2 0)) (run_ixK rM (HZ.re) _ _ rfl rfl i2 rfl (by omega)) ?_
      refine nr ?_; intro U h; simp only [z0, z1] at h; subst h
      refine s_val 62 rfl rfl (.agg (itA (Z.getD i2 zM))) (run_ldKM (HZ.re) _ rfl i2 rfl (by omega)) ?_
      refine nr ?_; intro U h; simp only [z0, z1] at h; subst h
      refine s_alloc 12 rfl rfl 56 rfl _ zeroIt (itA zM) rfl ?_
      intro w5 g1 G eg1 kg1
      have bg1 := size_base GG eg1
      have dGVg1 := GV.ne eg1
      have dHZg1 := HZ.ne eg1
      have dHTg1 := HT.ne eg1
      replace GV := GV.gro G
      replace HZ := HZ.gro G
      replace HT := HT.gro G
      replace GG := GG.trans G
      clear G
      clear eg1
      refine nr ?_; intro U h; simp only [z0, z1] at h; subst h
      refine s_val 11 rfl rfl (.int .i64 ((i2 : Nat) : Int)) (rfl) ?_
      refine nr ?_; intro U h; simp only [z0, z1] at h; subst h
      refine s_store rfl rfl 56 _ _ rfl g1 0 rfl (.agg (itA (Z.getD i2 zM))) rfl 56 _ kg1 (itA (Z.getD i2 zM)) rfl (siIt' _) (itA_fit _ _) (itA_one _) (itA (Z.getD i2 zM)) (splice_whole _ _ (itA_sz _ _)) ?_
      intro w6 St
      replace GV := GV.st St dGVg1
      replace HZ := HZ.st St dHZg1
      replace HT := HT.st St dHTg1
      replace GG := GG.store St bg1
      replace kg1 := St.new
      clear St
      refine wpList_nil ?_
      refine then_n ?_
      refine wp_seq ?_
      cases t5 : decide ((0 : Int) < ((i2 : Nat) : Int))
      · refine wp_region_exA (A := ?Ax1) 13 [(0, 63), (1, 64), (2, 65), (3, 66), (4, 67), (5, 68), (6, 69), (7, 70), (8, 71), (9, 72), (10, 73), (11, 74), (12, 75)] [.val (.int .i64 ((i2 : Nat) : Int)), .val (.bool false), .val (.bool false), .val undef, .val undef, .val undef, .val undef, .val undef, .val undef, .val undef, .val undef, .val undef, .val undef] follows (by kernel_rfl) rfl ?hAx1 (opsA_cons ?o0x1 (opsA_cons ?o1x1 (opsA_cons ?o2x1 (opsA_cons ?o3x1 (opsA_cons ?o4x1 (opsA_cons ?o5x1 (opsA_cons ?o6x1 (opsA_cons ?o7x1 (opsA_cons ?o8x1 (opsA_cons ?o9x1 (opsA_cons ?o10x1 (opsA_cons ?o11x1 (opsA_cons ?o12x1 opsA_nil))))))))))))) ?restx1
        case hAx1 =>
          intro ptrs
          simp only [full, foldSlots, filledE, postE, List.foldl_cons, List.foldl_nil, List.getD_cons_zero, List.getD_cons_succ, fill_val, List.set_cons_zero, List.set_cons_succ]
          exact rfl
        case o0x1 => exact fun _ _ _ _ => opE_move (v := .int .i64 ((i2 : Nat) : Int)) _ rfl rfl rfl
        case o1x1 => exact fun _ _ _ _ => opE_value (v := .bool false) rfl (run_gtrT 3 _ _ _ rfl ((i2 : Nat) : Int) 0 rfl rfl false t5 _)
        case o2x1 => exact fun _ _ _ _ => opE_move (v := .bool false) _ rfl rfl rfl
        case o3x1 => exact fun _ _ _ _ => opE_skip rfl
        case o4x1 => exact fun _ _ _ _ => opE_skip rfl
        case o5x1 => exact fun _ _ _ _ => opE_skip rfl
        case o6x1 => exact fun _ _ _ _ => opE_skip rfl
        case o7x1 => exact fun _ _ _ _ => opE_skip rfl
        case o8x1 => exact fun _ _ _ _ => opE_skip rfl
        case o9x1 => exact fun _ _ _ _ => opE_skip rfl
        case o10x1 => exact fun _ _ _ _ => opE_skip rfl
        case o11x1 => exact fun _ _ _ _ => opE_skip rfl
        case o12x1 => exact fun _ _ _ _ => opE_skip rfl
        intro ptrs w7 GD hxE
        simp only [List.drop_succ_cons, List.drop_zero]
        replace kg1 := GD.has kg1
        replace GV := GV.gro ((Gro.refl _).drew.trans GD)
        replace HZ := HZ.gro ((Gro.refl _).drew.trans GD)
        replace HT := HT.gro ((Gro.refl _).drew.trans GD)
        replace GG := GG.drew.trans GD
        clear GD
        refine s_val 76 rfl rfl (.bool false) (rfl) ?_
        refine nr ?_; intro U h; simp only [z0, z1] at h; subst h
        refine wpList_nil ?_
        refine then_n ?_
        refine wp_cond_false rfl ?_
        refine wp_skip ?_
        refine blk_n ?_
        refine then_n ?_
        refine wp_region_lit ?_
        refine s_val 77 rfl rfl (.int .i64 ((i2 + 1 : Nat) : Int)) (run_addI 3 _ _ _ rfl ((i2 : Nat) : Int) 1 ((i2 + 1 : Nat) : Int) rfl rfl (by omega) (by omega) (by omega) _) ?_
        refine nr ?_; intro U h; simp only [z0, z1] at h; subst h
        refine s_val 58 rfl rfl (.int .i64 ((i2 + 1 : Nat) : Int)) (rfl) ?_
        refine nr ?_; intro U h; simp only [z0, z1] at h; subst h
        refine wpList_nil ?_
        refine then_n ?_
        exact ⟨_, by omega, i2 + 1, (fun kz => ([us2 0, .int .i64 ((i2 : Nat) : Int), .pointer (some ⟨g1, 0, none⟩), .bool true, .int .i64 ((i2 : Nat) : Int), .pointer (pK kM zo i2 0), .agg (itA (Z.getD i2 zM)), .int .i64 ((i2 : Nat) : Int), .bool false, .bool false, undef, undef, undef, undef, undef, undef, undef, undef, undef, undef, .bool false, .int .i64 ((i2 + 1 : Nat) : Int)] : List Value).getD kz undef), rfl, rfl, GG, GV, HZ, HT, by omega⟩
      · have hi20 : 0 < i2 := by have := of_decide_eq_true t5; omega
        refine wp_region_exA (A := ?Ax2) 13 [(0, 63), (1, 64), (2, 65), (3, 66), (4, 67), (5, 68), (6, 69), (7, 70), (8, 71), (9, 72), (10, 73), (11, 74), (12, 75)] [.val (.int .i64 ((i2 : Nat) : Int)), .val (.bool true), .val (.bool true), .val (.slice zo Z.length zc), .val (.int .i64 ((i2 : Nat) : Int)), .val (.int .i64 ((i2 - 1 : Nat) : Int)), .val (.pointer (pK kM zo (i2 - 1) 0)), .val (.pointer (pK kM zo (i2 - 1) 0)), .val (.agg (idA (Z.getD (i2 - 1) zM).key)), .val (.pointer (some ⟨g1, 0, none⟩)), .val (.agg (idA (Z.getD i2 zM).key)), .val (.bool true), .val (.bool false)] follows (by kernel_rfl) rfl ?hAx2 (opsA_cons ?o0x2 (opsA_cons ?o1x2 (opsA_cons ?o2x2 (opsA_cons ?o3x2 (opsA_cons ?o4x2 (opsA_cons ?o5x2 (opsA_cons ?o6x2 (opsA_cons ?o7x2 (opsA_cons ?o8x2 (opsA_cons ?o9x2 (opsA_cons ?o10x2 (opsA_cons ?o11x2 (opsA_cons ?o12x2 opsA_nil))))))))))))) ?restx2
        case hAx2 =>
          intro ptrs
          simp only [full, foldSlots, filledE, postE, List.foldl_cons, List.foldl_nil, List.getD_cons_zero, List.getD_cons_succ, fill_val, List.set_cons_zero, List.set_cons_succ]
          exact rfl
        case o0x2 => exact fun _ _ _ _ => opE_move (v := .int .i64 ((i2 : Nat) : Int)) _ rfl rfl rfl
        case o1x2 => exact fun _ _ _ _ => opE_value (v := .bool true) rfl (run_gtrT 3 _ _ _ rfl ((i2 : Nat) : Int) 0 rfl rfl true t5 _)
        case o2x2 => exact fun _ _ _ _ => opE_move (v := .bool true) _ rfl rfl rfl
        case o3x2 => exact fun _ _ _ _ => opE_move (v := .slice zo Z.length zc) _ rfl rfl rfl
        case o4x2 => exact fun _ _ _ _ => opE_move (v := .int .i64 ((i2 : Nat) : Int)) _ rfl rfl rfl
        case o5x2 => exact fun _ _ _ _ => opE_value (v := .int .i64 ((i2 - 1 : Nat) : Int)) rfl (run_subI 3 _ _ _ rfl ((i2 : Nat) : Int) 1 ((i2 - 1 : Nat) : Int) rfl rfl (by omega) (by omega) (by omega) _)
        case o6x2 => exact fun _ _ hw _ => opE_value (v := .pointer (pK kM zo (i2 - 1) 0)) rfl (run_ixK rM ((HZ.re).gro ((Gro.refl _).drew.trans hw)) _ _ rfl rfl (i2 - 1) rfl (by omega))
        case o7x2 => exact fun _ _ hw _ => opE_value (v := .pointer (pK kM zo (i2 - 1) 0)) rfl (run_fdK ((HZ.re).gro ((Gro.refl _).drew.trans hw)) 56 _ 0 0 (fdM_0 _) rfl (i2 - 1) rfl (by omega))
        case o8x2 => exact fun _ _ hw _ => opE_value (v := .agg (idA (Z.getD (i2 - 1) zM).key)) rfl (run_ldKMk ((HZ.re).gro ((Gro.refl _).drew.trans hw)) _ rfl (i2 - 1) rfl (by omega))
        case o9x2 => exact fun _ _ _ _ => opE_value (v := .pointer (some ⟨g1, 0, none⟩)) rfl (run_fld 56 _ 0 rfl g1 0 rfl 0 (by kernel_rfl))
        case o10x2 => exact fun _ _ hw _ => opE_value (v := .agg (idA (Z.getD i2 zM).key)) rfl (ldItk _ rfl g1 rfl (hw.has kg1))
        case o11x2 =>
          intro ptrs w' hw hE
          exact opE_call (.val (.bool true)) rfl _ 30 Try.call30 rfl rfl _ rfl [.agg (idA (Z.getD (i2 - 1) zM).key), .agg (idA (Z.getD i2 zM).key)] rfl ((Calls.bool (less_any (Z.getD (i2 - 1) zM).key (Z.getD i2 zM).key (atM HZ.re (by omega)).key (atM HZ.re hlt2).key _) (decide_eq_true (by have := ris_at hRis (i := i2 - 1) (by omega); rw [show i2 - 1 + 1 = i2 by omega] at this; exact this))).mono fun e w' ⟨he, hg⟩ => ⟨_, he, hg, rfl⟩)
        case o12x2 => exact fun _ _ _ _ => opE_value (v := .bool false) rfl (run_nt _ _ rfl true rfl)
        intro ptrs w7 GD hxE
        simp only [List.drop_succ_cons, List.drop_zero]
        replace kg1 := GD.has kg1
        replace GV := GV.gro ((Gro.refl _).drew.trans GD)
        replace HZ := HZ.gro ((Gro.refl _).drew.trans GD)
        replace HT := HT.gro ((Gro.refl _).drew.trans GD)
        replace GG := GG.drew.trans GD
        clear GD
        refine s_val 76 rfl rfl (.bool false) (rfl) ?_
        refine nr ?_; intro U h; simp only [z0, z1] at h; subst h
        refine wpList_nil ?_
        refine then_n ?_
        refine wp_cond_false rfl ?_
        refine wp_skip ?_
        refine blk_n ?_
        refine then_n ?_
        refine wp_region_lit ?_
        refine s_val 77 rfl rfl (.int .i64 ((i2 + 1 : Nat) : Int)) (run_addI 3 _ _ _ rfl ((i2 : Nat) : Int) 1 ((i2 + 1 : Nat) : Int) rfl rfl (by omega) (by omega) (by omega) _) ?_
        refine nr ?_; intro U h; simp only [z0, z1] at h; subst h
        refine s_val 58 rfl rfl (.int .i64 ((i2 + 1 : Nat) : Int)) (rfl) ?_
        refine nr ?_; intro U h; simp only [z0, z1] at h; subst h
        refine wpList_nil ?_
        refine then_n ?_
        exact ⟨_, by omega, i2 + 1, (fun kz => ([us2 0, .int .i64 ((i2 : Nat) : Int), .pointer (some ⟨g1, 0, none⟩), .bool true, .int .i64 ((i2 : Nat) : Int), .pointer (pK kM zo i2 0), .agg (itA (Z.getD i2 zM)), .int .i64 ((i2 : Nat) : Int), .bool true, .bool true, .slice zo Z.length zc, .int .i64 ((i2 : Nat) : Int), .int .i64 ((i2 - 1 : Nat) : Int), .pointer (pK kM zo (i2 - 1) 0), .pointer (pK kM zo (i2 - 1) 0), .agg (idA (Z.getD (i2 - 1) zM).key), .pointer (some ⟨g1, 0, none⟩), .agg (idA (Z.getD i2 zM).key), .bool true, .bool false, .bool false, .int .i64 ((i2 + 1 : Nat) : Int)] : List Value).getD kz undef), rfl, rfl, GG, GV, HZ, HT, by omega⟩
  · have hlt : i < l.length := by have := of_decide_eq_true t1; omega
    refine wp_region_lit ?_
    refine s_val 35 rfl rfl (.bool true) (run_lssT 3 _ _ _ rfl ((i : Nat) : Int) ((l.length : Nat) : Int) rfl rfl true t1 _) ?_
    refine nr ?_; intro U h; simp only [z0, z1] at h; subst h
    refine wpList_nil ?_
    refine then_n ?_
    refine wp_seq ?_
    refine wp_cond_true rfl ?_
    refine wp_skip ?_
    refine then_n ?_
    refine wp_seq ?_
    refine wp_block ?_
    refine wp_seq ?_
    refine wp_region_lit ?_
    refine s_val 36 rfl rfl (.int .i64 ((i : Nat) : Int)) (rfl) ?_
    refine nr ?_; intro U h; simp only [z0, z1] at h; subst h
    refine s_val 37 rfl rfl (.pointer (pK kM ao i 0)) (run_ixK rM ((HA.gro GG)) _ _ rfl rfl i rfl (by omega)) ?_
    refine nr ?_; intro U h; simp only [z0, z1] at h; subst h
    refine s_val 38 rfl rfl (.agg (itA (l.getD i zM))) (run_ldKM ((HA.gro GG)) _ rfl i rfl (by omega)) ?_
    refine nr ?_; intro U h; simp only [z0, z1] at h; subst h
    refine s_alloc 7 rfl rfl 56 rfl _ zeroIt (itA zM) rfl ?_
    intro w4 g1 G eg1 kg1
    have bg1 := size_base GG eg1
    have dHTg1 := HT.ne eg1
    have dGVg1 := GV.ne eg1
    replace HT := HT.gro G
    replace GV := GV.gro G
    replace GG := GG.trans G
    clear G
    clear eg1
    refine nr ?_; intro U h; simp only [z0, z1] at h; subst h
    refine s_val 6 rfl rfl (.int .i64 ((i : Nat) : Int)) (rfl) ?_
    refine nr ?_; intro U h; simp only [z0, z1] at h; subst h
    refine s_store rfl rfl 56 _ _ rfl g1 0 rfl (.agg (itA (l.getD i zM))) rfl 56 _ kg1 (itA (l.getD i zM)) rfl (siIt' _) (itA_fit _ _) (itA_one _) (itA (l.getD i zM)) (splice_whole _ _ (itA_sz _ _)) ?_
    intro w5 St
    replace HT := HT.st St dHTg1
    replace GV := GV.st St dGVg1
    replace GG := GG.store St bg1
    replace kg1 := St.new
    clear St
    refine wpList_nil ?_
    refine then_n ?_
    refine wp_seq ?_
    refine wp_seq ?_
    cases t2 : decide ((60 : Int) < ((i : Nat) : Int))
    · have hi60 : i ≤ 60 := by have := of_decide_eq_false t2; omega
      refine wp_region_lit ?_
      refine s_val 39 rfl rfl (.int .i64 ((i : Nat) : Int)) (rfl) ?_
      refine nr ?_; intro U h; simp only [z0, z1] at h; subst h
      refine s_val 40 rfl rfl (.bool false) (run_gtrT 3 _ _ _ rfl ((i : Nat) : Int) 60 rfl rfl false t2 _) ?_
      refine nr ?_; intro U h; simp only [z0, z1] at h; subst h
      refine wpList_nil ?_
      refine then_n ?_
      refine wp_cond_false rfl ?_
      refine wp_skip ?_
      refine then_n ?_
      refine wp_seq ?_
      have hxl := getD_mem3 hlt
      have hxo := HA.all _ hxl
      have hxn := HN _ hxl
      have hn0 := HV.mr.n0
      have HVo := HV.gro GV
      rcases (by omega : ((l.getD i zM).n < 1 ∨ 4611686018427387903 < (l.getD i zM).n) ∨ (1 ≤ (l.getD i zM).n ∧ (l.getD i zM).n ≤ 4611686018427387903)) with hna | hna
      · skip
        refine wp_region_lit ?_
        refine s_val 42 rfl rfl (.pointer (some ⟨vp, 0, none⟩)) (rfl) ?_
        refine nr ?_; intro U h; simp only [z0, z1] at h; subst h
        refine s_val 43 rfl rfl (.agg (itA (l.getD i zM))) (ldIt0 _ rfl g1 rfl (kg1)) ?_
        refine nr ?_; intro U h; simp only [z0, z1] at h; subst h
        refine s_callv 44 rfl rfl _ 29 Try.call29 rfl rfl _ rfl [.pointer (some ⟨vp, 0, none⟩), .agg (itA (l.getD i zM))] rfl (merge_arg _ _ vp lp p sg mb 900 L (-1) dn h false 1 M HVo (l.getD i zM) hna) ?_
        intro w6 G
        replace kg1 := G.has kg1
        replace HT := HT.gro G
        replace GV := GV.gro G
        replace GG := GG.trans G
        clear G
        refine nr ?_; intro U h; simp only [z0, z1] at h; subst h
        refine s_val 41 rfl rfl (.tuple #[.bool false, .int .i64 1]) (rfl) ?_
        refine nr ?_; intro U h; simp only [z0, z1] at h; subst h
        refine s_val 45 rfl rfl (.bool false) (rfl) ?_
        refine nr ?_; intro U h; simp only [z0, z1] at h; subst h
        refine s_val 46 rfl rfl (.int .i64 1) (rfl) ?_
        refine nr ?_; intro U h; simp only [z0, z1] at h; subst h
        refine s_val 8 rfl rfl (.bool false) (rfl) ?_
        refine nr ?_; intro U h; simp only [z0, z1] at h; subst h
        refine s_val 9 rfl rfl (.int .i64 1) (rfl) ?_
        refine nr ?_; intro U h; simp only [z0, z1] at h; subst h
        refine wpList_nil ?_
        refine then_n ?_
        refine wp_seq ?_
        refine wp_region_lit ?_
        refine s_val 47 rfl rfl (.int .i64 1) (rfl) ?_
        refine nr ?_; intro U h; simp only [z0, z1] at h; subst h
        refine s_val 48 rfl rfl (.bool false) (run_eq_k 26 .i64 _ _ _ rfl Try.underlying26 1 0 rfl rfl false (by decide) _) ?_
        refine nr ?_; intro U h; simp only [z0, z1] at h; subst h
        refine wpList_nil ?_
        refine then_n ?_
        refine wp_cond_false rfl ?_
        refine wp_skip ?_
        refine blk_n ?_
        refine then_n ?_
        refine wp_region_lit ?_
        refine s_val 53 rfl rfl (.int .i64 ((i + 1 : Nat) : Int)) (run_addI 3 _ _ _ rfl ((i : Nat) : Int) 1 ((i + 1 : Nat) : Int) rfl rfl (by omega) (by omega) (by omega) _) ?_
        refine nr ?_; intro U h; simp only [z0, z1] at h; subst h
        refine s_val 34 rfl rfl (.int .i64 ((i + 1 : Nat) : Int)) (rfl) ?_
        refine nr ?_; intro U h; simp only [z0, z1] at h; subst h
        refine wpList_nil ?_
        refine then_n ?_
        exact ⟨_, by omega, i + 1, L, dn, h, _, _, M, tk, _, _, (fun kz => ([.int .i64 ((i : Nat) : Int), .pointer (some ⟨g1, 0, none⟩), .bool false, .int .i64 1, .bool true, .int .i64 ((i : Nat) : Int), .pointer (pK kM ao i 0), .agg (itA (l.getD i zM)), .int .i64 ((i : Nat) : Int), .bool false, .tuple #[.bool false, .int .i64 1], .pointer (some ⟨vp, 0, none⟩), .agg (itA (l.getD i zM)), .tuple #[.bool false, .int .i64 1], .bool false, .int .i64 1, .int .i64 1, .bool false, us1 18, us1 19, us1 20, us1 21, .int .i64 ((i + 1 : Nat) : Int)] : List Value).getD kz undef), rfl, rfl, GG, HV.gro GV, HP, HT, by omega, ⟨by omega, by omega, by omega, by omega, by omega, by omega⟩, htk, hsu, htr⟩
      · skip
        cases hl : decide (64 < (l.getD i zM).val.length)
        · have hl1 := of_decide_eq_false hl
          cases hq : isN M (l.getD i zM)
          · skip
            have htk2 : ∀ x ∈ tk ++ [(l.getD i zM)], x ∈ l ∧ 1 ≤ x.n := fun x hx => by
              rcases List.mem_append.1 hx with hx | hx
              · exact htk x hx
              · rw [List.mem_singleton.1 hx]; exact ⟨hxl, by omega⟩
            refine wp_region_lit ?_
            refine s_val 42 rfl rfl (.pointer (some ⟨vp, 0, none⟩)) (rfl) ?_
            refine nr ?_; intro U h; simp only [z0, z1] at h; subst h
            refine s_val 43 rfl rfl (.agg (itA (l.getD i zM))) (ldIt0 _ rfl g1 rfl (kg1)) ?_
            refine nr ?_; intro U h; simp only [z0, z1] at h; subst h
            refine s_callv 44 rfl rfl _ 29 Try.call29 rfl rfl _ rfl [.pointer (some ⟨vp, 0, none⟩), .agg (itA (l.getD i zM))] rfl (merge_old _ _ vp lp p sg mb 900 L (-1) dn h false 1 M HVo (l.getD i zM) hxo (by omega) (by omega) (by omega) hq) ?_
            intro w6 G
            replace kg1 := G.has kg1
            replace HT := HT.gro G
            replace GV := GV.gro G
            replace GG := GG.trans G
            clear G
            refine nr ?_; intro U h; simp only [z0, z1] at h; subst h
            refine s_val 41 rfl rfl (.tuple #[.bool false, .int .i64 0]) (rfl) ?_
            refine nr ?_; intro U h; simp only [z0, z1] at h; subst h
            refine s_val 45 rfl rfl (.bool false) (rfl) ?_
            refine nr ?_; intro U h; simp only [z0, z1] at h; subst h
            refine s_val 46 rfl rfl (.int .i64 0) (rfl) ?_
            refine nr ?_; intro U h; simp only [z0, z1] at h; subst h
            refine s_val 8 rfl rfl (.bool false) (rfl) ?_
            refine nr ?_; intro U h; simp only [z0, z1] at h; subst h
            refine s_val 9 rfl rfl (.int .i64 0) (rfl) ?_
            refine nr ?_; intro U h; simp only [z0, z1] at h; subst h
            refine wpList_nil ?_
            refine then_n ?_
            refine wp_seq ?_
            refine wp_region_lit ?_
            refine s_val 47 rfl rfl (.int .i64 0) (rfl) ?_
            refine nr ?_; intro U h; simp only [z0, z1] at h; subst h
            refine s_val 48 rfl rfl (.bool true) (run_eq_k 26 .i64 _ _ _ rfl Try.underlying26 0 0 rfl rfl true (decide_eq_true rfl) _) ?_
            refine nr ?_; intro U h; simp only [z0, z1] at h; subst h
            refine wpList_nil ?_
            refine then_n ?_
            refine wp_cond_true rfl ?_
            refine wp_region_lit ?_
            refine s_val 49 rfl rfl (.slice to tk.length tc) (rfl) ?_
            refine nr ?_; intro U h; simp only [z0, z1] at h; subst h
            refine s_val 50 rfl rfl (.agg (itA (l.getD i zM))) (ldIt0 _ rfl g1 rfl (kg1)) ?_
            refine nr ?_; intro U h; simp only [z0, z1] at h; subst h
            refine s_bsl 51 rfl rfl 45 1 _ rfl [(0, .agg (itA (l.getD i zM)))] rfl ([(l.getD i zM)].flatMap kM.E).toArray 56 (bsM _ _) ?_
            intro w7 q2 G eq2 kq2
            replace kg1 := G.has kg1
            replace HT := HT.gro G
            replace GV := GV.gro G
            replace GG := GG.trans G
            clear G
            have HQ : RK kM w7 (some ⟨q2, 0, none⟩) 1 [(l.getD i zM)] := RK.blk kq2 (one_all hxo) (Nat.le_refl _)
            clear eq2 kq2
            refine nr ?_; intro U h; simp only [z0, z1] at h; subst h
            refine s_appK rM (by decide) 52 rfl rfl _ _ rfl rfl HT (l' := [(l.getD i zM)]) rfl HQ (by simp only [List.length_singleton]; omega) GG.size ?_
            intro ao3 cap3 w8 HT2 G _
            have HVz := (HV.gro GV).gros G (fun k hk => by
              obtain ⟨cur, hc, _⟩ := HT.blkt hk
              exact ⟨(HV.gro GV).nin hc (by decide), (HV.gro GV).nrow hc (by decide)⟩)
            replace GG := G.gro GG (fun k hk => (HT.blkt hk).choose_spec.2)
            clear GV HT G HQ
            have HT := HT2
            clear HT2
            refine nr ?_; intro U h; simp only [z0, z1] at h; subst h
            refine s_val 5 rfl rfl (.slice ao3 (tk ++ [(l.getD i zM)]).length cap3) (rfl) ?_
            refine nr ?_; intro U h; simp only [z0, z1] at h; subst h
            refine wpList_nil ?_
            refine blk_n ?_
            refine then_n ?_
            refine wp_region_lit ?_
            refine s_val 53 rfl rfl (.int .i64 ((i + 1 : Nat) : Int)) (run_addI 3 _ _ _ rfl ((i : Nat) : Int) 1 ((i + 1 : Nat) : Int) rfl rfl (by omega) (by omega) (by omega) _) ?_
            refine nr ?_; intro U h; simp only [z0, z1] at h; subst h
            refine s_val 34 rfl rfl (.int .i64 ((i + 1 : Nat) : Int)) (rfl) ?_
            refine nr ?_; intro U h; simp only [z0, z1] at h; subst h
            refine wpList_nil ?_
            refine then_n ?_
            exact ⟨_, by omega, i + 1, L, dn, h, _, _, M, (tk ++ [(l.getD i zM)]), _, _, (fun kz => ([.int .i64 ((i : Nat) : Int), .pointer (some ⟨g1, 0, none⟩), .bool false, .int .i64 0, .bool true, .int .i64 ((i : Nat) : Int), .pointer (pK kM ao i 0), .agg (itA (l.getD i zM)), .int .i64 ((i : Nat) : Int), .bool false, .tuple #[.bool false, .int .i64 0], .pointer (some ⟨vp, 0, none⟩), .agg (itA (l.getD i zM)), .tuple #[.bool false, .int .i64 0], .bool false, .int .i64 0, .int .i64 0, .bool true, .slice to tk.length tc, .agg (itA (l.getD i zM)), .slice (some ⟨q2, 0, none⟩) 1 1, .slice ao3 (tk ++ [(l.getD i zM)]).length cap3, .int .i64 ((i + 1 : Nat) : Int)] : List Value).getD kz undef), rfl, rfl, GG, HVz, HP, HT, by omega, ⟨by omega, by omega, by omega, by omega, by omega, by rw [List.length_append]; simp only [List.length_singleton]; omega⟩, htk2, by rw [List.map_append]; exact HP.stay hn0 (by omega) hq hsu, by rw [List.map_append]; exact htr.more _⟩
          · skip
            have htk2 : ∀ x ∈ tk ++ [(l.getD i zM)], x ∈ l ∧ 1 ≤ x.n := fun x hx => by
              rcases List.mem_append.1 hx with hx | hx
              · exact htk x hx
              · rw [List.mem_singleton.1 hx]; exact ⟨hxl, by omega⟩
            have hito := it_ok hxo (by omega) (by omega) (by omega) hxn.lt256
            have hfl := form_len hito
            have hs2 := sec_109 hfl
            obtain ⟨err, L2, pw2, h2, dw2, rs2, HA2, SA2⟩ := append_a 900 L (-1) h false rs (formV (l.getD i zM).it) HP.good ok_m1 (by omega) (by decide)
            obtain ⟨rfl, rfl⟩ := HA2.go rfl rfl (by omega) (by omega)
            have hw2 := HA2.ok rfl
            subst hw2
            have hg2 := HA2.g
            have hu2 := HA2.u
            refine wp_region_lit ?_
            refine s_val 42 rfl rfl (.pointer (some ⟨vp, 0, none⟩)) (rfl) ?_
            refine nr ?_; intro U h; simp only [z0, z1] at h; subst h
            refine s_val 43 rfl rfl (.agg (itA (l.getD i zM))) (ldIt0 _ rfl g1 rfl (kg1)) ?_
            refine nr ?_; intro U h; simp only [z0, z1] at h; subst h
            have szz2 := GG.size
            refine s_callx 44 rfl rfl _ 29 Try.call29 rfl rfl _ rfl [.pointer (some ⟨vp, 0, none⟩), .agg (itA (l.getD i zM))] rfl ((merge_go _ _ vp lp p sg mb 900 L (-1) dn h false 1 M HVo (l.getD i zM) hxo (by omega) (by omega) (by omega) hq ⟨hxn.gro GG, fun ad ha h0 hk => by (have := hxn.lt ad ha h0; simp only [List.mem_cons, List.not_mem_nil, or_false] at hk; omega)⟩ rs 0 L2 (-1) h2 false rs2 HA2 SA2 (by omega) (by omega)).mono fun e w' h => h.yes) (by rintro _ _ ⟨_, _, _, he, _, _, _, _⟩; exact ⟨_, he⟩) ?_
            rintro v w6 ⟨dn2, ao2, cap2, he, G, HV2, hd3, hd4⟩
            cases he
            replace kg1 := G.has kg1 (HVo.nin kg1 (by decide))
            replace HT := HVo.keepW G HT
            replace GG := G.gro GG (fun k hk => by simp only [List.mem_cons, List.not_mem_nil, or_false] at hk; omega)
            have GV2 := Gro.refl w6
            clear GV
            refine nr ?_; intro U h; simp only [z0, z1] at h; subst h
            refine s_val 41 rfl rfl (.tuple #[.bool true, .int .i64 0]) (rfl) ?_
            refine nr ?_; intro U h; simp only [z0, z1] at h; subst h
            refine s_val 45 rfl rfl (.bool true) (rfl) ?_
            refine nr ?_; intro U h; simp only [z0, z1] at h; subst h
            refine s_val 46 rfl rfl (.int .i64 0) (rfl) ?_
            refine nr ?_; intro U h; simp only [z0, z1] at h; subst h
            refine s_val 8 rfl rfl (.bool true) (rfl) ?_
            refine nr ?_; intro U h; simp only [z0, z1] at h; subst h
            refine s_val 9 rfl rfl (.int .i64 0) (rfl) ?_
            refine nr ?_; intro U h; simp only [z0, z1] at h; subst h
            refine wpList_nil ?_
            refine then_n ?_
            refine wp_seq ?_
            refine wp_region_lit ?_
            refine s_val 47 rfl rfl (.int .i64 0) (rfl) ?_
            refine nr ?_; intro U h; simp only [z0, z1] at h; subst h
            refine s_val 48 rfl rfl (.bool true) (run_eq_k 26 .i64 _ _ _ rfl Try.underlying26 0 0 rfl rfl true (decide_eq_true rfl) _) ?_
            refine nr ?_; intro U h; simp only [z0, z1] at h; subst h
            refine wpList_nil ?_
            refine then_n ?_
            refine wp_cond_true rfl ?_
            refine wp_region_lit ?_
            refine s_val 49 rfl rfl (.slice to tk.length tc) (rfl) ?_
            refine nr ?_; intro U h; simp only [z0, z1] at h; subst h
            refine s_val 50 rfl rfl (.agg (itA (l.getD i zM))) (ldIt0 _ rfl g1 rfl (kg1)) ?_
            refine nr ?_; intro U h; simp only [z0, z1] at h; subst h
            refine s_bsl 51 rfl rfl 45 1 _ rfl [(0, .agg (itA (l.getD i zM)))] rfl ([(l.getD i zM)].flatMap kM.E).toArray 56 (bsM _ _) ?_
            intro w7 q2 G eq2 kq2
            replace kg1 := G.has kg1
            replace HT := HT.gro G
            replace GV2 := GV2.gro G
            replace GG := GG.trans G
            clear G
            have HQ : RK kM w7 (some ⟨q2, 0, none⟩) 1 [(l.getD i zM)] := RK.blk kq2 (one_all hxo) (Nat.le_refl _)
            clear eq2 kq2
            refine nr ?_; intro U h; simp only [z0, z1] at h; subst h
            refine s_appK rM (by decide) 52 rfl rfl _ _ rfl rfl HT (l' := [(l.getD i zM)]) rfl HQ (by simp only [List.length_singleton]; omega) GG.size ?_
            intro ao3 cap3 w8 HT2 G _
            have HVz := (HV2.gro GV2).gros G (fun k hk => by
              obtain ⟨cur, hc, _⟩ := HT.blkt hk
              exact ⟨(HV2.gro GV2).nin hc (by decide), (HV2.gro GV2).nrow hc (by decide)⟩)
            replace GG := G.gro GG (fun k hk => (HT.blkt hk).choose_spec.2)
            clear GV2 HT G HQ
            have HT := HT2
            clear HT2
            refine nr ?_; intro U h; simp only [z0, z1] at h; subst h
            refine s_val 5 rfl rfl (.slice ao3 (tk ++ [(l.getD i zM)]).length cap3) (rfl) ?_
            refine nr ?_; intro U h; simp only [z0, z1] at h; subst h
            refine wpList_nil ?_
            refine blk_n ?_
            refine then_n ?_
            refine wp_region_lit ?_
            refine s_val 53 rfl rfl (.int .i64 ((i + 1 : Nat) : Int)) (run_addI 3 _ _ _ rfl ((i : Nat) : Int) 1 ((i + 1 : Nat) : Int) rfl rfl (by omega) (by omega) (by omega) _) ?_
            refine nr ?_; intro U h; simp only [z0, z1] at h; subst h
            refine s_val 34 rfl rfl (.int .i64 ((i + 1 : Nat) : Int)) (rfl) ?_
            refine nr ?_; intro U h; simp only [z0, z1] at h; subst h
            refine wpList_nil ?_
            refine then_n ?_
            exact ⟨_, by omega, i + 1, L2, dn2, h2, _, _, (putM M (l.getD i zM).key ((l.getD i zM).re ao2 cap2)), (tk ++ [(l.getD i zM)]), _, _, (fun kz => ([.int .i64 ((i : Nat) : Int), .pointer (some ⟨g1, 0, none⟩), .bool true, .int .i64 0, .bool true, .int .i64 ((i : Nat) : Int), .pointer (pK kM ao i 0), .agg (itA (l.getD i zM)), .int .i64 ((i : Nat) : Int), .bool false, .tuple #[.bool true, .int .i64 0], .pointer (some ⟨vp, 0, none⟩), .agg (itA (l.getD i zM)), .tuple #[.bool true, .int .i64 0], .bool true, .int .i64 0, .int .i64 0, .bool true, .slice to tk.length tc, .agg (itA (l.getD i zM)), .slice (some ⟨q2, 0, none⟩) 1 1, .slice ao3 (tk ++ [(l.getD i zM)]).length cap3, .int .i64 ((i + 1 : Nat) : Int)] : List Value).getD kz undef), rfl, rfl, GG, HVz, HP.item HV.vb.map.kn hn0 hito (by omega) hq HA2.yes ao2 cap2, HT, by omega, ⟨by omega, by omega, by omega, by omega, by omega, by rw [List.length_append]; simp only [List.length_singleton]; omega⟩, htk2, by rw [List.map_append]; exact hsu.take HP.sk (l.getD i zM).it, by rw [List.map_append]; exact htr.take (l.getD i zM).it⟩
        · have hl1 := of_decide_eq_true hl
          refine wp_region_lit ?_
          refine s_val 42 rfl rfl (.pointer (some ⟨vp, 0, none⟩)) (rfl) ?_
          refine nr ?_; intro U h; simp only [z0, z1] at h; subst h
          refine s_val 43 rfl rfl (.agg (itA (l.getD i zM))) (ldIt0 _ rfl g1 rfl (kg1)) ?_
          refine nr ?_; intro U h; simp only [z0, z1] at h; subst h
          refine s_callv 44 rfl rfl _ 29 Try.call29 rfl rfl _ rfl [.pointer (some ⟨vp, 0, none⟩), .agg (itA (l.getD i zM))] rfl (merge_long _ _ vp lp p sg mb 900 L (-1) dn h false 1 M HVo (l.getD i zM) (by omega) (by omega) (by omega)) ?_
          intro w6 G
          replace kg1 := G.has kg1
          replace HT := HT.gro G
          replace GV := GV.gro G
          replace GG := GG.trans G
          clear G
          refine nr ?_; intro U h; simp only [z0, z1] at h; subst h
          refine s_val 41 rfl rfl (.tuple #[.bool false, .int .i64 4]) (rfl) ?_
          refine nr ?_; intro U h; simp only [z0, z1] at h; subst h
          refine s_val 45 rfl rfl (.bool false) (rfl) ?_
          refine nr ?_; intro U h; simp only [z0, z1] at h; subst h
          refine s_val 46 rfl rfl (.int .i64 4) (rfl) ?_
          refine nr ?_; intro U h; simp only [z0, z1] at h; subst h
          refine s_val 8 rfl rfl (.bool false) (rfl) ?_
          refine nr ?_; intro U h; simp only [z0, z1] at h; subst h
          refine s_val 9 rfl rfl (.int .i64 4) (rfl) ?_
          refine nr ?_; intro U h; simp only [z0, z1] at h; subst h
          refine wpList_nil ?_
          refine then_n ?_
          refine wp_seq ?_
          refine wp_region_lit ?_
          refine s_val 47 rfl rfl (.int .i64 4) (rfl) ?_
          refine nr ?_; intro U h; simp only [z0, z1] at h; subst h
          refine s_val 48 rfl rfl (.bool false) (run_eq_k 26 .i64 _ _ _ rfl Try.underlying26 4 0 rfl rfl false (by decide) _) ?_
          refine nr ?_; intro U h; simp only [z0, z1] at h; subst h
          refine wpList_nil ?_
          refine then_n ?_
          refine wp_cond_false rfl ?_
          refine wp_skip ?_
          refine blk_n ?_
          refine then_n ?_
          refine wp_region_lit ?_
          refine s_val 53 rfl rfl (.int .i64 ((i + 1 : Nat) : Int)) (run_addI 3 _ _ _ rfl ((i : Nat) : Int) 1 ((i + 1 : Nat) : Int) rfl rfl (by omega) (by omega) (by omega) _) ?_
          refine nr ?_; intro U h; simp only [z0, z1] at h; subst h
          refine s_val 34 rfl rfl (.int .i64 ((i + 1 : Nat) : Int)) (rfl) ?_
          refine nr ?_; intro U h; simp only [z0, z1] at h; subst h
          refine wpList_nil ?_
          refine then_n ?_
          exact ⟨_, by omega, i + 1, L, dn, h, _, _, M, tk, _, _, (fun kz => ([.int .i64 ((i : Nat) : Int), .pointer (some ⟨g1, 0, none⟩), .bool false, .int .i64 4, .bool true, .int .i64 ((i : Nat) : Int), .pointer (pK kM ao i 0), .agg (itA (l.getD i zM)), .int .i64 ((i : Nat) : Int), .bool false, .tuple #[.bool false, .int .i64 4], .pointer (some ⟨vp, 0, none⟩), .agg (itA (l.getD i zM)), .tuple #[.bool false, .int .i64 4], .bool false, .int .i64 4, .int .i64 4, .bool false, us1 18, us1 19, us1 20, us1 21, .int .i64 ((i + 1 : Nat) : Int)] : List Value).getD kz undef), rfl, rfl, GG, HV.gro GV, HP, HT, by omega, ⟨by omega, by omega, by omega, by omega, by omega, by omega⟩, htk, hsu, htr⟩
    · refine wp_region_lit ?_
      refine s_val 39 rfl rfl (.int .i64 ((i : Nat) : Int)) (rfl) ?_
      refine nr ?_; intro U h; simp only [z0, z1] at h; subst h
      refine s_val 40 rfl rfl (.bool true) (run_gtrT 3 _ _ _ rfl ((i : Nat) : Int) 60 rfl rfl true t2 _) ?_
      refine nr ?_; intro U h; simp only [z0, z1] at h; subst h
      refine wpList_nil ?_
      refine then_n ?_
      refine wp_cond_true rfl ?_
      refine wp_exit ?_
      refine then_x ?_
      refine blk_xn (by decide) ?_
      refine then_x ?_
      refine then_x ?_
      refine blk_x ?_
      refine then_n ?_
      refine wp_seq ?_
      refine wp_region_lit ?_
      refine s_val 54 rfl rfl (.pointer (some ⟨vp, 0, none⟩)) (rfl) ?_
      refine nr ?_; intro U h; simp only [z0, z1] at h; subst h
      have hfew := HP.few (by decide)
      refine s_callx 55 rfl rfl _ 17 Try.call17 rfl rfl _ rfl [.pointer (some ⟨vp, 0, none⟩)] rfl (all_any _ _ vp lp p sg mb 900 L (-1) dn h false 1 M (HV.gro GV) Lx HP.rel HP.sk hfew) (by rintro _ _ ⟨_, _, _, he, _, _, _, _, _⟩; exact ⟨_, he⟩) ?_
      rintro v w6 ⟨zo, zc, Z, he, G, HZ, HS, hRis, hZL⟩
      cases he
      have hZl : Z.length ≤ 4096 := by rw [← List.length_map (f := IM.it), hZL]; exact hfew
      replace HZ := HZ.mono GG.size
      replace kg1 := G.has kg1
      replace HT := HT.gro G
      replace GV := GV.gro G
      replace GG := GG.trans G
      clear G
      refine nr ?_; intro U h; simp only [z0, z1] at h; subst h
      refine s_val 10 rfl rfl (.slice zo Z.length zc) (rfl) ?_
      refine nr ?_; intro U h; simp only [z0, z1] at h; subst h
      refine wpList_nil ?_
      refine then_n ?_
      refine wp_seq ?_
      refine wp_seq ?_
      refine wp_region_lit ?_
      refine s_val 56 rfl rfl (.slice zo Z.length zc) (rfl) ?_
      refine nr ?_; intro U h; simp only [z0, z1] at h; subst h
      refine s_val 57 rfl rfl (.int .i64 ((Z.length : Nat) : Int)) (run_len Try.underlying45 _ rfl _ _ _ rfl _) ?_
      refine nr ?_; intro U h; simp only [z0, z1] at h; subst h
      refine s_val 58 rfl rfl (.int .i64 0) (rfl) ?_
      refine nr ?_; intro U h; simp only [z0, z1] at h; subst h
      refine wpList_nil ?_
      refine then_n ?_
      refine wp_block ?_
      refine wp_loopN (fun mz az wv2 => ∃ (i2 : Nat) (us2 : Nat → Value), mz = Z.length - i2 ∧ az = ⟨[.slice ao l.length cap, undef, us2 0, .pointer (some ⟨vp, 0, none⟩), .int .i64 0, .slice to tk.length tc, .int .i64 ((i : Nat) : Int), .pointer (some ⟨g1, 0, none⟩), us1 2, us1 3, .slice zo Z.length zc, us2 1, us2 2, undef, undef, undef, undef, .tuple #[.pointer (some ⟨vp, 0, none⟩), .int .i64 0], .pointer (some ⟨p, 0, none⟩), .tuple #[.pointer (some ⟨vp, 0, none⟩), .int .i64 0], .pointer (some ⟨vp, 0, none⟩), .int .i64 0, .pointer (some ⟨vp, 0, none⟩), .bool false, .bool false, .int .i64 0, .bool false, .bool false, .bool false, .bool true, .bool false, .bool false, .slice ao l.length cap, .int .i64 ((l.length : Nat) : Int), .int .i64 ((i : Nat) : Int), .bool true, .int .i64 ((i : Nat) : Int), .pointer (pK kM ao i 0), .agg (itA (l.getD i zM)), .int .i64 ((i : Nat) : Int), .bool true, us1 10, us1 11, us1 12, us1 13, us1 14, us1 15, us1 16, us1 17, us1 18, us1 19, us1 20, us1 21, us1 22, .pointer (some ⟨vp, 0, none⟩), .slice zo Z.length zc, .slice zo Z.length zc, .int .i64 ((Z.length : Nat) : Int), .int .i64 ((i2 : Nat) : Int), us2 3, us2 4, us2 5, us2 6, us2 7, us2 8, us2 9, us2 10, us2 11, us2 12, us2 13, us2 14, us2 15, us2 16, us2 17, us2 18, us2 19, us2 20, us2 21, undef, undef, undef, undef, undef, undef, undef, undef, undef, undef, undef, undef, undef, undef, undef, undef, undef, undef, undef, undef, undef, undef, undef, undef, undef, undef, undef].toArray, []⟩ ∧ Gro w wv2 ∧ Gro wv wv2 ∧ OW kM 56 wv2 w.heap.size zo zc Z ∧ OW kM 56 wv2 w.heap.size to tc tk ∧ i2 ≤ Z.length) ?_ _ ⟨0, (fun kz => ([.bool false, undef, undef, undef, undef, undef, undef, undef, undef, undef, undef, undef, undef, undef, undef, undef, undef, undef, undef, undef, undef, undef] : List Value).getD kz undef), rfl, rfl, GG, GV, HZ, HT, Nat.zero_le _⟩
      clear GG HT GV HZ
      rintro mz az wv2 ⟨i2, us2, rfl, rfl, GG, GV, HZ, HT, hi2⟩
      refine wp_seq ?_
      cases t4 : decide (((i2 : Nat) : Int) < ((Z.length : Nat) : Int))
      · refine wp_region_lit ?_
        refine s_val 59 rfl rfl (.bool false) (run_lssT 3 _ _ _ rfl ((i2 : Nat) : Int) ((Z.length : Nat) : Int) rfl rfl false t4 _) ?_
        refine nr ?_; intro U h; simp only [z0, z1] at h; subst h
        refine wpList_nil ?_
        refine then_n ?_
        refine wp_seq ?_
        refine wp_cond_false rfl ?_
        refine wp_exit ?_
        refine then_x ?_
        refine then_x ?_
        refine blk_x ?_
        refine then_n ?_
        refine wp_seq ?_
        refine wp_seq ?_
        have hSM : SureM M tk := HP.sure HV.mr.n0 (fun x hx => by have := (htk x hx).2; omega) hsu
        refine wp_region_lit ?_
        refine s_val 78 rfl rfl (.slice to tk.length tc) (rfl) ?_
        refine nr ?_; intro U h; simp only [z0, z1] at h; subst h
        refine s_val 79 rfl rfl (.int .i64 ((tk.length : Nat) : Int)) (run_len Try.underlying45 _ rfl _ _ _ rfl _) ?_
        refine nr ?_; intro U h; simp only [z0, z1] at h; subst h
        refine s_val 80 rfl rfl (.int .i64 0) (rfl) ?_
        refine nr ?_; intro U h; simp only [z0, z1] at h; subst h
        refine wpList_nil ?_
        refine then_n ?_
        refine wp_block ?_
        refine wp_loopN (fun mz az wv3 => ∃ (i3 : Nat) (us3 : Nat → Value), mz = tk.length - i3 ∧ az = ⟨[.slice ao l.length cap, undef, us3 0, .pointer (some ⟨vp, 0, none⟩), .int .i64 0, .slice to tk.length tc, .int .i64 ((i : Nat) : Int), .pointer (some ⟨g1, 0, none⟩), us1 2, us1 3, .slice zo Z.length zc, us2 1, us2 2, undef, us3 1, us3 2, us3 3, .tuple #[.pointer (some ⟨vp, 0, none⟩), .int .i64 0], .pointer (some ⟨p, 0, none⟩), .tuple #[.pointer (some ⟨vp, 0, none⟩), .int .i64 0], .pointer (some ⟨vp, 0, none⟩), .int .i64 0, .pointer (some ⟨vp, 0, none⟩), .bool false, .bool false, .int .i64 0, .bool false, .bool false, .bool false, .bool true, .bool false, .bool false, .slice ao l.length cap, .int .i64 ((l.length : Nat) : Int), .int .i64 ((i : Nat) : Int), .bool true, .int .i64 ((i : Nat) : Int), .pointer (pK kM ao i 0), .agg (itA (l.getD i zM)), .int .i64 ((i : Nat) : Int), .bool true, us1 10, us1 11, us1 12, us1 13, us1 14, us1 15, us1 16, us1 17, us1 18, us1 19, us1 20, us1 21, us1 22, .pointer (some ⟨vp, 0, none⟩), .slice zo Z.length zc, .slice zo Z.length zc, .int .i64 ((Z.length : Nat) : Int), .int .i64 ((i2 : Nat) : Int), .bool false, us2 4, us2 5, us2 6, us2 7, us2 8, us2 9, us2 10, us2 11, us2 12, us2 13, us2 14, us2 15, us2 16, us2 17, us2 18, us2 19, us2 20, us2 21, .slice to tk.length tc, .int .i64 ((tk.length : Nat) : Int), .int .i64 ((i3 : Nat) : Int), us3 4, us3 5, us3 6, us3 7, us3 8, us3 9, us3 10, us3 11, us3 12, us3 13, us3 14, us3 15, us3 16, us3 17, us3 18, us3 19, us3 20, us3 21, us3 22, us3 23, undef, undef, undef, undef].toArray, []⟩ ∧ Gro w wv3 ∧ Gro wv wv3 ∧ OW kM 56 wv3 w.heap.size to tc tk ∧ i3 ≤ tk.length) ?_ _ ⟨0, (fun kz => ([us2 0, undef, undef, undef, undef, undef, undef, undef, undef, undef, undef, undef, undef, undef, undef, undef, undef, undef, undef, undef, undef, undef, undef, undef] : List Value).getD kz undef), rfl, rfl, GG, GV, HT, Nat.zero_le _⟩
        clear GG GV HT
        rintro mz az wv3 ⟨i3, us3, rfl, rfl, GG, GV, HT, hi3⟩
        refine wp_seq ?_
        cases t6 : decide (((i3 : Nat) : Int) < ((tk.length : Nat) : Int))
        · refine wp_region_lit ?_
          refine s_val 81 rfl rfl (.bool false) (run_lssT 3 _ _ _ rfl ((i3 : Nat) : Int) ((tk.length : Nat) : Int) rfl rfl false t6 _) ?_
          refine nr ?_; intro U h; simp only [z0, z1] at h; subst h
          refine wpList_nil ?_
          refine then_n ?_
          refine wp_seq ?_
          refine wp_cond_false rfl ?_
          refine wp_exit ?_
          refine then_x ?_
          refine then_x ?_
          refine blk_x ?_
          refine then_n ?_
          refine wp_seq ?_
          refine wp_region_lit ?_
          refine s_val 101 rfl rfl (.pointer (some ⟨vp, 0, none⟩)) (rfl) ?_
          refine nr ?_; intro U h; simp only [z0, z1] at h; subst h
          refine s_val 102 rfl rfl (.slice to tk.length tc) (rfl) ?_
          refine nr ?_; intro U h; simp only [z0, z1] at h; subst h
          refine s_val 103 rfl rfl (.slice to tk.length tc) (rfl) ?_
          refine nr ?_; intro U h; simp only [z0, z1] at h; subst h
          refine s_callv 104 rfl rfl _ 25 Try.call25 rfl rfl _ rfl [.pointer (some ⟨vp, 0, none⟩), .slice to tk.length tc, .slice to tk.length tc] rfl (holds_any _ _ vp lp p sg mb 900 L (-1) dn h false 1 M (HV.gro GV) Lx HP.rel HP.sk hfew HP.ok to to tc tc tk tk HT.re HT.re (fun x hx => (HN x (htk x hx).1).gro GG) (by omega) (by omega) hSM (tried_of htr)) ?_
          intro w7 G
          replace GV := GV.gro G
          replace HT := HT.gro G
          replace GG := GG.trans G
          clear G
          refine nr ?_; intro U h; simp only [z0, z1] at h; subst h
          refine s_val 2 rfl rfl (.bool true) (rfl) ?_
          refine nr ?_; intro U h; simp only [z0, z1] at h; subst h
          refine wpList_nil ?_
          refine then_n ?_
          refine wp_ret ?_
          refine bodyPost_ret (results_tmp Try.results7 _ _ _) rfl ?_
          exact ⟨rfl, GG⟩
        · have hlt3 : i3 < tk.length := by have := of_decide_eq_true t6; omega
          obtain ⟨y, hy, hny⟩ := hSM (tk.getD i3 zM) (getD_mem3 hlt3)
          have hky : getK M (tk.getD i3 zM).key = y := by unfold getK; rw [hy]; rfl
          have hyo : y.ok := HV.vb.ok _ (getM_some hy)
          refine wp_region_lit ?_
          refine s_val 81 rfl rfl (.bool true) (run_lssT 3 _ _ _ rfl ((i3 : Nat) : Int) ((tk.length : Nat) : Int) rfl rfl true t6 _) ?_
          refine nr ?_; intro U h; simp only [z0, z1] at h; subst h
          refine wpList_nil ?_
          refine then_n ?_
          refine wp_seq ?_
          refine wp_cond_true rfl ?_
          refine wp_skip ?_
          refine then_n ?_
          refine wp_seq ?_
          refine wp_block ?_
          refine wp_seq ?_
          refine wp_region_lit ?_
          refine s_val 82 rfl rfl (.pointer (pK kM to i3 0)) (run_ixK rM (HT.re) _ _ rfl rfl i3 rfl (by omega)) ?_
          refine nr ?_; intro U h; simp only [z0, z1] at h; subst h
          refine s_val 83 rfl rfl (.agg (itA (tk.getD i3 zM))) (run_ldKM (HT.re) _ rfl i3 rfl (by omega)) ?_
          refine nr ?_; intro U h; simp only [z0, z1] at h; subst h
          refine s_alloc 14 rfl rfl 56 rfl _ zeroIt (itA zM) rfl ?_
          intro w7 g2 G eg2 kg2
          have bg2 := size_base GG eg2
          have dGVg2 := GV.ne eg2
          have dHTg2 := HT.ne eg2
          replace GV := GV.gro G
          replace HT := HT.gro G
          replace GG := GG.trans G
          clear G
          clear eg2
          refine nr ?_; intro U h; simp only [z0, z1] at h; subst h
          refine s_store rfl rfl 56 _ _ rfl g2 0 rfl (.agg (itA (tk.getD i3 zM))) rfl 56 _ kg2 (itA (tk.getD i3 zM)) rfl (siIt' _) (itA_fit _ _) (itA_one _) (itA (tk.getD i3 zM)) (splice_whole _ _ (itA_sz _ _)) ?_
          intro w8 St
          replace GV := GV.st St dGVg2
          replace HT := HT.st St dHTg2
          replace GG := GG.store St bg2
          replace kg2 := St.new
          clear St
          refine wpList_nil ?_
          refine then_n ?_
          refine wp_seq ?_
          refine wp_region_lit ?_
          refine s_val 85 rfl rfl (.pointer (some ⟨vp, 0, none⟩)) (rfl) ?_
          refine nr ?_; intro U h; simp only [z0, z1] at h; subst h
          refine s_val 86 rfl rfl (.pointer (some ⟨g2, 0, none⟩)) (run_fld 56 _ 0 rfl g2 0 rfl 0 (by kernel_rfl)) ?_
          refine nr ?_; intro U h; simp only [z0, z1] at h; subst h
          refine s_val 87 rfl rfl (.agg (idA (tk.getD i3 zM).key)) (ldItk _ rfl g2 rfl (kg2)) ?_
          refine nr ?_; intro U h; simp only [z0, z1] at h; subst h
          refine s_callx 88 rfl rfl _ 27 Try.call27 rfl rfl _ rfl [.pointer (some ⟨vp, 0, none⟩), .agg (idA (tk.getD i3 zM).key)] rfl ((get_any _ _ vp lp p sg mb 900 L (-1) dn h false 1 M (HV.gro GV) (tk.getD i3 zM).key (atM HT.re hlt3).key).mono fun e w' h => by rw [hky, hy] at h; exact h) (by rintro _ _ ⟨_, _, he, _, _⟩; exact ⟨_, he⟩) ?_
          rintro v w9 ⟨ao4, cap4, he, G, HO4⟩
          cases he
          replace kg2 := G.has kg2
          replace GV := GV.gro G
          replace HT := HT.gro G
          replace GG := GG.trans G
          clear G
          refine nr ?_; intro U h; simp only [z0, z1] at h; subst h
          refine s_val 84 rfl rfl (.tuple #[.agg (itA (y.re ao4 cap4)), .bool true]) (rfl) ?_
          refine nr ?_; intro U h; simp only [z0, z1] at h; subst h
          refine s_val 89 rfl rfl (.agg (itA (y.re ao4 cap4))) (rfl) ?_
          refine nr ?_; intro U h; simp only [z0, z1] at h; subst h
          refine s_val 90 rfl rfl (.bool true) (rfl) ?_
          refine nr ?_; intro U h; simp only [z0, z1] at h; subst h
          refine s_alloc 15 rfl rfl 56 rfl _ zeroIt (itA zM) rfl ?_
          intro w10 g3 G eg3 kg3
          have bg3 := size_base GG eg3
          have dg2g3 := lt_new kg2 eg3
          have dGVg3 := GV.ne eg3
          have dHTg3 := HT.ne eg3
          replace kg2 := G.has kg2
          replace GV := GV.gro G
          replace HT := HT.gro G
          replace GG := GG.trans G
          clear G
          clear eg3
          refine nr ?_; intro U h; simp only [z0, z1] at h; subst h
          refine s_store rfl rfl 56 _ _ rfl g3 0 rfl (.agg (itA (y.re ao4 cap4))) rfl 56 _ kg3 (itA (y.re ao4 cap4)) rfl (siIt' _) (itA_fit _ _) (itA_one _) (itA (y.re ao4 cap4)) (splice_whole _ _ (itA_sz _ _)) ?_
          intro w11 St
          replace kg2 := St.has (by omega) kg2
          replace GV := GV.st St dGVg3
          replace HT := HT.st St dHTg3
          replace GG := GG.store St bg3
          replace kg3 := St.new
          clear St
          refine s_val 16 rfl rfl (.bool true) (rfl) ?_
          refine nr ?_; intro U h; simp only [z0, z1] at h; subst h
          refine wpList_nil ?_
          refine then_n ?_
          refine wp_seq ?_
          refine wp_region_opq ?_
          intro OPS hY
          have y2 := hY 2 93 rfl
          clear hY
          refine s_val 91 rfl rfl (.bool true) (rfl) ?_
          refine nr ?_; intro U h; simp only [z0, z1] at h; subst h
          refine s_val 92 rfl rfl (.bool false) (run_nt _ _ rfl true rfl) ?_
          refine nr ?_; intro U h; simp only [z0, z1] at h; subst h
          refine s_val 93 rfl rfl (.bool false) (rfl) ?_
          refine nr ?_; intro U h; simp only [z0, z1] at h; subst h
          refine s_gvalY 94 rfl rfl y2 rfl (.pointer (some ⟨g2, 16, none⟩)) (run_fld 56 _ 1 rfl g2 0 rfl 16 (by kernel_rfl)) ?_
          refine nr ?_; intro U h; simp only [z0, z1] at h; subst h
          refine s_gvalY 95 rfl rfl y2 rfl (.agg (veA (tk.getD i3 zM).ver)) (ldItv _ rfl g2 rfl (kg2)) ?_
          refine nr ?_; intro U h; simp only [z0, z1] at h; subst h
          refine s_gvalY 96 rfl rfl y2 rfl (.pointer (some ⟨g3, 16, none⟩)) (run_fld 56 _ 1 rfl g3 0 rfl 16 (by kernel_rfl)) ?_
          refine nr ?_; intro U h; simp only [z0, z1] at h; subst h
          refine s_gvalY 97 rfl rfl y2 rfl (.agg (veA (y.re ao4 cap4).ver)) (ldItv _ rfl g3 rfl (kg3)) ?_
          refine nr ?_; intro U h; simp only [z0, z1] at h; subst h
          refine s_gcallvY 98 rfl rfl y2 rfl _ 22 Try.call22 rfl rfl _ rfl [.agg (veA (tk.getD i3 zM).ver), .agg (veA (y.re ao4 cap4).ver)] rfl (Calls.bool (rnewer_any (tk.getD i3 zM).ver y.ver (atM HT.re hlt3).ver hyo.ver _) hny) ?_
          intro w12 G
          replace kg2 := G.has kg2
          replace kg3 := G.has kg3
          replace GV := GV.gro G
          replace HT := HT.gro G
          replace GG := GG.trans G
          clear G
          refine nr ?_; intro U h; simp only [z0, z1] at h; subst h
          refine s_val 99 rfl rfl (.bool false) (rfl) ?_
          refine nr ?_; intro U h; simp only [z0, z1] at h; subst h
          refine wpList_nil ?_
          refine then_n ?_
          refine wp_cond_false rfl ?_
          refine wp_skip ?_
          refine blk_n ?_
          refine then_n ?_
          refine wp_region_lit ?_
          refine s_val 100 rfl rfl (.int .i64 ((i3 + 1 : Nat) : Int)) (run_addI 3 _ _ _ rfl ((i3 : Nat) : Int) 1 ((i3 + 1 : Nat) : Int) rfl rfl (by omega) (by omega) (by omega) _) ?_
          refine nr ?_; intro U h; simp only [z0, z1] at h; subst h
          refine s_val 80 rfl rfl (.int .i64 ((i3 + 1 : Nat) : Int)) (rfl) ?_
          refine nr ?_; intro U h; simp only [z0, z1] at h; subst h
          refine wpList_nil ?_
          refine then_n ?_
          exact ⟨_, by omega, i3 + 1, (fun kz => ([us3 0, .pointer (some ⟨g2, 0, none⟩), .pointer (some ⟨g3, 0, none⟩), .bool true, .bool true, .pointer (pK kM to i3 0), .agg (itA (tk.getD i3 zM)), .tuple #[.agg (itA (y.re ao4 cap4)), .bool true], .pointer (some ⟨vp, 0, none⟩), .pointer (some ⟨g2, 0, none⟩), .agg (idA (tk.getD i3 zM).key), .tuple #[.agg (itA (y.re ao4 cap4)), .bool true], .agg (itA (y.re ao4 cap4)), .bool true, .bool true, .bool false, .bool false, .pointer (some ⟨g2, 16, none⟩), .agg (veA (tk.getD i3 zM).ver), .pointer (some ⟨g3, 16, none⟩), .agg (veA (y.re ao4 cap4).ver), .bool false, .bool false, .int .i64 ((i3 + 1 : Nat) : Int)] : List Value).getD kz undef), rfl, rfl, GG, GV, HT, by omega⟩
      · have hlt2 : i2 < Z.length := by have := of_decide_eq_true t4; omega
        refine wp_region_lit ?_
        refine s_val 59 rfl rfl (.bool true) (run_lssT 3 _ _ _ rfl ((i2 : Nat) : Int) ((Z.length : Nat) : Int) rfl rfl true t4 _) ?_
        refine nr ?_; intro U h; simp only [z0, z1] at h; subst h
        refine wpList_nil ?_
        refine then_n ?_
        refine wp_seq ?_
        refine wp_cond_true rfl ?_
        refine wp_skip ?_
        refine then_n ?_
        refine wp_seq ?_
        refine wp_block ?_
        refine wp_seq ?_
        refine wp_region_lit ?_
        refine s_val 60 rfl rfl (.int .i64 ((i2 : Nat) : Int)) (rfl) ?_
        refine nr ?_; intro U h; simp only [z0, z1] at h; subst h
        refine s_val 61 rfl rfl (.pointer (pK kM zo i2 0)) (run_ixK rM (HZ.re) _ _ rfl rfl i2 rfl (by omega)) ?_
        refine nr ?_; intro U h; simp only [z0, z1] at h; subst h
        refine s_val 62 rfl rfl (.agg (itA (Z.getD i2 zM))) (run_ldKM (HZ.re) _ rfl i2 rfl (by omega)) ?_
        refine nr ?_; intro U h; simp only [z0, z1] at h; subst h
        refine s_alloc 12 rfl rfl 56 rfl _ zeroIt (itA zM) rfl ?_
        intro w7 g2 G eg2 kg2
        have bg2 := size_base GG eg2
        have dGVg2 := GV.ne eg2
        have dHZg2 := HZ.ne eg2
        have dHTg2 := HT.ne eg2
        replace GV := GV.gro G
        replace HZ := HZ.gro G
        replace HT := HT.gro G
        replace GG := GG.trans G
        clear G
        clear eg2
        refine nr ?_; intro U h; simp only [z0, z1] at h; subst h
        refine s_val 11 rfl rfl (.int .i64 ((i2 : Nat) : Int)) (rfl) ?_
        refine nr ?_; intro U h; simp only [z0, z1] at h; subst h
        refine s_store rfl rfl 56 _ _ rfl g2 0 rfl (.agg (itA (Z.getD i2 zM))) rfl 56 _ kg2 (itA (Z.getD i2 zM)) rfl (siIt' _) (itA_fit _ _) (itA_one _) (itA (Z.getD i2 zM)) (splice_whole _ _ (itA_sz _ _)) ?_
        intro w8 St
        replace GV := GV.st St dGVg2
        replace HZ := HZ.st St dHZg2
        replace HT := HT.st St dHTg2
        replace GG := GG.store St bg2
        replace kg2 := St.new
        clear St
        refine wpList_nil ?_
        refine then_n ?_
        refine wp_seq ?_
        cases t5 : decide ((0 : Int) < ((i2 : Nat) : Int))
        · refine wp_region_exA (A := ?Ax3) 13 [(0, 63), (1, 64), (2, 65), (3, 66), (4, 67), (5, 68), (6, 69), (7, 70), (8, 71), (9, 72), (10, 73), (11, 74), (12, 75)] [.val (.int .i64 ((i2 : Nat) : Int)), .val (.bool false), .val (.bool false), .val undef, .val undef, .val undef, .val undef, .val undef, .val undef, .val undef, .val undef, .val undef, .val undef] follows (by kernel_rfl) rfl ?hAx3 (opsA_cons ?o0x3 (opsA_cons ?o1x3 (opsA_cons ?o2x3 (opsA_cons ?o3x3 (opsA_cons ?o4x3 (opsA_cons ?o5x3 (opsA_cons ?o6x3 (opsA_cons ?o7x3 (opsA_cons ?o8x3 (opsA_cons ?o9x3 (opsA_cons ?o10x3 (opsA_cons ?o11x3 (opsA_cons ?o12x3 opsA_nil))))))))))))) ?restx3
          case hAx3 =>
            intro ptrs
            simp only [full, foldSlots, filledE, postE, List.foldl_cons, List.foldl_nil, List.getD_cons_zero, List.getD_cons_succ, fill_val, List.set_cons_zero, List.set_cons_succ]
            exact rfl
          case o0x3 => exact fun _ _ _ _ => opE_move (v := .int .i64 ((i2 : Nat) : Int)) _ rfl rfl rfl
          case o1x3 => exact fun _ _ _ _ => opE_value (v := .bool false) rfl (run_gtrT 3 _ _ _ rfl ((i2 : Nat) : Int) 0 rfl rfl false t5 _)
          case o2x3 => exact fun _ _ _ _ => opE_move (v := .bool false) _ rfl rfl rfl
          case o3x3 => exact fun _ _ _ _ => opE_skip rfl
          case o4x3 => exact fun _ _ _ _ => opE_skip rfl
          case o5x3 => exact fun _ _ _ _ => opE_skip rfl
          case o6x3 => exact fun _ _ _ _ => opE_skip rfl
          case o7x3 => exact fun _ _ _ _ => opE_skip rfl
          case o8x3 => exact fun _ _ _ _ => opE_skip rfl
          case o9x3 => exact fun _ _ _ _ => opE_skip rfl
          case o10x3 => exact fun _ _ _ _ => opE_skip rfl
          case o11x3 => exact fun _ _ _ _ => opE_skip rfl
          case o12x3 => exact fun _ _ _ _ => opE_skip rfl
          intro ptrs w9 GD hxE
          simp only [List.drop_succ_cons, List.drop_zero]
          replace kg2 := GD.has kg2
          replace GV := GV.gro ((Gro.refl _).drew.trans GD)
          replace HZ := HZ.gro ((Gro.refl _).drew.trans GD)
          replace HT := HT.gro ((Gro.refl _).drew.trans GD)
          replace GG := GG.drew.trans GD
          clear GD
          refine s_val 76 rfl rfl (.bool false) (rfl) ?_
          refine nr ?_; intro U h; simp only [z0, z1] at h; subst h
          refine wpList_nil ?_
          refine then_n ?_
          refine wp_cond_false rfl ?_
          refine wp_skip ?_
          refine blk_n ?_
          refine then_n ?_
          refine wp_region_lit ?_
          refine s_val 77 rfl rfl (.int .i64 ((i2 + 1 : Nat) : Int)) (run_addI 3 _ _ _ rfl ((i2 : Nat) : Int) 1 ((i2 + 1 : Nat) : Int) rfl rfl (by omega) (by omega) (by omega) _) ?_
          refine nr ?_; intro U h; simp only [z0, z1] at h; subst h
          refine s_val 58 rfl rfl (.int .i64 ((i2 + 1 : Nat) : Int)) (rfl) ?_
          refine nr ?_; intro U h; simp only [z0, z1] at h; subst h
          refine wpList_nil ?_
          refine then_n ?_
          exact ⟨_, by omega, i2 + 1, (fun kz => ([us2 0, .int .i64 ((i2 : Nat) : Int), .pointer (some ⟨g2, 0, none⟩), .bool true, .int .i64 ((i2 : Nat) : Int), .pointer (pK kM zo i2 0), .agg (itA (Z.getD i2 zM)), .int .i64 ((i2 : Nat) : Int), .bool false, .bool false, undef, undef, undef, undef, undef, undef, undef, undef, undef, undef, .bool false, .int .i64 ((i2 + 1 : Nat) : Int)] : List Value).getD kz undef), rfl, rfl, GG, GV, HZ, HT, by omega⟩
        · have hi20 : 0 < i2 := by have := of_decide_eq_true t5; omega
          refine wp_region_exA (A := ?Ax4) 13 [(0, 63), (1, 64), (2, 65), (3, 66), (4, 67), (5, 68), (6, 69), (7, 70), (8, 71), (9, 72), (10, 73), (11, 74), (12, 75)] [.val (.int .i64 ((i2 : Nat) : Int)), .val (.bool true), .val (.bool true), .val (.slice zo Z.length zc), .val (.int .i64 ((i2 : Nat) : Int)), .val (.int .i64 ((i2 - 1 : Nat) : Int)), .val (.pointer (pK kM zo (i2 - 1) 0)), .val (.pointer (pK kM zo (i2 - 1) 0)), .val (.agg (idA (Z.getD (i2 - 1) zM).key)), .val (.pointer (some ⟨g2, 0, none⟩)), .val (.agg (idA (Z.getD i2 zM).key)), .val (.bool true), .val (.bool false)] follows (by kernel_rfl) rfl ?hAx4 (opsA_cons ?o0x4 (opsA_cons ?o1x4 (opsA_cons ?o2x4 (opsA_cons ?o3x4 (opsA_cons ?o4x4 (opsA_cons ?o5x4 (opsA_cons ?o6x4 (opsA_cons ?o7x4 (opsA_cons ?o8x4 (opsA_cons ?o9x4 (opsA_cons ?o10x4 (opsA_cons ?o11x4 (opsA_cons ?o12x4 opsA_nil))))))))))))) ?restx4
          case hAx4 =>
            intro ptrs
            simp only [full, foldSlots, filledE, postE, List.foldl_cons, List.foldl_nil, List.getD_cons_zero, List.getD_cons_succ, fill_val, List.set_cons_zero, List.set_cons_succ]
            exact rfl
          case o0x4 => exact fun _ _ _ _ => opE_move (v := .int .i64 ((i2 : Nat) : Int)) _ rfl rfl rfl
          case o1x4 => exact fun _ _ _ _ => opE_value (v := .bool true) rfl (run_gtrT 3 _ _ _ rfl ((i2 : Nat) : Int) 0 rfl rfl true t5 _)
          case o2x4 => exact fun _ _ _ _ => opE_move (v := .bool true) _ rfl rfl rfl
          case o3x4 => exact fun _ _ _ _ => opE_move (v := .slice zo Z.length zc) _ rfl rfl rfl
          case o4x4 => exact fun _ _ _ _ => opE_move (v := .int .i64 ((i2 : Nat) : Int)) _ rfl rfl rfl
          case o5x4 => exact fun _ _ _ _ => opE_value (v := .int .i64 ((i2 - 1 : Nat) : Int)) rfl (run_subI 3 _ _ _ rfl ((i2 : Nat) : Int) 1 ((i2 - 1 : Nat) : Int) rfl rfl (by omega) (by omega) (by omega) _)
          case o6x4 => exact fun _ _ hw _ => opE_value (v := .pointer (pK kM zo (i2 - 1) 0)) rfl (run_ixK rM ((HZ.re).gro ((Gro.refl _).drew.trans hw)) _ _ rfl rfl (i2 - 1) rfl (by omega))
          case o7x4 => exact fun _ _ hw _ => opE_value (v := .pointer (pK kM zo (i2 - 1) 0)) rfl (run_fdK ((HZ.re).gro ((Gro.refl _).drew.trans hw)) 56 _ 0 0 (fdM_0 _) rfl (i2 - 1) rfl (by omega))
          case o8x4 => exact fun _ _ hw _ => opE_value (v := .agg (idA (Z.getD (i2 - 1) zM).key)) rfl (run_ldKMk ((HZ.re).gro ((Gro.refl _).drew.trans hw)) _ rfl (i2 - 1) rfl (by omega))
          case o9x4 => exact fun _ _ _ _ => opE_value (v := .pointer (some ⟨g2, 0, none⟩)) rfl (run_fld 56 _ 0 rfl g2 0 rfl 0 (by kernel_rfl))
          case o10x4 => exact fun _ _ hw _ => opE_value (v := .agg (idA (Z.getD i2 zM).key)) rfl (ldItk _ rfl g2 rfl (hw.has kg2))
          case o11x4 =>
            intro ptrs w' hw hE
            exact opE_call (.val (.bool true)) rfl _ 30 Try.call30 rfl rfl _ rfl [.agg (idA (Z.getD (i2 - 1) zM).key), .agg (idA (Z.getD i2 zM).key)] rfl ((Calls.bool (less_any (Z.getD (i2 - 1) zM).key (Z.getD i2 zM).key (atM HZ.re (by omega)).key (atM HZ.re hlt2).key _) (decide_eq_true (by have := ris_at hRis (i := i2 - 1) (by omega); rw [show i2 - 1 + 1 = i2 by omega] at this; exact this))).mono fun e w' ⟨he, hg⟩ => ⟨_, he, hg, rfl⟩)
          case o12x4 => exact fun _ _ _ _ => opE_value (v := .bool false) rfl (run_nt _ _ rfl true rfl)
          intro ptrs w9 GD hxE
          simp only [List.drop_succ_cons, List.drop_zero]
          replace kg2 := GD.has kg2
          replace GV := GV.gro ((Gro.refl _).drew.trans GD)
          replace HZ := HZ.gro ((Gro.refl _).drew.trans GD)
          replace HT := HT.gro ((Gro.refl _).drew.trans GD)
          replace GG := GG.drew.trans GD
          clear GD
          refine s_val 76 rfl rfl (.bool false) (rfl) ?_
          refine nr ?_; intro U h; simp only [z0, z1] at h; subst h
          refine wpList_nil ?_
          refine then_n ?_
          refine wp_cond_false rfl ?_
          refine wp_skip ?_
          refine blk_n ?_
          refine then_n ?_
          refine wp_region_lit ?_
          refine s_val 77 rfl rfl (.int .i64 ((i2 + 1 : Nat) : Int)) (run_addI 3 _ _ _ rfl ((i2 : Nat) : Int) 1 ((i2 + 1 : Nat) : Int) rfl rfl (by omega) (by omega) (by omega) _) ?_
          refine nr ?_; intro U h; simp only [z0, z1] at h; subst h
          refine s_val 58 rfl rfl (.int .i64 ((i2 + 1 : Nat) : Int)) (rfl) ?_
          refine nr ?_; intro U h; simp only [z0, z1] at h; subst h
          refine wpList_nil ?_
          refine then_n ?_
          exact ⟨_, by omega, i2 + 1, (fun kz => ([us2 0, .int .i64 ((i2 : Nat) : Int), .pointer (some ⟨g2, 0, none⟩), .bool true, .int .i64 ((i2 : Nat) : Int), .pointer (pK kM zo i2 0), .agg (itA (Z.getD i2 zM)), .int .i64 ((i2 : Nat) : Int), .bool true, .bool true, .slice zo Z.length zc, .int .i64 ((i2 : Nat) : Int), .int .i64 ((i2 - 1 : Nat) : Int), .pointer (pK kM zo (i2 - 1) 0), .pointer (pK kM zo (i2 - 1) 0), .agg (idA (Z.getD (i2 - 1) zM).key), .pointer (some ⟨g2, 0, none⟩), .agg (idA (Z.getD i2 zM).key), .bool true, .bool false, .bool false, .int .i64 ((i2 + 1 : Nat) : Int)] : List Value).getD kz undef), rfl, rfl, GG, GV, HZ, HT, by omega⟩
end Go.Proofs.Ytgfnjekpafempaa
