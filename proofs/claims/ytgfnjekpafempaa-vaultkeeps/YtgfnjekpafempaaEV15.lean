/- Wherever power fails, what was answered OK is kept, or something newer (the law). -/
import Derived.Test.YtgfnjekpafempaaEV14
namespace Go.Proofs.Ytgfnjekpafempaa
open Go.RowKit
theorem wp_meet {P : Program} {c1 c2 : Code} {Q : Exit → Act → World → Prop} {a : Act} {w : World} (R : Act → World → Prop) (h2 : ∀ a w, R a w → c2.wp P Q a w) (h1 : (∀ a w, R a w → c2.wp P Q a w) → (Code.seq c1 c2).wp P Q a w) : (Code.seq c1 c2).wp P Q a w := h1 h2
theorem run_remI {P : Program} {o : Oper} {A : Act} (t : TypeId) (x y : Operand) (t2 : TypeId) (ho : o.op = .binOp .rem t x y t2) (a : Int) (hx : A.eval x = .int .i64 a) (hy : A.eval y = .int .i64 2) (w : World) : (execOp A.eval o).run P w = .ok (.value (.int .i64 (a.tmod 2))) w := by
  refine run_binop .rem t x y t2 ho _ _ _ hx hy (by simp [eqGuard]) ?_
  have h1 := Int.tmod_lt_of_pos a (show (0 : Int) < 2 by decide)
  have h2 : -2 < a.tmod 2 := by
    have := Int.lt_tmod_of_pos a (show (0 : Int) < 2 by decide)
    omega
  have := wrap_in (a.tmod 2) (by omega) (by omega)
  simp [binOp, Op.intDiv]
theorem isN_put {M : List (Nat × IM)} (k : Nat) (z : Nat) (ao : Option Addr) (cap : Nat) (l : List Nat) : isN M (mkI k (mkV ((getK M k).ver.n + 1) z) ao cap l) = true := by
  unfold isN getK
  show (match getM M k with | none => true | some y => nwV _ y.ver) = true
  cases getM M k with
  | none => rfl
  | some y => exact decide_eq_true (.inl (by simp only [mkI, mkV, IM.ver, Option.getD_some]; omega))
section
variable {w w' : World} {B : Nat} {ao ao2 bo : Option Addr} {bap : Nat} {m : List IM}
theorem apart_kept (k : OW kM 56 w B bo bap m) (ha : ∀ j ∈ blk bo, j ∉ blk ao) (hK : Kept w.heap.size ao ao2) : ∀ j ∈ blk bo, j ∉ blk ao2 := fun j hj hm => by
  rcases hK j hm with h | h
  · exact ha j hj h
  · have := k.own.lt j hj
    omega
theorem apart_sym (h : ∀ j ∈ blk ao, j ∉ blk bo) : ∀ j ∈ blk bo, j ∉ blk ao := fun j hj hm => h j hm hj
end
theorem VK.power {U : List Nat} {w w' : World} {vp lp p sg mb n : Nat} {L : List Nat} {pw pw2 dn : Int} {h : Hd} {dw : Bool} {inc : Int} {M : List (Nat × IM)} (H : VK U w vp lp p sg mb n L pw dn h dw inc M) (G : GroS [p] w w') (HD : DK w' p sg n L pw2 dn) : VK U w' vp lp p sg mb n L pw2 dn h dw inc M :=
  ⟨⟨G.has H.vb.box (by simpa using H.n2), H.vb.map.gros G (by simpa using H.n8.symm), H.vb.ok⟩, H.log.gros G (by simpa using H.n5), HD, H.mr.gros G (fun k hk => by rw [List.mem_singleton.1 hk]; exact H.sub p (by simp)), H.sub, fun k hk => Nat.lt_of_lt_of_le (H.lt k hk) G.size⟩
theorem map_it_snoc (l : List IM) (x : IM) : (l ++ [x]).map IM.it = l.map IM.it ++ [x.it] := by rw [List.map_append]; rfl
theorem snoc_all {l : List IM} {p : IM → Prop} (h : ∀ x ∈ l, p x) {y : IM} (hy : p y) : ∀ x ∈ l ++ [y], p x := fun x hx => by
  rcases List.mem_append.1 hx with hx | hx
  · exact h x hx
  · rw [List.mem_singleton.1 hx]; exact hy
set_option maxRecDepth 100000 in
set_option maxHeartbeats 8000000 in
theorem vaultKeeps_any (w : World) (ao : Option Addr) (cap : Nat) (l : List IM) (HA : RK kM w ao cap l) (HN : ∀ x ∈ l, NC w .u8 x.ao x.cap x.val) (bo : Option Addr) (bc : Nat) (cu : List Int) (HB : RK kN w bo bc cu) : Calls Try.prog 5 #[.slice ao l.length cap, .slice bo cu.length bc] w (fun e w' => e = .returned (.bool true) ∧ Gro w w') := by
  refine s_enter Try.func5 rfl Try.ntmps5 [.slice ao l.length cap, .slice bo cu.length bc] [.slice ao l.length cap, .slice bo cu.length bc, undef, undef, undef, undef, undef, undef, undef, undef, undef, undef, undef, undef, undef, undef, undef, undef, undef, undef, undef, undef, undef, undef, undef, undef, undef, undef, undef, undef, undef, undef, undef, undef, undef, undef, undef, undef, undef, undef, undef, undef, undef, undef, undef, undef, undef, undef, undef, undef, undef, undef, undef, undef, undef, undef, undef, undef, undef, undef, undef, undef, undef, undef, undef, undef, undef, undef, undef, undef, undef, undef, undef, undef, undef, undef, undef, undef, undef, undef, undef, undef, undef, undef, undef, undef, undef, undef, undef, undef, undef, undef, undef, undef, undef, undef, undef, undef, undef, undef, undef, undef, undef, undef, undef, undef, undef, undef, undef, undef, undef, undef, undef, undef, undef, undef, undef, undef, undef, undef, undef, undef, undef, undef, undef, undef, undef, undef, undef, undef, undef, undef, undef, undef, undef, undef, undef, undef, undef, undef, undef, undef, undef, undef, undef, undef, undef, undef, undef, undef, undef, undef, undef, undef, undef, undef, undef, undef, undef, undef, undef, undef, undef, undef, undef, undef, undef, undef, undef, undef, undef, undef, undef, undef, undef] rfl ?_
  have GG := Gro.refl w
  refine wp_seq ?_
  refine wp_region_lit ?_
  refine s_val 4 rfl rfl (.bool false) (rfl) ?_
  refine nr ?_; intro U h; simp only [z0, z1] at h; subst h
  refine wpList_nil ?_
  refine then_n ?_
  refine wp_seq ?_
  refine wp_region_lit ?_
  refine s_callx 21 rfl rfl _ 23 Try.call23 rfl rfl _ rfl [.int .i64 900] rfl (new_any _ 900) (by rintro _ _ ⟨_, _, he, _, _, _, _⟩; exact ⟨_, he⟩) ?_
  rintro v w1 ⟨p, sg, he, G, hp, hs, HD⟩
  cases he
  replace GG := GG.trans G
  clear G
  replace HD : DK w1 p sg 900 (zs (900 * 64)) (-1) 0 := HD
  refine nr ?_; intro U h; simp only [z0, z1] at h; subst h
  refine s_val 5 rfl rfl (.pointer (some ⟨p, 0, none⟩)) (rfl) ?_
  refine nr ?_; intro U h; simp only [z0, z1] at h; subst h
  refine wpList_nil ?_
  refine then_n ?_
  refine wp_seq ?_
  refine wp_seq ?_
  refine wp_region_opq ?_
  intro OPS hY
  have y2 := hY 2 24 rfl
  clear hY
  refine s_val 22 rfl rfl (.pointer (some ⟨p, 0, none⟩)) (rfl) ?_
  refine nr ?_; intro U h; simp only [z0, z1] at h; subst h
  refine s_val 23 rfl rfl (.bool false) (run_eqnp 32 _ _ _ rfl _ rfl rfl Try.underlying32 _) ?_
  refine nr ?_; intro U h; simp only [z0, z1] at h; subst h
  refine s_val 24 rfl rfl (.bool false) (rfl) ?_
  refine nr ?_; intro U h; simp only [z0, z1] at h; subst h
  refine s_gcallvY 25 rfl rfl y2 rfl _ 10 Try.call10 rfl rfl _ rfl [] rfl (fixed_any _) ?_
  intro w2 G
  replace HD := HD.gro G
  replace GG := GG.trans G
  clear G
  refine nr ?_; intro U h; simp only [z0, z1] at h; subst h
  refine s_gvalY 26 rfl rfl y2 rfl (.bool false) (run_nt _ _ rfl true rfl) ?_
  refine nr ?_; intro U h; simp only [z0, z1] at h; subst h
  refine s_val 27 rfl rfl (.bool false) (rfl) ?_
  refine nr ?_; intro U h; simp only [z0, z1] at h; subst h
  refine wpList_nil ?_
  refine then_n ?_
  refine wp_cond_false rfl ?_
  refine wp_skip ?_
  refine then_n ?_
  refine wp_seq ?_
  refine wp_region_lit ?_
  refine s_val 6 rfl rfl (.slice none 0 0) (rfl) ?_
  refine nr ?_; intro U h; simp only [z0, z1] at h; subst h
  refine s_val 7 rfl rfl (.slice none 0 0) (rfl) ?_
  refine nr ?_; intro U h; simp only [z0, z1] at h; subst h
  refine wpList_nil ?_
  refine then_n ?_
  refine wp_seq ?_
  refine wp_region_lit ?_
  refine s_val 8 rfl rfl (.int .i64 0) (rfl) ?_
  refine nr ?_; intro U h; simp only [z0, z1] at h; subst h
  refine wpList_nil ?_
  refine then_n ?_
  refine wp_seq ?_
  refine wp_seq ?_
  refine wp_region_lit ?_
  refine s_val 9 rfl rfl (.int .i64 0) (rfl) ?_
  refine nr ?_; intro U h; simp only [z0, z1] at h; subst h
  refine wpList_nil ?_
  refine then_n ?_
  refine wp_block ?_
  refine wp_loopN (fun mz az wv => ∃ (k : Nat) (at1 : Nat) (L : List Nat) (pw : Int) (dn : Int) (h : Hd) (rs : List (List Nat)) (Lx : List It) (c : Nat) (su : List IM) (so : Option Addr) (sc : Nat) (tr : List IM) (to : Option Addr) (tc : Nat) (us1 : Nat → Value), mz = 17 - k ∧ az = ⟨[.slice ao l.length cap, .slice bo cu.length bc, undef, undef, us1 0, .pointer (some ⟨p, 0, none⟩), .slice so su.length sc, .slice to tr.length tc, .int .i64 ((at1 : Nat) : Int), .int .i64 ((k : Nat) : Int), us1 1, us1 2, us1 3, us1 4, us1 5, us1 6, us1 7, us1 8, us1 9, undef, undef, .pointer (some ⟨p, 0, none⟩), .pointer (some ⟨p, 0, none⟩), .bool false, .bool false, .bool true, .bool false, .bool false, us1 10, us1 11, us1 12, us1 13, us1 14, us1 15, us1 16, us1 17, us1 18, us1 19, us1 20, us1 21, us1 22, us1 23, us1 24, us1 25, us1 26, us1 27, us1 28, us1 29, us1 30, us1 31, us1 32, us1 33, us1 34, us1 35, us1 36, us1 37, us1 38, us1 39, us1 40, us1 41, us1 42, us1 43, us1 44, us1 45, us1 46, us1 47, us1 48, us1 49, us1 50, us1 51, us1 52, us1 53, us1 54, us1 55, us1 56, us1 57, us1 58, us1 59, us1 60, us1 61, us1 62, us1 63, us1 64, us1 65, us1 66, us1 67, us1 68, us1 69, us1 70, us1 71, us1 72, us1 73, us1 74, us1 75, us1 76, us1 77, us1 78, us1 79, us1 80, us1 81, us1 82, us1 83, us1 84, us1 85, us1 86, us1 87, us1 88, us1 89, us1 90, us1 91, us1 92, us1 93, us1 94, us1 95, us1 96, us1 97, us1 98, us1 99, us1 100, us1 101, us1 102, us1 103, us1 104, us1 105, us1 106, us1 107, us1 108, us1 109, us1 110, us1 111, us1 112, us1 113, us1 114, us1 115, us1 116, us1 117, us1 118, us1 119, us1 120, us1 121, us1 122, us1 123, us1 124, us1 125, us1 126, us1 127, us1 128, us1 129, us1 130, us1 131, us1 132, us1 133, us1 134, us1 135, us1 136, us1 137, undef, undef, undef, undef, undef, undef, undef, undef, undef, undef, undef, undef, undef, undef, undef, undef, undef, undef, undef].toArray, []⟩ ∧ Gro w wv ∧ DK wv p sg 900 L pw dn ∧ Good L 900 h rs ∧ hld rs = some (Lx, c) ∧ SKv Lx ∧ (∀ x ∈ Lx, x.ok) ∧ (k ≤ 16 ∧ at1 ≤ 60 ∧ c ≤ k ∧ h.g ≤ k + at1 ∧ h.u ≤ k + 2 * at1 ∧ 0 ≤ dn ∧ dn ≤ 20 * k + 20 * at1 ∧ su.length ≤ at1 ∧ tr.length ≤ at1) ∧ OW kM 56 wv w.heap.size so sc su ∧ OW kM 56 wv w.heap.size to tc tr ∧ (∀ j ∈ blk so, j ∉ blk to) ∧ (∀ x ∈ su, 0 ≤ x.n) ∧ (∀ x ∈ tr, NC w .u8 x.ao x.cap x.val) ∧ Sure Lx (su.map IM.it) ∧ Tried Lx (tr.map IM.it)) ?_ _ ⟨0, 0, _, (-1), 0, ⟨0, 0, 0⟩, [], [], 0, [], none, 0, [], none, 0, (fun kz => ([.bool false, undef, undef, undef, undef, undef, undef, undef, undef, undef, undef, undef, undef, undef, undef, undef, undef, undef, undef, undef, undef, undef, undef, undef, undef, undef, undef, undef, undef, undef, undef, undef, undef, undef, undef, undef, undef, undef, undef, undef, undef, undef, undef, undef, undef, undef, undef, undef, undef, undef, undef, undef, undef, undef, undef, undef, undef, undef, undef, undef, undef, undef, undef, undef, undef, undef, undef, undef, undef, undef, undef, undef, undef, undef, undef, undef, undef, undef, undef, undef, undef, undef, undef, undef, undef, undef, undef, undef, undef, undef, undef, undef, undef, undef, undef, undef, undef, undef, undef, undef, undef, undef, undef, undef, undef, undef, undef, undef, undef, undef, undef, undef, undef, undef, undef, undef, undef, undef, undef, undef, undef, undef, undef, undef, undef, undef, undef, undef, undef, undef, undef, undef, undef, undef, undef, undef, undef, undef] : List Value).getD kz undef), rfl, rfl, GG, HD, good_new 900 (by decide), rfl, SKv.nil, fun _ h => by (cases h), ⟨by decide, by decide, by decide, by decide, by decide, by decide, by decide, Nat.le_refl _, Nat.le_refl _⟩, OW.nil _ _, OW.nil _ _, fun _ h => by (cases h), fun _ h => by (cases h), fun _ h => by (cases h), fun _ h => by (cases h), fun _ h => by (cases h)⟩
  clear GG HD
  rintro mz az wv ⟨k, at1, L, pw, dn, h, rs, Lx, c, su, so, sc, tr, to, tc, us1, rfl, rfl, GG, HD, HG, hh, hsk, hok, hb, HSu, HTr, hap, hsn, htv, hsu, htr⟩
  refine wp_seq ?_
  refine wp_seq ?_
  cases t1 : decide (((k : Nat) : Int) ≤ ((cu.length : Nat) : Int))
  · refine wp_region_opq ?_
    intro OPS hY
    have y4 := hY 4 32 rfl
    clear hY
    refine s_val 28 rfl rfl (.int .i64 ((k : Nat) : Int)) (rfl) ?_
    refine nr ?_; intro U h; simp only [z0, z1] at h; subst h
    refine s_val 29 rfl rfl (.slice bo cu.length bc) (rfl) ?_
    refine nr ?_; intro U h; simp only [z0, z1] at h; subst h
    refine s_val 30 rfl rfl (.int .i64 ((cu.length : Nat) : Int)) (run_len Try.underlying60 _ rfl _ _ _ rfl _) ?_
    refine nr ?_; intro U h; simp only [z0, z1] at h; subst h
    refine s_val 31 rfl rfl (.bool false) (run_leqT 3 _ _ _ rfl ((k : Nat) : Int) ((cu.length : Nat) : Int) rfl rfl false t1 _) ?_
    refine nr ?_; intro U h; simp only [z0, z1] at h; subst h
    refine s_val 32 rfl rfl (.bool false) (rfl) ?_
    refine nr ?_; intro U h; simp only [z0, z1] at h; subst h
    refine s_skipY 33 rfl rfl y4 rfl ?_
    refine nr ?_; intro U h; simp only [z0, z1] at h; subst h
    refine s_skipY 34 rfl rfl y4 rfl ?_
    refine nr ?_; intro U h; simp only [z0, z1] at h; subst h
    refine s_val 35 rfl rfl (.bool false) (rfl) ?_
    refine nr ?_; intro U h; simp only [z0, z1] at h; subst h
    refine wpList_nil ?_
    refine then_n ?_
    refine wp_cond_false rfl ?_
    refine wp_exit ?_
    refine then_x ?_
    refine then_x ?_
    refine blk_x ?_
    refine then_n ?_
    refine wp_seq ?_
    refine wp_region_lit ?_
    refine s_val 156 rfl rfl (.pointer (some ⟨p, 0, none⟩)) (rfl) ?_
    refine nr ?_; intro U h; simp only [z0, z1] at h; subst h
    have szz := GG.size
    refine s_callx 157 rfl rfl _ 24 Try.call24 rfl rfl _ rfl [.pointer (some ⟨p, 0, none⟩), .int .i64 (-1)] rfl (power_any _ p sg 900 L pw dn HD (-1)) (by rintro _ _ ⟨he, _, _⟩; exact ⟨_, he⟩) ?_
    rintro v w3 ⟨he, G, HD2⟩
    cases he
    replace HSu := HD.keepW (G.mono (by simp)) HSu
    replace HTr := HD.keepW (G.mono (by simp)) HTr
    replace GG := G.gro GG (fun k hk => by rw [List.mem_singleton.1 hk]; omega)
    clear HD
    replace HD2 : DK w3 p sg 900 L (-1) dn := HD2
    have HD := HD2
    clear HD2
    refine nr ?_; intro U h; simp only [z0, z1] at h; subst h
    refine wpList_nil ?_
    refine then_n ?_
    refine wp_seq ?_
    refine wp_region_lit ?_
    refine s_val 159 rfl rfl (.pointer (some ⟨p, 0, none⟩)) (rfl) ?_
    refine nr ?_; intro U h; simp only [z0, z1] at h; subst h
    obtain ⟨er, L2, pw2, h2, dw2, rs2, HA2, SA2⟩ := append_a 900 L (-1) h false rs (begV (c + 1)) HG ok_m1 (by omega) (by decide)
    have hbl := beg_len (n := c + 1) (by omega)
    have hu2 := HA2.u
    rw [sec_6 hbl] at hu2
    have hg2 := HA2.g
    obtain ⟨rfl, rfl⟩ := HA2.go rfl rfl (by omega) (by rw [sec_6 hbl]; omega)
    have hw2 := HA2.ok rfl
    subst hw2
    have szz2 := GG.size
    refine s_callx 160 rfl rfl _ 13 Try.call13 rfl rfl _ rfl [.pointer (some ⟨p, 0, none⟩)] rfl ((vopen_go [p, sg] _ p sg 900 L (-1) dn HD (by decide) h rs HG (by omega) HD.lt2 (by simp) (by simp) Lx c hh (by omega) 0 L2 (-1) h2 false rs2 HA2 SA2 (by omega) (by omega)).mono fun e w' h => h.yes) (by rintro _ _ ⟨_, _, _, _, _, he, _, _, _, _, _, _, _, _⟩; exact ⟨_, he⟩) ?_
    rintro v w4 ⟨vp, lp, mb, M, dn2, he, G, HV, hM, hv1, hv2, hv3, hd1, hd2⟩
    cases he
    replace HSu := HD.keepW G HSu
    replace HTr := HD.keepW G HTr
    replace GG := G.gro GG (fun k hk => by simp only [List.mem_cons, List.not_mem_nil, or_false] at hk; omega)
    clear HD
    have GV := Gro.refl w4
    replace HV : VK [vp, lp, mb, p, sg] w4 vp lp p sg mb 900 L2 (-1) dn2 h2 false ((c + 1 : Nat) : Int) M := HV
    have HP2 : PS 900 L2 h2 (rs ++ [begV (c + 1)]) Lx (c + 1) M := ⟨HA2.yes, hld_beg hh (by omega) (by omega), hM, hsk, hok⟩
    have hfew := HP2.few (by decide)
    have hSM : SureM M su := HP2.sure HV.mr.n0 hsn hsu
    refine nr ?_; intro U h; simp only [z0, z1] at h; subst h
    refine s_val 158 rfl rfl (.tuple #[.pointer (some ⟨vp, 0, none⟩), .int .i64 0]) (rfl) ?_
    refine nr ?_; intro U h; simp only [z0, z1] at h; subst h
    refine s_val 161 rfl rfl (.pointer (some ⟨vp, 0, none⟩)) (rfl) ?_
    refine nr ?_; intro U h; simp only [z0, z1] at h; subst h
    refine s_val 162 rfl rfl (.int .i64 0) (rfl) ?_
    refine nr ?_; intro U h; simp only [z0, z1] at h; subst h
    refine s_val 19 rfl rfl (.pointer (some ⟨vp, 0, none⟩)) (rfl) ?_
    refine nr ?_; intro U h; simp only [z0, z1] at h; subst h
    refine s_val 20 rfl rfl (.int .i64 0) (rfl) ?_
    refine nr ?_; intro U h; simp only [z0, z1] at h; subst h
    refine wpList_nil ?_
    refine then_n ?_
    refine wp_seq ?_
    refine wp_region_opq ?_
    intro OPS hY
    have y2 := hY 2 165 rfl
    have y6 := hY 6 169 rfl
    clear hY
    refine s_val 163 rfl rfl (.pointer (some ⟨vp, 0, none⟩)) (rfl) ?_
    refine nr ?_; intro U h; simp only [z0, z1] at h; subst h
    refine s_val 164 rfl rfl (.bool true) (run_nenp 37 _ _ _ rfl _ rfl rfl Try.underlying37 _) ?_
    refine nr ?_; intro U h; simp only [z0, z1] at h; subst h
    refine s_val 165 rfl rfl (.bool true) (rfl) ?_
    refine nr ?_; intro U h; simp only [z0, z1] at h; subst h
    refine s_gvalY 166 rfl rfl y2 rfl (.int .i64 0) (rfl) ?_
    refine nr ?_; intro U h; simp only [z0, z1] at h; subst h
    refine s_gvalY 167 rfl rfl y2 rfl (.bool true) (run_eq_k 26 .i64 _ _ _ rfl Try.underlying26 0 0 rfl rfl true (decide_eq_true rfl) _) ?_
    refine nr ?_; intro U h; simp only [z0, z1] at h; subst h
    refine s_val 168 rfl rfl (.bool true) (rfl) ?_
    refine nr ?_; intro U h; simp only [z0, z1] at h; subst h
    refine s_val 169 rfl rfl (.bool true) (rfl) ?_
    refine nr ?_; intro U h; simp only [z0, z1] at h; subst h
    refine s_gvalY 170 rfl rfl y6 rfl (.pointer (some ⟨vp, 0, none⟩)) (rfl) ?_
    refine nr ?_; intro U h; simp only [z0, z1] at h; subst h
    refine s_gvalY 171 rfl rfl y6 rfl (.slice so su.length sc) (rfl) ?_
    refine nr ?_; intro U h; simp only [z0, z1] at h; subst h
    refine s_gvalY 172 rfl rfl y6 rfl (.slice to tr.length tc) (rfl) ?_
    refine nr ?_; intro U h; simp only [z0, z1] at h; subst h
    refine s_gcallvY 173 rfl rfl y6 rfl _ 25 Try.call25 rfl rfl _ rfl [.pointer (some ⟨vp, 0, none⟩), .slice so su.length sc, .slice to tr.length tc] rfl (holds_any _ _ vp lp p sg mb 900 L2 (-1) dn2 h2 false _ M (HV.gro GV) Lx HP2.rel HP2.sk hfew HP2.ok so to sc tc su tr HSu.re HTr.re (fun x hx => (htv x hx).gro GG) (by omega) (by omega) hSM (tried_of htr)) ?_
    intro w5 G
    replace HSu := HSu.gro G
    replace HTr := HTr.gro G
    replace GV := GV.gro G
    replace GG := GG.trans G
    clear G
    refine nr ?_; intro U h; simp only [z0, z1] at h; subst h
    refine s_val 174 rfl rfl (.bool true) (rfl) ?_
    refine nr ?_; intro U h; simp only [z0, z1] at h; subst h
    refine s_val 4 rfl rfl (.bool true) (rfl) ?_
    refine nr ?_; intro U h; simp only [z0, z1] at h; subst h
    refine wpList_nil ?_
    refine then_n ?_
    refine wp_ret ?_
    refine bodyPost_ret (results_tmp Try.results5 _ _ _) rfl ?_
    exact ⟨rfl, GG⟩
  · cases t2 : decide (((k : Nat) : Int) < 16)
    · refine wp_region_opq ?_
      intro OPS hY
      have y4 := hY 4 32 rfl
      clear hY
      refine s_val 28 rfl rfl (.int .i64 ((k : Nat) : Int)) (rfl) ?_
      refine nr ?_; intro U h; simp only [z0, z1] at h; subst h
      refine s_val 29 rfl rfl (.slice bo cu.length bc) (rfl) ?_
      refine nr ?_; intro U h; simp only [z0, z1] at h; subst h
      refine s_val 30 rfl rfl (.int .i64 ((cu.length : Nat) : Int)) (run_len Try.underlying60 _ rfl _ _ _ rfl _) ?_
      refine nr ?_; intro U h; simp only [z0, z1] at h; subst h
      refine s_val 31 rfl rfl (.bool true) (run_leqT 3 _ _ _ rfl ((k : Nat) : Int) ((cu.length : Nat) : Int) rfl rfl true t1 _) ?_
      refine nr ?_; intro U h; simp only [z0, z1] at h; subst h
      refine s_val 32 rfl rfl (.bool true) (rfl) ?_
      refine nr ?_; intro U h; simp only [z0, z1] at h; subst h
      refine s_gvalY 33 rfl rfl y4 rfl (.int .i64 ((k : Nat) : Int)) (rfl) ?_
      refine nr ?_; intro U h; simp only [z0, z1] at h; subst h
      refine s_gvalY 34 rfl rfl y4 rfl (.bool false) (run_lssT 3 _ _ _ rfl ((k : Nat) : Int) 16 rfl rfl false t2 _) ?_
      refine nr ?_; intro U h; simp only [z0, z1] at h; subst h
      refine s_val 35 rfl rfl (.bool false) (rfl) ?_
      refine nr ?_; intro U h; simp only [z0, z1] at h; subst h
      refine wpList_nil ?_
      refine then_n ?_
      refine wp_cond_false rfl ?_
      refine wp_exit ?_
      refine then_x ?_
      refine then_x ?_
      refine blk_x ?_
      refine then_n ?_
      refine wp_seq ?_
      refine wp_region_lit ?_
      refine s_val 156 rfl rfl (.pointer (some ⟨p, 0, none⟩)) (rfl) ?_
      refine nr ?_; intro U h; simp only [z0, z1] at h; subst h
      have szz := GG.size
      refine s_callx 157 rfl rfl _ 24 Try.call24 rfl rfl _ rfl [.pointer (some ⟨p, 0, none⟩), .int .i64 (-1)] rfl (power_any _ p sg 900 L pw dn HD (-1)) (by rintro _ _ ⟨he, _, _⟩; exact ⟨_, he⟩) ?_
      rintro v w3 ⟨he, G, HD2⟩
      cases he
      replace HSu := HD.keepW (G.mono (by simp)) HSu
      replace HTr := HD.keepW (G.mono (by simp)) HTr
      replace GG := G.gro GG (fun k hk => by rw [List.mem_singleton.1 hk]; omega)
      clear HD
      replace HD2 : DK w3 p sg 900 L (-1) dn := HD2
      have HD := HD2
      clear HD2
      refine nr ?_; intro U h; simp only [z0, z1] at h; subst h
      refine wpList_nil ?_
      refine then_n ?_
      refine wp_seq ?_
      refine wp_region_lit ?_
      refine s_val 159 rfl rfl (.pointer (some ⟨p, 0, none⟩)) (rfl) ?_
      refine nr ?_; intro U h; simp only [z0, z1] at h; subst h
      obtain ⟨er, L2, pw2, h2, dw2, rs2, HA2, SA2⟩ := append_a 900 L (-1) h false rs (begV (c + 1)) HG ok_m1 (by omega) (by decide)
      have hbl := beg_len (n := c + 1) (by omega)
      have hu2 := HA2.u
      rw [sec_6 hbl] at hu2
      have hg2 := HA2.g
      obtain ⟨rfl, rfl⟩ := HA2.go rfl rfl (by omega) (by rw [sec_6 hbl]; omega)
      have hw2 := HA2.ok rfl
      subst hw2
      have szz2 := GG.size
      refine s_callx 160 rfl rfl _ 13 Try.call13 rfl rfl _ rfl [.pointer (some ⟨p, 0, none⟩)] rfl ((vopen_go [p, sg] _ p sg 900 L (-1) dn HD (by decide) h rs HG (by omega) HD.lt2 (by simp) (by simp) Lx c hh (by omega) 0 L2 (-1) h2 false rs2 HA2 SA2 (by omega) (by omega)).mono fun e w' h => h.yes) (by rintro _ _ ⟨_, _, _, _, _, he, _, _, _, _, _, _, _, _⟩; exact ⟨_, he⟩) ?_
      rintro v w4 ⟨vp, lp, mb, M, dn2, he, G, HV, hM, hv1, hv2, hv3, hd1, hd2⟩
      cases he
      replace HSu := HD.keepW G HSu
      replace HTr := HD.keepW G HTr
      replace GG := G.gro GG (fun k hk => by simp only [List.mem_cons, List.not_mem_nil, or_false] at hk; omega)
      clear HD
      have GV := Gro.refl w4
      replace HV : VK [vp, lp, mb, p, sg] w4 vp lp p sg mb 900 L2 (-1) dn2 h2 false ((c + 1 : Nat) : Int) M := HV
      have HP2 : PS 900 L2 h2 (rs ++ [begV (c + 1)]) Lx (c + 1) M := ⟨HA2.yes, hld_beg hh (by omega) (by omega), hM, hsk, hok⟩
      have hfew := HP2.few (by decide)
      have hSM : SureM M su := HP2.sure HV.mr.n0 hsn hsu
      refine nr ?_; intro U h; simp only [z0, z1] at h; subst h
      refine s_val 158 rfl rfl (.tuple #[.pointer (some ⟨vp, 0, none⟩), .int .i64 0]) (rfl) ?_
      refine nr ?_; intro U h; simp only [z0, z1] at h; subst h
      refine s_val 161 rfl rfl (.pointer (some ⟨vp, 0, none⟩)) (rfl) ?_
      refine nr ?_; intro U h; simp only [z0, z1] at h; subst h
      refine s_val 162 rfl rfl (.int .i64 0) (rfl) ?_
      refine nr ?_; intro U h; simp only [z0, z1] at h; subst h
      refine s_val 19 rfl rfl (.pointer (some ⟨vp, 0, none⟩)) (rfl) ?_
      refine nr ?_; intro U h; simp only [z0, z1] at h; subst h
      refine s_val 20 rfl rfl (.int .i64 0) (rfl) ?_
      refine nr ?_; intro U h; simp only [z0, z1] at h; subst h
      refine wpList_nil ?_
      refine then_n ?_
      refine wp_seq ?_
      refine wp_region_opq ?_
      intro OPS hY
      have y2 := hY 2 165 rfl
      have y6 := hY 6 169 rfl
      clear hY
      refine s_val 163 rfl rfl (.pointer (some ⟨vp, 0, none⟩)) (rfl) ?_
      refine nr ?_; intro U h; simp only [z0, z1] at h; subst h
      refine s_val 164 rfl rfl (.bool true) (run_nenp 37 _ _ _ rfl _ rfl rfl Try.underlying37 _) ?_
      refine nr ?_; intro U h; simp only [z0, z1] at h; subst h
      refine s_val 165 rfl rfl (.bool true) (rfl) ?_
      refine nr ?_; intro U h; simp only [z0, z1] at h; subst h
      refine s_gvalY 166 rfl rfl y2 rfl (.int .i64 0) (rfl) ?_
      refine nr ?_; intro U h; simp only [z0, z1] at h; subst h
      refine s_gvalY 167 rfl rfl y2 rfl (.bool true) (run_eq_k 26 .i64 _ _ _ rfl Try.underlying26 0 0 rfl rfl true (decide_eq_true rfl) _) ?_
      refine nr ?_; intro U h; simp only [z0, z1] at h; subst h
      refine s_val 168 rfl rfl (.bool true) (rfl) ?_
      refine nr ?_; intro U h; simp only [z0, z1] at h; subst h
      refine s_val 169 rfl rfl (.bool true) (rfl) ?_
      refine nr ?_; intro U h; simp only [z0, z1] at h; subst h
      refine s_gvalY 170 rfl rfl y6 rfl (.pointer (some ⟨vp, 0, none⟩)) (rfl) ?_
      refine nr ?_; intro U h; simp only [z0, z1] at h; subst h
      refine s_gvalY 171 rfl rfl y6 rfl (.slice so su.length sc) (rfl) ?_
      refine nr ?_; intro U h; simp only [z0, z1] at h; subst h
      refine s_gvalY 172 rfl rfl y6 rfl (.slice to tr.length tc) (rfl) ?_
      refine nr ?_; intro U h; simp only [z0, z1] at h; subst h
      refine s_gcallvY 173 rfl rfl y6 rfl _ 25 Try.call25 rfl rfl _ rfl [.pointer (some ⟨vp, 0, none⟩), .slice so su.length sc, .slice to tr.length tc] rfl (holds_any _ _ vp lp p sg mb 900 L2 (-1) dn2 h2 false _ M (HV.gro GV) Lx HP2.rel HP2.sk hfew HP2.ok so to sc tc su tr HSu.re HTr.re (fun x hx => (htv x hx).gro GG) (by omega) (by omega) hSM (tried_of htr)) ?_
      intro w5 G
      replace HSu := HSu.gro G
      replace HTr := HTr.gro G
      replace GV := GV.gro G
      replace GG := GG.trans G
      clear G
      refine nr ?_; intro U h; simp only [z0, z1] at h; subst h
      refine s_val 174 rfl rfl (.bool true) (rfl) ?_
      refine nr ?_; intro U h; simp only [z0, z1] at h; subst h
      refine s_val 4 rfl rfl (.bool true) (rfl) ?_
      refine nr ?_; intro U h; simp only [z0, z1] at h; subst h
      refine wpList_nil ?_
      refine then_n ?_
      refine wp_ret ?_
      refine bodyPost_ret (results_tmp Try.results5 _ _ _) rfl ?_
      exact ⟨rfl, GG⟩
    · have hk16 : k < 16 := by have := of_decide_eq_true t2; omega
      refine wp_region_opq ?_
      intro OPS hY
      have y4 := hY 4 32 rfl
      clear hY
      refine s_val 28 rfl rfl (.int .i64 ((k : Nat) : Int)) (rfl) ?_
      refine nr ?_; intro U h; simp only [z0, z1] at h; subst h
      refine s_val 29 rfl rfl (.slice bo cu.length bc) (rfl) ?_
      refine nr ?_; intro U h; simp only [z0, z1] at h; subst h
      refine s_val 30 rfl rfl (.int .i64 ((cu.length : Nat) : Int)) (run_len Try.underlying60 _ rfl _ _ _ rfl _) ?_
      refine nr ?_; intro U h; simp only [z0, z1] at h; subst h
      refine s_val 31 rfl rfl (.bool true) (run_leqT 3 _ _ _ rfl ((k : Nat) : Int) ((cu.length : Nat) : Int) rfl rfl true t1 _) ?_
      refine nr ?_; intro U h; simp only [z0, z1] at h; subst h
      refine s_val 32 rfl rfl (.bool true) (rfl) ?_
      refine nr ?_; intro U h; simp only [z0, z1] at h; subst h
      refine s_gvalY 33 rfl rfl y4 rfl (.int .i64 ((k : Nat) : Int)) (rfl) ?_
      refine nr ?_; intro U h; simp only [z0, z1] at h; subst h
      refine s_gvalY 34 rfl rfl y4 rfl (.bool true) (run_lssT 3 _ _ _ rfl ((k : Nat) : Int) 16 rfl rfl true t2 _) ?_
      refine nr ?_; intro U h; simp only [z0, z1] at h; subst h
      refine s_val 35 rfl rfl (.bool true) (rfl) ?_
      refine nr ?_; intro U h; simp only [z0, z1] at h; subst h
      refine wpList_nil ?_
      refine then_n ?_
      refine wp_cond_true rfl ?_
      refine wp_skip ?_
      refine then_n ?_
      refine wp_seq ?_
      refine wp_block ?_
      refine wp_seq ?_
      refine wp_region_lit ?_
      refine s_val 38 rfl rfl (.pointer (some ⟨p, 0, none⟩)) (rfl) ?_
      refine nr ?_; intro U h; simp only [z0, z1] at h; subst h
      have szz := GG.size
      refine s_callx 39 rfl rfl _ 24 Try.call24 rfl rfl _ rfl [.pointer (some ⟨p, 0, none⟩), .int .i64 (-1)] rfl (power_any _ p sg 900 L pw dn HD (-1)) (by rintro _ _ ⟨he, _, _⟩; exact ⟨_, he⟩) ?_
      rintro v w3 ⟨he, G, HD2⟩
      cases he
      replace HSu := HD.keepW (G.mono (by simp)) HSu
      replace HTr := HD.keepW (G.mono (by simp)) HTr
      replace GG := G.gro GG (fun k hk => by rw [List.mem_singleton.1 hk]; omega)
      clear HD
      replace HD2 : DK w3 p sg 900 L (-1) dn := HD2
      have HD := HD2
      clear HD2
      refine nr ?_; intro U h; simp only [z0, z1] at h; subst h
      refine wpList_nil ?_
      refine then_n ?_
      refine wp_seq ?_
      refine wp_region_lit ?_
      refine s_val 41 rfl rfl (.pointer (some ⟨p, 0, none⟩)) (rfl) ?_
      refine nr ?_; intro U h; simp only [z0, z1] at h; subst h
      obtain ⟨er, L2, pw2, h2, dw2, rs2, HA2, SA2⟩ := append_a 900 L (-1) h false rs (begV (c + 1)) HG ok_m1 (by omega) (by decide)
      have hbl := beg_len (n := c + 1) (by omega)
      have hu2 := HA2.u
      rw [sec_6 hbl] at hu2
      have hg2 := HA2.g
      obtain ⟨rfl, rfl⟩ := HA2.go rfl rfl (by omega) (by rw [sec_6 hbl]; omega)
      have hw2 := HA2.ok rfl
      subst hw2
      have szz2 := GG.size
      refine s_callx 42 rfl rfl _ 13 Try.call13 rfl rfl _ rfl [.pointer (some ⟨p, 0, none⟩)] rfl ((vopen_go [p, sg] _ p sg 900 L (-1) dn HD (by decide) h rs HG (by omega) HD.lt2 (by simp) (by simp) Lx c hh (by omega) 0 L2 (-1) h2 false rs2 HA2 SA2 (by omega) (by omega)).mono fun e w' h => h.yes) (by rintro _ _ ⟨_, _, _, _, _, he, _, _, _, _, _, _, _, _⟩; exact ⟨_, he⟩) ?_
      rintro v w4 ⟨vp, lp, mb, M, dn2, he, G, HV, hM, hv1, hv2, hv3, hd1, hd2⟩
      cases he
      replace HSu := HD.keepW G HSu
      replace HTr := HD.keepW G HTr
      replace GG := G.gro GG (fun k hk => by simp only [List.mem_cons, List.not_mem_nil, or_false] at hk; omega)
      clear HD
      have GV := Gro.refl w4
      replace HV : VK [vp, lp, mb, p, sg] w4 vp lp p sg mb 900 L2 (-1) dn2 h2 false ((c + 1 : Nat) : Int) M := HV
      have HP2 : PS 900 L2 h2 (rs ++ [begV (c + 1)]) Lx (c + 1) M := ⟨HA2.yes, hld_beg hh (by omega) (by omega), hM, hsk, hok⟩
      have hfew := HP2.few (by decide)
      have hSM : SureM M su := HP2.sure HV.mr.n0 hsn hsu
      refine nr ?_; intro U h; simp only [z0, z1] at h; subst h
      refine s_val 40 rfl rfl (.tuple #[.pointer (some ⟨vp, 0, none⟩), .int .i64 0]) (rfl) ?_
      refine nr ?_; intro U h; simp only [z0, z1] at h; subst h
      refine s_val 43 rfl rfl (.pointer (some ⟨vp, 0, none⟩)) (rfl) ?_
      refine nr ?_; intro U h; simp only [z0, z1] at h; subst h
      refine s_val 44 rfl rfl (.int .i64 0) (rfl) ?_
      refine nr ?_; intro U h; simp only [z0, z1] at h; subst h
      refine s_val 10 rfl rfl (.pointer (some ⟨vp, 0, none⟩)) (rfl) ?_
      refine nr ?_; intro U h; simp only [z0, z1] at h; subst h
      refine s_val 11 rfl rfl (.int .i64 0) (rfl) ?_
      refine nr ?_; intro U h; simp only [z0, z1] at h; subst h
      refine wpList_nil ?_
      refine then_n ?_
      refine wp_seq ?_
      refine wp_seq ?_
      refine wp_region_opq ?_
      intro OPS hY
      have y2 := hY 2 47 rfl
      have y6 := hY 6 51 rfl
      clear hY
      refine s_val 45 rfl rfl (.pointer (some ⟨vp, 0, none⟩)) (rfl) ?_
      refine nr ?_; intro U h; simp only [z0, z1] at h; subst h
      refine s_val 46 rfl rfl (.bool false) (run_eqnp 37 _ _ _ rfl _ rfl rfl Try.underlying37 _) ?_
      refine nr ?_; intro U h; simp only [z0, z1] at h; subst h
      refine s_val 47 rfl rfl (.bool false) (rfl) ?_
      refine nr ?_; intro U h; simp only [z0, z1] at h; subst h
      refine s_gvalY 48 rfl rfl y2 rfl (.int .i64 0) (rfl) ?_
      refine nr ?_; intro U h; simp only [z0, z1] at h; subst h
      refine s_gvalY 49 rfl rfl y2 rfl (.bool false) (run_neq_k 26 .i64 _ _ _ rfl Try.underlying26 0 0 rfl rfl false (decide_eq_true rfl) _) ?_
      refine nr ?_; intro U h; simp only [z0, z1] at h; subst h
      refine s_val 50 rfl rfl (.bool false) (rfl) ?_
      refine nr ?_; intro U h; simp only [z0, z1] at h; subst h
      refine s_val 51 rfl rfl (.bool false) (rfl) ?_
      refine nr ?_; intro U h; simp only [z0, z1] at h; subst h
      refine s_gvalY 52 rfl rfl y6 rfl (.pointer (some ⟨vp, 0, none⟩)) (rfl) ?_
      refine nr ?_; intro U h; simp only [z0, z1] at h; subst h
      refine s_gvalY 53 rfl rfl y6 rfl (.slice so su.length sc) (rfl) ?_
      refine nr ?_; intro U h; simp only [z0, z1] at h; subst h
      refine s_gvalY 54 rfl rfl y6 rfl (.slice to tr.length tc) (rfl) ?_
      refine nr ?_; intro U h; simp only [z0, z1] at h; subst h
      refine s_gcallvY 55 rfl rfl y6 rfl _ 25 Try.call25 rfl rfl _ rfl [.pointer (some ⟨vp, 0, none⟩), .slice so su.length sc, .slice to tr.length tc] rfl (holds_any _ _ vp lp p sg mb 900 L2 (-1) dn2 h2 false _ M (HV.gro GV) Lx HP2.rel HP2.sk hfew HP2.ok so to sc tc su tr HSu.re HTr.re (fun x hx => (htv x hx).gro GG) (by omega) (by omega) hSM (tried_of htr)) ?_
      intro w5 G
      replace HSu := HSu.gro G
      replace HTr := HTr.gro G
      replace GV := GV.gro G
      replace GG := GG.trans G
      clear G
      refine nr ?_; intro U h; simp only [z0, z1] at h; subst h
      refine s_gvalY 56 rfl rfl y6 rfl (.bool false) (run_nt _ _ rfl true rfl) ?_
      refine nr ?_; intro U h; simp only [z0, z1] at h; subst h
      refine s_val 57 rfl rfl (.bool false) (rfl) ?_
      refine nr ?_; intro U h; simp only [z0, z1] at h; subst h
      refine wpList_nil ?_
      refine then_n ?_
      refine wp_cond_false rfl ?_
      refine wp_skip ?_
      refine then_n ?_
      refine wp_meet (fun az wv3 => ∃ (pwj : Int) (us2 : Nat → Value), az = ⟨[.slice ao l.length cap, .slice bo cu.length bc, undef, undef, us1 0, .pointer (some ⟨p, 0, none⟩), .slice so su.length sc, .slice to tr.length tc, .int .i64 ((at1 : Nat) : Int), .int .i64 ((k : Nat) : Int), .pointer (some ⟨vp, 0, none⟩), .int .i64 0, us1 3, us1 4, us1 5, us1 6, us1 7, us1 8, us1 9, undef, undef, .pointer (some ⟨p, 0, none⟩), .pointer (some ⟨p, 0, none⟩), .bool false, .bool false, .bool true, .bool false, .bool false, .int .i64 ((k : Nat) : Int), .slice bo cu.length bc, .int .i64 ((cu.length : Nat) : Int), .bool true, .bool true, .int .i64 ((k : Nat) : Int), .bool true, .bool true, us1 18, us1 19, .pointer (some ⟨p, 0, none⟩), .tuple #[], .tuple #[.pointer (some ⟨vp, 0, none⟩), .int .i64 0], .pointer (some ⟨p, 0, none⟩), .tuple #[.pointer (some ⟨vp, 0, none⟩), .int .i64 0], .pointer (some ⟨vp, 0, none⟩), .int .i64 0, .pointer (some ⟨vp, 0, none⟩), .bool false, .bool false, .int .i64 0, .bool false, .bool false, .bool false, .pointer (some ⟨vp, 0, none⟩), .slice so su.length sc, .slice to tr.length tc, .bool true, .bool false, .bool false, us2 0, us2 1, us2 2, us2 3, us2 4, us2 5, us2 6, us2 7, us2 8, us2 9, us2 10, us2 11, us2 12, us1 53, us1 54, us1 55, us1 56, us1 57, us1 58, us1 59, us1 60, us1 61, us1 62, us1 63, us1 64, us1 65, us1 66, us1 67, us1 68, us1 69, us1 70, us1 71, us1 72, us1 73, us1 74, us1 75, us1 76, us1 77, us1 78, us1 79, us1 80, us1 81, us1 82, us1 83, us1 84, us1 85, us1 86, us1 87, us1 88, us1 89, us1 90, us1 91, us1 92, us1 93, us1 94, us1 95, us1 96, us1 97, us1 98, us1 99, us1 100, us1 101, us1 102, us1 103, us1 104, us1 105, us1 106, us1 107, us1 108, us1 109, us1 110, us1 111, us1 112, us1 113, us1 114, us1 115, us1 116, us1 117, us1 118, us1 119, us1 120, us1 121, us1 122, us1 123, us1 124, us1 125, us1 126, us1 127, us1 128, us1 129, us1 130, us1 131, us1 132, us1 133, us1 134, us1 135, us1 136, us1 137, undef, undef, undef, undef, undef, undef, undef, undef, undef, undef, undef, undef, undef, undef, undef, undef, undef, undef, undef].toArray, []⟩ ∧ Gro w wv3 ∧ VK [vp, lp, mb, p, sg] wv3 vp lp p sg mb 900 L2 pwj dn2 h2 false ((c + 1 : Nat) : Int) M ∧ okP pwj ∧ OW kM 56 wv3 w.heap.size so sc su ∧ OW kM 56 wv3 w.heap.size to tc tr) ?_ ?_
      · clear GG HSu HTr GV
        rintro az wv3 ⟨pwj, us2, rfl, GG, HV, hPj, HSu, HTr⟩
        have GV := Gro.refl wv3
        refine wp_block ?_
        refine wp_loopN (fun mz az wv2 => ∃ (at2 : Nat) (L3 : List Nat) (pw3 : Int) (dn3 : Int) (h3 : Hd) (rs3 : List (List Nat)) (Ly : List It) (M : List (Nat × IM)) (dw : Bool) (su2 : List IM) (so2 : Option Addr) (sc2 : Nat) (tr2 : List IM) (to2 : Option Addr) (tc2 : Nat) (us3 : Nat → Value), mz = 60 - at2 ∧ az = ⟨[.slice ao l.length cap, .slice bo cu.length bc, undef, undef, us1 0, .pointer (some ⟨p, 0, none⟩), .slice so2 su2.length sc2, .slice to2 tr2.length tc2, .int .i64 ((at2 : Nat) : Int), .int .i64 ((k : Nat) : Int), .pointer (some ⟨vp, 0, none⟩), .int .i64 0, us3 0, us3 1, us3 2, us3 3, us3 4, us3 5, us3 6, undef, undef, .pointer (some ⟨p, 0, none⟩), .pointer (some ⟨p, 0, none⟩), .bool false, .bool false, .bool true, .bool false, .bool false, .int .i64 ((k : Nat) : Int), .slice bo cu.length bc, .int .i64 ((cu.length : Nat) : Int), .bool true, .bool true, .int .i64 ((k : Nat) : Int), .bool true, .bool true, us1 18, us1 19, .pointer (some ⟨p, 0, none⟩), .tuple #[], .tuple #[.pointer (some ⟨vp, 0, none⟩), .int .i64 0], .pointer (some ⟨p, 0, none⟩), .tuple #[.pointer (some ⟨vp, 0, none⟩), .int .i64 0], .pointer (some ⟨vp, 0, none⟩), .int .i64 0, .pointer (some ⟨vp, 0, none⟩), .bool false, .bool false, .int .i64 0, .bool false, .bool false, .bool false, .pointer (some ⟨vp, 0, none⟩), .slice so su.length sc, .slice to tr.length tc, .bool true, .bool false, .bool false, us2 0, us2 1, us2 2, us2 3, us2 4, us2 5, us2 6, us2 7, us2 8, us2 9, us2 10, us2 11, us2 12, us3 7, us3 8, us3 9, us3 10, us3 11, us3 12, us3 13, us3 14, us3 15, us3 16, us3 17, us3 18, us3 19, us3 20, us3 21, us3 22, us3 23, us3 24, us3 25, us3 26, us3 27, us3 28, us3 29, us3 30, us3 31, us3 32, us3 33, us3 34, us3 35, us3 36, us3 37, us3 38, us3 39, us3 40, us3 41, us3 42, us3 43, us3 44, us3 45, us3 46, us3 47, us3 48, us3 49, us3 50, us3 51, us3 52, us3 53, us3 54, us3 55, us3 56, us3 57, us3 58, us3 59, us3 60, us3 61, us3 62, us3 63, us3 64, us3 65, us3 66, us3 67, us3 68, us3 69, us3 70, us3 71, us3 72, us3 73, us3 74, us3 75, us3 76, us3 77, us3 78, us3 79, us3 80, us3 81, us3 82, us3 83, us3 84, us3 85, us3 86, us3 87, us3 88, us3 89, us3 90, us3 91, undef, undef, undef, undef, undef, undef, undef, undef, undef, undef, undef, undef, undef, undef, undef, undef, undef, undef, undef].toArray, []⟩ ∧ Gro w wv2 ∧ VK [vp, lp, mb, p, sg] wv2 vp lp p sg mb 900 L3 pw3 dn3 h3 dw ((c + 1 : Nat) : Int) M ∧ PS 900 L3 h3 rs3 Ly (c + 1) M ∧ okP pw3 ∧ (at1 ≤ at2 ∧ at2 ≤ 60 ∧ h3.g ≤ k + 1 + at2 ∧ h3.u ≤ k + 1 + 2 * at2 ∧ 0 ≤ dn3 ∧ dn3 ≤ 20 * (k + 1) + 20 * at2 ∧ su2.length ≤ at2 ∧ tr2.length ≤ at2) ∧ OW kM 56 wv2 w.heap.size so2 sc2 su2 ∧ OW kM 56 wv2 w.heap.size to2 tc2 tr2 ∧ (∀ j ∈ blk so2, j ∉ blk to2) ∧ (∀ x ∈ su2, 0 ≤ x.n) ∧ (∀ x ∈ tr2, NC w .u8 x.ao x.cap x.val) ∧ Sure Ly (su2.map IM.it) ∧ Tried Ly (tr2.map IM.it)) ?_ _ ⟨at1, _, _, _, _, _, _, _, false, su, so, sc, tr, to, tc, (fun kz => ([us1 3, us1 4, us1 5, us1 6, us1 7, us1 8, us1 9, us1 53, us1 54, us1 55, us1 56, us1 57, us1 58, us1 59, us1 60, us1 61, us1 62, us1 63, us1 64, us1 65, us1 66, us1 67, us1 68, us1 69, us1 70, us1 71, us1 72, us1 73, us1 74, us1 75, us1 76, us1 77, us1 78, us1 79, us1 80, us1 81, us1 82, us1 83, us1 84, us1 85, us1 86, us1 87, us1 88, us1 89, us1 90, us1 91, us1 92, us1 93, us1 94, us1 95, us1 96, us1 97, us1 98, us1 99, us1 100, us1 101, us1 102, us1 103, us1 104, us1 105, us1 106, us1 107, us1 108, us1 109, us1 110, us1 111, us1 112, us1 113, us1 114, us1 115, us1 116, us1 117, us1 118, us1 119, us1 120, us1 121, us1 122, us1 123, us1 124, us1 125, us1 126, us1 127, us1 128, us1 129, us1 130, us1 131, us1 132, us1 133, us1 134, us1 135, us1 136, us1 137] : List Value).getD kz undef), rfl, rfl, GG, HV.gro GV, HP2, hPj, ⟨Nat.le_refl _, by omega, by omega, by omega, by omega, by omega, by omega, by omega⟩, HSu, HTr, hap, hsn, htv, hsu, htr⟩
        clear GG HSu HTr
        rintro mz az wv2 ⟨at2, L3, pw3, dn3, h3, rs3, Ly, M, dw, su2, so2, sc2, tr2, to2, tc2, us3, rfl, rfl, GG, HV, HP, hP, hb2, HSu, HTr, hap, hsn, htv, hsu, htr⟩
        have GV := Gro.refl wv2
        refine wp_seq ?_
        refine wp_seq ?_
        cases dw
        · skip
          cases t4 : decide (((at2 : Nat) : Int) < ((l.length : Nat) : Int))
          · refine wp_region_opq ?_
            intro OPS hY
            have y4 := hY 4 75 rfl
            have y8 := hY 8 79 rfl
            clear hY
            refine s_val 71 rfl rfl (.int .i64 ((at2 : Nat) : Int)) (rfl) ?_
            refine nr ?_; intro U h; simp only [z0, z1] at h; subst h
            refine s_val 72 rfl rfl (.slice ao l.length cap) (rfl) ?_
            refine nr ?_; intro U h; simp only [z0, z1] at h; subst h
            refine s_val 73 rfl rfl (.int .i64 ((l.length : Nat) : Int)) (run_len Try.underlying45 _ rfl _ _ _ rfl _) ?_
            refine nr ?_; intro U h; simp only [z0, z1] at h; subst h
            refine s_val 74 rfl rfl (.bool false) (run_lssT 3 _ _ _ rfl ((at2 : Nat) : Int) ((l.length : Nat) : Int) rfl rfl false t4 _) ?_
            refine nr ?_; intro U h; simp only [z0, z1] at h; subst h
            refine s_val 75 rfl rfl (.bool false) (rfl) ?_
            refine nr ?_; intro U h; simp only [z0, z1] at h; subst h
            refine s_skipY 76 rfl rfl y4 rfl ?_
            refine nr ?_; intro U h; simp only [z0, z1] at h; subst h
            refine s_skipY 77 rfl rfl y4 rfl ?_
            refine nr ?_; intro U h; simp only [z0, z1] at h; subst h
            refine s_val 78 rfl rfl (.bool false) (rfl) ?_
            refine nr ?_; intro U h; simp only [z0, z1] at h; subst h
            refine s_val 79 rfl rfl (.bool false) (rfl) ?_
            refine nr ?_; intro U h; simp only [z0, z1] at h; subst h
            refine s_skipY 80 rfl rfl y8 rfl ?_
            refine nr ?_; intro U h; simp only [z0, z1] at h; subst h
            refine s_skipY 81 rfl rfl y8 rfl ?_
            refine nr ?_; intro U h; simp only [z0, z1] at h; subst h
            refine s_skipY 82 rfl rfl y8 rfl ?_
            refine nr ?_; intro U h; simp only [z0, z1] at h; subst h
            refine s_val 83 rfl rfl (.bool false) (rfl) ?_
            refine nr ?_; intro U h; simp only [z0, z1] at h; subst h
            refine wpList_nil ?_
            refine then_n ?_
            refine wp_cond_false rfl ?_
            refine wp_exit ?_
            refine then_x ?_
            refine then_x ?_
            refine blk_x ?_
            refine blk_n ?_
            refine then_n ?_
            refine wp_region_lit ?_
            refine s_val 36 rfl rfl (.int .i64 ((k : Nat) : Int)) (rfl) ?_
            refine nr ?_; intro U h; simp only [z0, z1] at h; subst h
            refine s_val 37 rfl rfl (.int .i64 ((k + 1 : Nat) : Int)) (run_addI 3 _ _ _ rfl ((k : Nat) : Int) 1 ((k + 1 : Nat) : Int) rfl rfl (by omega) (by omega) (by omega) _) ?_
            refine nr ?_; intro U h; simp only [z0, z1] at h; subst h
            refine s_val 9 rfl rfl (.int .i64 ((k + 1 : Nat) : Int)) (rfl) ?_
            refine nr ?_; intro U h; simp only [z0, z1] at h; subst h
            refine wpList_nil ?_
            refine then_n ?_
            exact ⟨_, by omega, k + 1, at2, L3, pw3, dn3, h3, rs3, Ly, c + 1, su2, so2, sc2, tr2, to2, tc2, (fun kz => ([us1 0, .pointer (some ⟨vp, 0, none⟩), .int .i64 0, us3 0, us3 1, us3 2, us3 3, us3 4, us3 5, us3 6, .int .i64 ((k : Nat) : Int), .slice bo cu.length bc, .int .i64 ((cu.length : Nat) : Int), .bool true, .bool true, .int .i64 ((k : Nat) : Int), .bool true, .bool true, .int .i64 ((k : Nat) : Int), .int .i64 ((k + 1 : Nat) : Int), .pointer (some ⟨p, 0, none⟩), .tuple #[], .tuple #[.pointer (some ⟨vp, 0, none⟩), .int .i64 0], .pointer (some ⟨p, 0, none⟩), .tuple #[.pointer (some ⟨vp, 0, none⟩), .int .i64 0], .pointer (some ⟨vp, 0, none⟩), .int .i64 0, .pointer (some ⟨vp, 0, none⟩), .bool false, .bool false, .int .i64 0, .bool false, .bool false, .bool false, .pointer (some ⟨vp, 0, none⟩), .slice so su.length sc, .slice to tr.length tc, .bool true, .bool false, .bool false, us2 0, us2 1, us2 2, us2 3, us2 4, us2 5, us2 6, us2 7, us2 8, us2 9, us2 10, us2 11, us2 12, .int .i64 ((at2 : Nat) : Int), .slice ao l.length cap, .int .i64 ((l.length : Nat) : Int), .bool false, .bool false, undef, undef, .bool false, .bool false, undef, undef, undef, .bool false, us3 20, us3 21, us3 22, us3 23, us3 24, us3 25, us3 26, us3 27, us3 28, us3 29, us3 30, us3 31, us3 32, us3 33, us3 34, us3 35, us3 36, us3 37, us3 38, us3 39, us3 40, us3 41, us3 42, us3 43, us3 44, us3 45, us3 46, us3 47, us3 48, us3 49, us3 50, us3 51, us3 52, us3 53, us3 54, us3 55, us3 56, us3 57, us3 58, us3 59, us3 60, us3 61, us3 62, us3 63, us3 64, us3 65, us3 66, us3 67, us3 68, us3 69, us3 70, us3 71, us3 72, us3 73, us3 74, us3 75, us3 76, us3 77, us3 78, us3 79, us3 80, us3 81, us3 82, us3 83, us3 84, us3 85, us3 86, us3 87, us3 88, us3 89, us3 90, us3 91] : List Value).getD kz undef), rfl, rfl, GG, (HV.gro GV).dsk, HP.good, HP.hld, HP.sk, HP.ok, by omega, HSu, HTr, hap, hsn, htv, hsu, htr⟩
          · have hlt : at2 < l.length := by have := of_decide_eq_true t4; omega
            cases t5 : decide (((at2 : Nat) : Int) < 60)
            · refine wp_region_opq ?_
              intro OPS hY
              have y4 := hY 4 75 rfl
              have y8 := hY 8 79 rfl
              clear hY
              refine s_val 71 rfl rfl (.int .i64 ((at2 : Nat) : Int)) (rfl) ?_
              refine nr ?_; intro U h; simp only [z0, z1] at h; subst h
              refine s_val 72 rfl rfl (.slice ao l.length cap) (rfl) ?_
              refine nr ?_; intro U h; simp only [z0, z1] at h; subst h
              refine s_val 73 rfl rfl (.int .i64 ((l.length : Nat) : Int)) (run_len Try.underlying45 _ rfl _ _ _ rfl _) ?_
              refine nr ?_; intro U h; simp only [z0, z1] at h; subst h
              refine s_val 74 rfl rfl (.bool true) (run_lssT 3 _ _ _ rfl ((at2 : Nat) : Int) ((l.length : Nat) : Int) rfl rfl true t4 _) ?_
              refine nr ?_; intro U h; simp only [z0, z1] at h; subst h
              refine s_val 75 rfl rfl (.bool true) (rfl) ?_
              refine nr ?_; intro U h; simp only [z0, z1] at h; subst h
              refine s_gvalY 76 rfl rfl y4 rfl (.int .i64 ((at2 : Nat) : Int)) (rfl) ?_
              refine nr ?_; intro U h; simp only [z0, z1] at h; subst h
              refine s_gvalY 77 rfl rfl y4 rfl (.bool false) (run_lssT 3 _ _ _ rfl ((at2 : Nat) : Int) 60 rfl rfl false t5 _) ?_
              refine nr ?_; intro U h; simp only [z0, z1] at h; subst h
              refine s_val 78 rfl rfl (.bool false) (rfl) ?_
              refine nr ?_; intro U h; simp only [z0, z1] at h; subst h
              refine s_val 79 rfl rfl (.bool false) (rfl) ?_
              refine nr ?_; intro U h; simp only [z0, z1] at h; subst h
              refine s_skipY 80 rfl rfl y8 rfl ?_
              refine nr ?_; intro U h; simp only [z0, z1] at h; subst h
              refine s_skipY 81 rfl rfl y8 rfl ?_
              refine nr ?_; intro U h; simp only [z0, z1] at h; subst h
              refine s_skipY 82 rfl rfl y8 rfl ?_
              refine nr ?_; intro U h; simp only [z0, z1] at h; subst h
              refine s_val 83 rfl rfl (.bool false) (rfl) ?_
              refine nr ?_; intro U h; simp only [z0, z1] at h; subst h
              refine wpList_nil ?_
              refine then_n ?_
              refine wp_cond_false rfl ?_
              refine wp_exit ?_
              refine then_x ?_
              refine then_x ?_
              refine blk_x ?_
              refine blk_n ?_
              refine then_n ?_
              refine wp_region_lit ?_
              refine s_val 36 rfl rfl (.int .i64 ((k : Nat) : Int)) (rfl) ?_
              refine nr ?_; intro U h; simp only [z0, z1] at h; subst h
              refine s_val 37 rfl rfl (.int .i64 ((k + 1 : Nat) : Int)) (run_addI 3 _ _ _ rfl ((k : Nat) : Int) 1 ((k + 1 : Nat) : Int) rfl rfl (by omega) (by omega) (by omega) _) ?_
              refine nr ?_; intro U h; simp only [z0, z1] at h; subst h
              refine s_val 9 rfl rfl (.int .i64 ((k + 1 : Nat) : Int)) (rfl) ?_
              refine nr ?_; intro U h; simp only [z0, z1] at h; subst h
              refine wpList_nil ?_
              refine then_n ?_
              exact ⟨_, by omega, k + 1, at2, L3, pw3, dn3, h3, rs3, Ly, c + 1, su2, so2, sc2, tr2, to2, tc2, (fun kz => ([us1 0, .pointer (some ⟨vp, 0, none⟩), .int .i64 0, us3 0, us3 1, us3 2, us3 3, us3 4, us3 5, us3 6, .int .i64 ((k : Nat) : Int), .slice bo cu.length bc, .int .i64 ((cu.length : Nat) : Int), .bool true, .bool true, .int .i64 ((k : Nat) : Int), .bool true, .bool true, .int .i64 ((k : Nat) : Int), .int .i64 ((k + 1 : Nat) : Int), .pointer (some ⟨p, 0, none⟩), .tuple #[], .tuple #[.pointer (some ⟨vp, 0, none⟩), .int .i64 0], .pointer (some ⟨p, 0, none⟩), .tuple #[.pointer (some ⟨vp, 0, none⟩), .int .i64 0], .pointer (some ⟨vp, 0, none⟩), .int .i64 0, .pointer (some ⟨vp, 0, none⟩), .bool false, .bool false, .int .i64 0, .bool false, .bool false, .bool false, .pointer (some ⟨vp, 0, none⟩), .slice so su.length sc, .slice to tr.length tc, .bool true, .bool false, .bool false, us2 0, us2 1, us2 2, us2 3, us2 4, us2 5, us2 6, us2 7, us2 8, us2 9, us2 10, us2 11, us2 12, .int .i64 ((at2 : Nat) : Int), .slice ao l.length cap, .int .i64 ((l.length : Nat) : Int), .bool true, .bool true, .int .i64 ((at2 : Nat) : Int), .bool false, .bool false, .bool false, undef, undef, undef, .bool false, us3 20, us3 21, us3 22, us3 23, us3 24, us3 25, us3 26, us3 27, us3 28, us3 29, us3 30, us3 31, us3 32, us3 33, us3 34, us3 35, us3 36, us3 37, us3 38, us3 39, us3 40, us3 41, us3 42, us3 43, us3 44, us3 45, us3 46, us3 47, us3 48, us3 49, us3 50, us3 51, us3 52, us3 53, us3 54, us3 55, us3 56, us3 57, us3 58, us3 59, us3 60, us3 61, us3 62, us3 63, us3 64, us3 65, us3 66, us3 67, us3 68, us3 69, us3 70, us3 71, us3 72, us3 73, us3 74, us3 75, us3 76, us3 77, us3 78, us3 79, us3 80, us3 81, us3 82, us3 83, us3 84, us3 85, us3 86, us3 87, us3 88, us3 89, us3 90, us3 91] : List Value).getD kz undef), rfl, rfl, GG, (HV.gro GV).dsk, HP.good, HP.hld, HP.sk, HP.ok, by omega, HSu, HTr, hap, hsn, htv, hsu, htr⟩
            · have ha60 : at2 < 60 := by have := of_decide_eq_true t5; omega
              refine wp_region_opq ?_
              intro OPS hY
              have y4 := hY 4 75 rfl
              have y8 := hY 8 79 rfl
              clear hY
              refine s_val 71 rfl rfl (.int .i64 ((at2 : Nat) : Int)) (rfl) ?_
              refine nr ?_; intro U h; simp only [z0, z1] at h; subst h
              refine s_val 72 rfl rfl (.slice ao l.length cap) (rfl) ?_
              refine nr ?_; intro U h; simp only [z0, z1] at h; subst h
              refine s_val 73 rfl rfl (.int .i64 ((l.length : Nat) : Int)) (run_len Try.underlying45 _ rfl _ _ _ rfl _) ?_
              refine nr ?_; intro U h; simp only [z0, z1] at h; subst h
              refine s_val 74 rfl rfl (.bool true) (run_lssT 3 _ _ _ rfl ((at2 : Nat) : Int) ((l.length : Nat) : Int) rfl rfl true t4 _) ?_
              refine nr ?_; intro U h; simp only [z0, z1] at h; subst h
              refine s_val 75 rfl rfl (.bool true) (rfl) ?_
              refine nr ?_; intro U h; simp only [z0, z1] at h; subst h
              refine s_gvalY 76 rfl rfl y4 rfl (.int .i64 ((at2 : Nat) : Int)) (rfl) ?_
              refine nr ?_; intro U h; simp only [z0, z1] at h; subst h
              refine s_gvalY 77 rfl rfl y4 rfl (.bool true) (run_lssT 3 _ _ _ rfl ((at2 : Nat) : Int) 60 rfl rfl true t5 _) ?_
              refine nr ?_; intro U h; simp only [z0, z1] at h; subst h
              refine s_val 78 rfl rfl (.bool true) (rfl) ?_
              refine nr ?_; intro U h; simp only [z0, z1] at h; subst h
              refine s_val 79 rfl rfl (.bool true) (rfl) ?_
              refine nr ?_; intro U h; simp only [z0, z1] at h; subst h
              refine s_gvalY 80 rfl rfl y8 rfl (.pointer (some ⟨vp, 0, none⟩)) (rfl) ?_
              refine nr ?_; intro U h; simp only [z0, z1] at h; subst h
              refine s_gcallvY 81 rfl rfl y8 rfl _ 26 Try.call26 rfl rfl _ rfl [.pointer (some ⟨vp, 0, none⟩)] rfl (vdown_any [vp, lp, mb, p, sg] _ vp lp p sg mb 900 L3 pw3 dn3 h3 false ((c + 1 : Nat) : Int) M (HV.gro GV)) ?_
              intro w6 G
              replace HSu := HSu.gro G
              replace HTr := HTr.gro G
              replace GV := GV.gro G
              replace GG := GG.trans G
              clear G
              refine nr ?_; intro U h; simp only [z0, z1] at h; subst h
              refine s_gvalY 82 rfl rfl y8 rfl (.bool true) (run_nt _ _ rfl false rfl) ?_
              refine nr ?_; intro U h; simp only [z0, z1] at h; subst h
              refine s_val 83 rfl rfl (.bool true) (rfl) ?_
              refine nr ?_; intro U h; simp only [z0, z1] at h; subst h
              refine wpList_nil ?_
              refine then_n ?_
              refine wp_cond_true rfl ?_
              refine wp_skip ?_
              refine then_n ?_
              refine wp_seq ?_
              refine wp_block ?_
              refine wp_seq ?_
              refine wp_region_lit ?_
              refine s_val 86 rfl rfl (.slice ao l.length cap) (rfl) ?_
              refine nr ?_; intro U h; simp only [z0, z1] at h; subst h
              refine s_val 87 rfl rfl (.int .i64 ((at2 : Nat) : Int)) (rfl) ?_
              refine nr ?_; intro U h; simp only [z0, z1] at h; subst h
              refine s_val 88 rfl rfl (.pointer (pK kM ao at2 0)) (run_ixK rM ((HA.gro GG)) _ _ rfl rfl at2 rfl (by omega)) ?_
              refine nr ?_; intro U h; simp only [z0, z1] at h; subst h
              refine s_val 89 rfl rfl (.agg (itA (l.getD at2 zM))) (run_ldKM ((HA.gro GG)) _ rfl at2 rfl (by omega)) ?_
              refine nr ?_; intro U h; simp only [z0, z1] at h; subst h
              refine s_alloc 12 rfl rfl 56 rfl _ zeroIt (itA zM) rfl ?_
              intro w7 g1 G eg1 kg1
              have bg1 := size_base GG eg1
              have dHSug1 := HSu.ne eg1
              have dHTrg1 := HTr.ne eg1
              have dGVg1 := GV.ne eg1
              replace HSu := HSu.gro G
              replace HTr := HTr.gro G
              replace GV := GV.gro G
              replace GG := GG.trans G
              clear G
              clear eg1
              refine nr ?_; intro U h; simp only [z0, z1] at h; subst h
              refine s_store rfl rfl 56 _ _ rfl g1 0 rfl (.agg (itA (l.getD at2 zM))) rfl 56 _ kg1 (itA (l.getD at2 zM)) rfl (siIt' _) (itA_fit _ _) (itA_one _) (itA (l.getD at2 zM)) (splice_whole _ _ (itA_sz _ _)) ?_
              intro w8 St
              replace HSu := HSu.st St dHSug1
              replace HTr := HTr.st St dHTrg1
              replace GV := GV.st St dGVg1
              replace GG := GG.store St bg1
              replace kg1 := St.new
              clear St
              refine wpList_nil ?_
              refine then_n ?_
              refine wp_seq ?_
              have hxl := getD_mem3 hlt
              have hxo := HA.all _ hxl
              have hxn := HN _ hxl
              have hn0 := HV.mr.n0
              cases t6 : decide ((l.getD at2 zM).n.tmod 2 = 0)
              · skip
                refine wp_region_lit ?_
                refine s_val 90 rfl rfl (.pointer (some ⟨g1, 16, none⟩)) (run_fld 56 _ 1 rfl g1 0 rfl 16 (by kernel_rfl)) ?_
                refine nr ?_; intro U h; simp only [z0, z1] at h; subst h
                refine s_val 91 rfl rfl (.pointer (some ⟨g1, 16, none⟩)) (run_fld 54 _ 0 rfl g1 16 rfl 16 (by kernel_rfl)) ?_
                refine nr ?_; intro U h; simp only [z0, z1] at h; subst h
                refine s_val 92 rfl rfl (.int .i64 (l.getD at2 zM).n) (ldItn _ rfl g1 rfl (kg1)) ?_
                refine nr ?_; intro U h; simp only [z0, z1] at h; subst h
                refine s_val 93 rfl rfl (.int .i64 ((l.getD at2 zM).n.tmod 2)) (run_remI 2 _ _ _ rfl _ rfl rfl _) ?_
                refine nr ?_; intro U h; simp only [z0, z1] at h; subst h
                refine s_val 94 rfl rfl (.bool false) (run_eq_k 2 .i64 _ _ _ rfl Try.underlying2 ((l.getD at2 zM).n.tmod 2) 0 rfl rfl false t6 _) ?_
                refine nr ?_; intro U h; simp only [z0, z1] at h; subst h
                refine wpList_nil ?_
                refine then_n ?_
                refine wp_cond_false rfl ?_
                refine wp_seq ?_
                have HVo := HV.gro GV
                rcases (by omega : ((l.getD at2 zM).n < 1 ∨ 4611686018427387903 < (l.getD at2 zM).n) ∨ (1 ≤ (l.getD at2 zM).n ∧ (l.getD at2 zM).n ≤ 4611686018427387903)) with hna | hna
                · skip
                  refine wp_region_lit ?_
                  refine s_val 137 rfl rfl (.pointer (some ⟨vp, 0, none⟩)) (rfl) ?_
                  refine nr ?_; intro U h; simp only [z0, z1] at h; subst h
                  refine s_val 138 rfl rfl (.agg (itA (l.getD at2 zM))) (ldIt0 _ rfl g1 rfl (kg1)) ?_
                  refine nr ?_; intro U h; simp only [z0, z1] at h; subst h
                  refine s_callv 139 rfl rfl _ 29 Try.call29 rfl rfl _ rfl [.pointer (some ⟨vp, 0, none⟩), .agg (itA (l.getD at2 zM))] rfl (merge_arg [vp, lp, mb, p, sg] _ vp lp p sg mb 900 L3 pw3 dn3 h3 false ((c + 1 : Nat) : Int) M HVo (l.getD at2 zM) hna) ?_
                  intro w9 G
                  replace kg1 := G.has kg1
                  replace HSu := HSu.gro G
                  replace HTr := HTr.gro G
                  replace GV := GV.gro G
                  replace GG := GG.trans G
                  clear G
                  refine nr ?_; intro U h; simp only [z0, z1] at h; subst h
                  refine s_val 136 rfl rfl (.tuple #[.bool false, .int .i64 1]) (rfl) ?_
                  refine nr ?_; intro U h; simp only [z0, z1] at h; subst h
                  refine s_val 140 rfl rfl (.bool false) (rfl) ?_
                  refine nr ?_; intro U h; simp only [z0, z1] at h; subst h
                  refine s_val 141 rfl rfl (.int .i64 1) (rfl) ?_
                  refine nr ?_; intro U h; simp only [z0, z1] at h; subst h
                  refine s_val 17 rfl rfl (.bool false) (rfl) ?_
                  refine nr ?_; intro U h; simp only [z0, z1] at h; subst h
                  refine s_val 18 rfl rfl (.int .i64 1) (rfl) ?_
                  refine nr ?_; intro U h; simp only [z0, z1] at h; subst h
                  refine wpList_nil ?_
                  refine then_n ?_
                  refine wp_seq ?_
                  refine wp_region_lit ?_
                  refine s_val 142 rfl rfl (.int .i64 1) (rfl) ?_
                  refine nr ?_; intro U h; simp only [z0, z1] at h; subst h
                  refine s_val 143 rfl rfl (.bool false) (run_eq_k 26 .i64 _ _ _ rfl Try.underlying26 1 0 rfl rfl false (by decide) _) ?_
                  refine nr ?_; intro U h; simp only [z0, z1] at h; subst h
                  refine wpList_nil ?_
                  refine then_n ?_
                  refine wp_cond_false rfl ?_
                  refine wp_region_lit ?_
                  refine s_val 152 rfl rfl (.slice to2 tr2.length tc2) (rfl) ?_
                  refine nr ?_; intro U h; simp only [z0, z1] at h; subst h
                  refine s_val 153 rfl rfl (.agg (itA (l.getD at2 zM))) (ldIt0 _ rfl g1 rfl (kg1)) ?_
                  refine nr ?_; intro U h; simp only [z0, z1] at h; subst h
                  refine s_bsl 154 rfl rfl 45 1 _ rfl [(0, .agg (itA (l.getD at2 zM)))] rfl ([(l.getD at2 zM)].flatMap kM.E).toArray 56 (bsM _ _) ?_
                  intro w10 q154 G eq2 kq2
                  replace kg1 := G.has kg1
                  replace HSu := HSu.gro G
                  replace HTr := HTr.gro G
                  replace GV := GV.gro G
                  replace GG := GG.trans G
                  clear G
                  have HQ : RK kM w10 (some ⟨q154, 0, none⟩) 1 [(l.getD at2 zM)] := RK.blk kq2 (one_all hxo) (Nat.le_refl _)
                  clear eq2 kq2
                  refine nr ?_; intro U h; simp only [z0, z1] at h; subst h
                  refine s_appK rM (by decide) 155 rfl rfl _ _ rfl rfl HTr (l' := [(l.getD at2 zM)]) rfl HQ (by simp only [List.length_singleton]; omega) GG.size ?_
                  intro ar155 cr155 w11 HT2 G hKp
                  replace kg1 := G.has kg1 (dHTrg1)
                  have HVy := (HV.gro GV).gros G (fun k hk => by
                    obtain ⟨cur, hc, _⟩ := HTr.blkt hk
                    exact ⟨(HV.gro GV).nin hc (by decide), (HV.gro GV).nrow hc (by decide)⟩)
                  have hapO := hap
                  replace hap := apart_kept HSu hapO hKp
                  replace HSu := HSu.gros G hapO
                  clear hapO
                  replace GG := G.gro GG (fun k hk => (HTr.blkt hk).choose_spec.2)
                  clear GV HTr G HQ hKp
                  have HTr := HT2
                  clear HT2
                  have HVz := HVy
                  clear HVy
                  have GV3 := Gro.refl w11
                  refine nr ?_; intro U h; simp only [z0, z1] at h; subst h
                  refine s_val 7 rfl rfl (.slice ar155 (tr2 ++ [(l.getD at2 zM)]).length cr155) (rfl) ?_
                  refine nr ?_; intro U h; simp only [z0, z1] at h; subst h
                  refine wpList_nil ?_
                  refine blk_n ?_
                  refine then_n ?_
                  refine wp_region_lit ?_
                  refine s_val 84 rfl rfl (.int .i64 ((at2 : Nat) : Int)) (rfl) ?_
                  refine nr ?_; intro U h; simp only [z0, z1] at h; subst h
                  refine s_val 85 rfl rfl (.int .i64 ((at2 + 1 : Nat) : Int)) (run_addI 3 _ _ _ rfl ((at2 : Nat) : Int) 1 ((at2 + 1 : Nat) : Int) rfl rfl (by omega) (by omega) (by omega) _) ?_
                  refine nr ?_; intro U h; simp only [z0, z1] at h; subst h
                  refine s_val 8 rfl rfl (.int .i64 ((at2 + 1 : Nat) : Int)) (rfl) ?_
                  refine nr ?_; intro U h; simp only [z0, z1] at h; subst h
                  refine wpList_nil ?_
                  refine then_n ?_
                  exact ⟨_, by omega, at2 + 1, L3, pw3, dn3, h3, _, _, M, false, su2, _, _, (tr2 ++ [(l.getD at2 zM)]), _, _, (fun kz => ([.pointer (some ⟨g1, 0, none⟩), us3 1, us3 2, us3 3, us3 4, .bool false, .int .i64 1, .int .i64 ((at2 : Nat) : Int), .slice ao l.length cap, .int .i64 ((l.length : Nat) : Int), .bool true, .bool true, .int .i64 ((at2 : Nat) : Int), .bool true, .bool true, .bool true, .pointer (some ⟨vp, 0, none⟩), .bool false, .bool true, .bool true, .int .i64 ((at2 : Nat) : Int), .int .i64 ((at2 + 1 : Nat) : Int), .slice ao l.length cap, .int .i64 ((at2 : Nat) : Int), .pointer (pK kM ao at2 0), .agg (itA (l.getD at2 zM)), .pointer (some ⟨g1, 16, none⟩), .pointer (some ⟨g1, 16, none⟩), .int .i64 (l.getD at2 zM).n, .int .i64 ((l.getD at2 zM).n.tmod 2), .bool false, us3 31, us3 32, us3 33, us3 34, us3 35, us3 36, us3 37, us3 38, us3 39, us3 40, us3 41, us3 42, us3 43, us3 44, us3 45, us3 46, us3 47, us3 48, us3 49, us3 50, us3 51, us3 52, us3 53, us3 54, us3 55, us3 56, us3 57, us3 58, us3 59, us3 60, us3 61, us3 62, us3 63, us3 64, us3 65, us3 66, us3 67, us3 68, us3 69, us3 70, us3 71, .tuple #[.bool false, .int .i64 1], .pointer (some ⟨vp, 0, none⟩), .agg (itA (l.getD at2 zM)), .tuple #[.bool false, .int .i64 1], .bool false, .int .i64 1, .int .i64 1, .bool false, us3 80, us3 81, us3 82, us3 83, us3 84, us3 85, us3 86, us3 87, .slice to2 tr2.length tc2, .agg (itA (l.getD at2 zM)), .slice (some ⟨q154, 0, none⟩) 1 1, .slice ar155 (tr2 ++ [(l.getD at2 zM)]).length cr155] : List Value).getD kz undef), rfl, rfl, GG, HVz.gro GV3, HP, hP, ⟨by omega, by omega, by omega, by omega, by omega, by omega, by omega, by rw [List.length_append]; simp only [List.length_singleton]; omega⟩, HSu, HTr, hap, hsn, snoc_all htv hxn, hsu, by rw [map_it_snoc]; exact htr.more _⟩
                · skip
                  cases hl : decide (64 < (l.getD at2 zM).val.length)
                  · have hl1 := of_decide_eq_false hl
                    cases hq : isN M (l.getD at2 zM)
                    · skip
                      refine wp_region_lit ?_
                      refine s_val 137 rfl rfl (.pointer (some ⟨vp, 0, none⟩)) (rfl) ?_
                      refine nr ?_; intro U h; simp only [z0, z1] at h; subst h
                      refine s_val 138 rfl rfl (.agg (itA (l.getD at2 zM))) (ldIt0 _ rfl g1 rfl (kg1)) ?_
                      refine nr ?_; intro U h; simp only [z0, z1] at h; subst h
                      refine s_callv 139 rfl rfl _ 29 Try.call29 rfl rfl _ rfl [.pointer (some ⟨vp, 0, none⟩), .agg (itA (l.getD at2 zM))] rfl (merge_old [vp, lp, mb, p, sg] _ vp lp p sg mb 900 L3 pw3 dn3 h3 false ((c + 1 : Nat) : Int) M HVo (l.getD at2 zM) hxo (by omega) (by omega) (by omega) hq) ?_
                      intro w9 G
                      replace kg1 := G.has kg1
                      replace HSu := HSu.gro G
                      replace HTr := HTr.gro G
                      replace GV := GV.gro G
                      replace GG := GG.trans G
                      clear G
                      refine nr ?_; intro U h; simp only [z0, z1] at h; subst h
                      refine s_val 136 rfl rfl (.tuple #[.bool false, .int .i64 0]) (rfl) ?_
                      refine nr ?_; intro U h; simp only [z0, z1] at h; subst h
                      refine s_val 140 rfl rfl (.bool false) (rfl) ?_
                      refine nr ?_; intro U h; simp only [z0, z1] at h; subst h
                      refine s_val 141 rfl rfl (.int .i64 0) (rfl) ?_
                      refine nr ?_; intro U h; simp only [z0, z1] at h; subst h
                      refine s_val 17 rfl rfl (.bool false) (rfl) ?_
                      refine nr ?_; intro U h; simp only [z0, z1] at h; subst h
                      refine s_val 18 rfl rfl (.int .i64 0) (rfl) ?_
                      refine nr ?_; intro U h; simp only [z0, z1] at h; subst h
                      refine wpList_nil ?_
                      refine then_n ?_
                      refine wp_seq ?_
                      refine wp_region_lit ?_
                      refine s_val 142 rfl rfl (.int .i64 0) (rfl) ?_
                      refine nr ?_; intro U h; simp only [z0, z1] at h; subst h
                      refine s_val 143 rfl rfl (.bool true) (run_eq_k 26 .i64 _ _ _ rfl Try.underlying26 0 0 rfl rfl true (decide_eq_true rfl) _) ?_
                      refine nr ?_; intro U h; simp only [z0, z1] at h; subst h
                      refine wpList_nil ?_
                      refine then_n ?_
                      refine wp_cond_true rfl ?_
                      refine wp_seq ?_
                      refine wp_region_lit ?_
                      refine s_val 144 rfl rfl (.slice so2 su2.length sc2) (rfl) ?_
                      refine nr ?_; intro U h; simp only [z0, z1] at h; subst h
                      refine s_val 145 rfl rfl (.agg (itA (l.getD at2 zM))) (ldIt0 _ rfl g1 rfl (kg1)) ?_
                      refine nr ?_; intro U h; simp only [z0, z1] at h; subst h
                      refine s_bsl 146 rfl rfl 45 1 _ rfl [(0, .agg (itA (l.getD at2 zM)))] rfl ([(l.getD at2 zM)].flatMap kM.E).toArray 56 (bsM _ _) ?_
                      intro w10 q146 G eq2 kq2
                      replace kg1 := G.has kg1
                      replace HSu := HSu.gro G
                      replace HTr := HTr.gro G
                      replace GV := GV.gro G
                      replace GG := GG.trans G
                      clear G
                      have HQ : RK kM w10 (some ⟨q146, 0, none⟩) 1 [(l.getD at2 zM)] := RK.blk kq2 (one_all hxo) (Nat.le_refl _)
                      clear eq2 kq2
                      refine nr ?_; intro U h; simp only [z0, z1] at h; subst h
                      refine s_appK rM (by decide) 147 rfl rfl _ _ rfl rfl HSu (l' := [(l.getD at2 zM)]) rfl HQ (by simp only [List.length_singleton]; omega) GG.size ?_
                      intro ar147 cr147 w11 HT2 G hKp
                      replace kg1 := G.has kg1 (dHSug1)
                      have HVy := (HV.gro GV).gros G (fun k hk => by
                        obtain ⟨cur, hc, _⟩ := HSu.blkt hk
                        exact ⟨(HV.gro GV).nin hc (by decide), (HV.gro GV).nrow hc (by decide)⟩)
                      have hapO := apart_sym hap
                      replace hap := apart_sym (apart_kept HTr hapO hKp)
                      replace HTr := HTr.gros G hapO
                      clear hapO
                      replace GG := G.gro GG (fun k hk => (HSu.blkt hk).choose_spec.2)
                      clear GV HSu G HQ hKp
                      have HSu := HT2
                      clear HT2
                      have HVz := HVy
                      clear HVy
                      have GV3 := Gro.refl w11
                      refine nr ?_; intro U h; simp only [z0, z1] at h; subst h
                      refine s_val 6 rfl rfl (.slice ar147 (su2 ++ [(l.getD at2 zM)]).length cr147) (rfl) ?_
                      refine nr ?_; intro U h; simp only [z0, z1] at h; subst h
                      refine wpList_nil ?_
                      refine then_n ?_
                      refine wp_region_lit ?_
                      refine s_val 148 rfl rfl (.slice to2 tr2.length tc2) (rfl) ?_
                      refine nr ?_; intro U h; simp only [z0, z1] at h; subst h
                      refine s_val 149 rfl rfl (.agg (itA (l.getD at2 zM))) (ldIt0 _ rfl g1 rfl (kg1)) ?_
                      refine nr ?_; intro U h; simp only [z0, z1] at h; subst h
                      refine s_bsl 150 rfl rfl 45 1 _ rfl [(0, .agg (itA (l.getD at2 zM)))] rfl ([(l.getD at2 zM)].flatMap kM.E).toArray 56 (bsM _ _) ?_
                      intro w12 q150 G eq2 kq2
                      replace kg1 := G.has kg1
                      replace HSu := HSu.gro G
                      replace HTr := HTr.gro G
                      replace GV3 := GV3.gro G
                      replace GG := GG.trans G
                      clear G
                      have HQ : RK kM w12 (some ⟨q150, 0, none⟩) 1 [(l.getD at2 zM)] := RK.blk kq2 (one_all hxo) (Nat.le_refl _)
                      clear eq2 kq2
                      refine nr ?_; intro U h; simp only [z0, z1] at h; subst h
                      refine s_appK rM (by decide) 151 rfl rfl _ _ rfl rfl HTr (l' := [(l.getD at2 zM)]) rfl HQ (by simp only [List.length_singleton]; omega) GG.size ?_
                      intro ar151 cr151 w13 HT2 G hKp
                      replace kg1 := G.has kg1 (dHTrg1)
                      have HVy := (HVz.gro GV3).gros G (fun k hk => by
                        obtain ⟨cur, hc, _⟩ := HTr.blkt hk
                        exact ⟨(HVz.gro GV3).nin hc (by decide), (HVz.gro GV3).nrow hc (by decide)⟩)
                      have hapO := hap
                      replace hap := apart_kept HSu hapO hKp
                      replace HSu := HSu.gros G hapO
                      clear hapO
                      replace GG := G.gro GG (fun k hk => (HTr.blkt hk).choose_spec.2)
                      clear GV3 HTr G HQ hKp HVz
                      have HTr := HT2
                      clear HT2
                      have HVz := HVy
                      clear HVy
                      have GV3 := Gro.refl w13
                      refine nr ?_; intro U h; simp only [z0, z1] at h; subst h
                      refine s_val 7 rfl rfl (.slice ar151 (tr2 ++ [(l.getD at2 zM)]).length cr151) (rfl) ?_
                      refine nr ?_; intro U h; simp only [z0, z1] at h; subst h
                      refine wpList_nil ?_
                      refine blk_n ?_
                      refine then_n ?_
                      refine wp_region_lit ?_
                      refine s_val 84 rfl rfl (.int .i64 ((at2 : Nat) : Int)) (rfl) ?_
                      refine nr ?_; intro U h; simp only [z0, z1] at h; subst h
                      refine s_val 85 rfl rfl (.int .i64 ((at2 + 1 : Nat) : Int)) (run_addI 3 _ _ _ rfl ((at2 : Nat) : Int) 1 ((at2 + 1 : Nat) : Int) rfl rfl (by omega) (by omega) (by omega) _) ?_
                      refine nr ?_; intro U h; simp only [z0, z1] at h; subst h
                      refine s_val 8 rfl rfl (.int .i64 ((at2 + 1 : Nat) : Int)) (rfl) ?_
                      refine nr ?_; intro U h; simp only [z0, z1] at h; subst h
                      refine wpList_nil ?_
                      refine then_n ?_
                      exact ⟨_, by omega, at2 + 1, L3, pw3, dn3, h3, _, _, M, false, (su2 ++ [(l.getD at2 zM)]), _, _, (tr2 ++ [(l.getD at2 zM)]), _, _, (fun kz => ([.pointer (some ⟨g1, 0, none⟩), us3 1, us3 2, us3 3, us3 4, .bool false, .int .i64 0, .int .i64 ((at2 : Nat) : Int), .slice ao l.length cap, .int .i64 ((l.length : Nat) : Int), .bool true, .bool true, .int .i64 ((at2 : Nat) : Int), .bool true, .bool true, .bool true, .pointer (some ⟨vp, 0, none⟩), .bool false, .bool true, .bool true, .int .i64 ((at2 : Nat) : Int), .int .i64 ((at2 + 1 : Nat) : Int), .slice ao l.length cap, .int .i64 ((at2 : Nat) : Int), .pointer (pK kM ao at2 0), .agg (itA (l.getD at2 zM)), .pointer (some ⟨g1, 16, none⟩), .pointer (some ⟨g1, 16, none⟩), .int .i64 (l.getD at2 zM).n, .int .i64 ((l.getD at2 zM).n.tmod 2), .bool false, us3 31, us3 32, us3 33, us3 34, us3 35, us3 36, us3 37, us3 38, us3 39, us3 40, us3 41, us3 42, us3 43, us3 44, us3 45, us3 46, us3 47, us3 48, us3 49, us3 50, us3 51, us3 52, us3 53, us3 54, us3 55, us3 56, us3 57, us3 58, us3 59, us3 60, us3 61, us3 62, us3 63, us3 64, us3 65, us3 66, us3 67, us3 68, us3 69, us3 70, us3 71, .tuple #[.bool false, .int .i64 0], .pointer (some ⟨vp, 0, none⟩), .agg (itA (l.getD at2 zM)), .tuple #[.bool false, .int .i64 0], .bool false, .int .i64 0, .int .i64 0, .bool true, .slice so2 su2.length sc2, .agg (itA (l.getD at2 zM)), .slice (some ⟨q146, 0, none⟩) 1 1, .slice ar147 (su2 ++ [(l.getD at2 zM)]).length cr147, .slice to2 tr2.length tc2, .agg (itA (l.getD at2 zM)), .slice (some ⟨q150, 0, none⟩) 1 1, .slice ar151 (tr2 ++ [(l.getD at2 zM)]).length cr151, us3 88, us3 89, us3 90, us3 91] : List Value).getD kz undef), rfl, rfl, GG, HVz.gro GV3, HP, hP, ⟨by omega, by omega, by omega, by omega, by omega, by omega, by rw [List.length_append]; simp only [List.length_singleton]; omega, by rw [List.length_append]; simp only [List.length_singleton]; omega⟩, HSu, HTr, hap, snoc_all hsn (by omega), snoc_all htv hxn, by rw [map_it_snoc]; exact HP.stay hn0 (by omega) hq hsu, by rw [map_it_snoc]; exact htr.more _⟩
                    · skip
                      have hito := it_ok hxo (by omega) (by omega) (by omega) hxn.lt256
                      have hfl := form_len hito
                      have hs2 := sec_109 hfl
                      obtain ⟨err, L4, pw4, h4, dw4, rs4, HA4, SA4⟩ := append_a 900 L3 pw3 h3 false rs3 (formV (l.getD at2 zM).it) HP.good hP (by omega) (by decide)
                      have hg4 := HA4.g
                      have hu4 := HA4.u
                      rcases HA4.res with ⟨rfl, hrs⟩ | ⟨he1, hrs⟩
                      · clear hrs
                        refine wp_region_lit ?_
                        refine s_val 137 rfl rfl (.pointer (some ⟨vp, 0, none⟩)) (rfl) ?_
                        refine nr ?_; intro U h; simp only [z0, z1] at h; subst h
                        refine s_val 138 rfl rfl (.agg (itA (l.getD at2 zM))) (ldIt0 _ rfl g1 rfl (kg1)) ?_
                        refine nr ?_; intro U h; simp only [z0, z1] at h; subst h
                        have szz4 := GG.size
                        refine s_callx 139 rfl rfl _ 29 Try.call29 rfl rfl _ rfl [.pointer (some ⟨vp, 0, none⟩), .agg (itA (l.getD at2 zM))] rfl ((merge_go [vp, lp, mb, p, sg] _ vp lp p sg mb 900 L3 pw3 dn3 h3 false ((c + 1 : Nat) : Int) M HVo (l.getD at2 zM) hxo (by omega) (by omega) (by omega) hq ⟨hxn.gro GG, fun ad ha h0 hk => by (have := hxn.lt ad ha h0; simp only [List.mem_cons, List.not_mem_nil, or_false] at hk; omega)⟩ rs3 0 L4 pw4 h4 dw4 rs4 HA4 SA4 (by omega) (by omega)).mono fun e w' h => h.yes) (by rintro _ _ ⟨_, _, _, he, _, _, _, _⟩; exact ⟨_, he⟩) ?_
                        rintro v w9 ⟨dn4, ao5, cap5, he, G, HV2, hd5, hd6⟩
                        cases he
                        replace kg1 := G.has kg1 (HVo.nin kg1 (by decide))
                        replace HSu := HVo.keepW G HSu
                        replace HTr := HVo.keepW G HTr
                        replace GG := G.gro GG (fun k hk => by simp only [List.mem_cons, List.not_mem_nil, or_false] at hk; omega)
                        have GV2 := Gro.refl w9
                        clear GV
                        refine nr ?_; intro U h; simp only [z0, z1] at h; subst h
                        refine s_val 136 rfl rfl (.tuple #[.bool true, .int .i64 0]) (rfl) ?_
                        refine nr ?_; intro U h; simp only [z0, z1] at h; subst h
                        refine s_val 140 rfl rfl (.bool true) (rfl) ?_
                        refine nr ?_; intro U h; simp only [z0, z1] at h; subst h
                        refine s_val 141 rfl rfl (.int .i64 0) (rfl) ?_
                        refine nr ?_; intro U h; simp only [z0, z1] at h; subst h
                        refine s_val 17 rfl rfl (.bool true) (rfl) ?_
                        refine nr ?_; intro U h; simp only [z0, z1] at h; subst h
                        refine s_val 18 rfl rfl (.int .i64 0) (rfl) ?_
                        refine nr ?_; intro U h; simp only [z0, z1] at h; subst h
                        refine wpList_nil ?_
                        refine then_n ?_
                        refine wp_seq ?_
                        refine wp_region_lit ?_
                        refine s_val 142 rfl rfl (.int .i64 0) (rfl) ?_
                        refine nr ?_; intro U h; simp only [z0, z1] at h; subst h
                        refine s_val 143 rfl rfl (.bool true) (run_eq_k 26 .i64 _ _ _ rfl Try.underlying26 0 0 rfl rfl true (decide_eq_true rfl) _) ?_
                        refine nr ?_; intro U h; simp only [z0, z1] at h; subst h
                        refine wpList_nil ?_
                        refine then_n ?_
                        refine wp_cond_true rfl ?_
                        refine wp_seq ?_
                        refine wp_region_lit ?_
                        refine s_val 144 rfl rfl (.slice so2 su2.length sc2) (rfl) ?_
                        refine nr ?_; intro U h; simp only [z0, z1] at h; subst h
                        refine s_val 145 rfl rfl (.agg (itA (l.getD at2 zM))) (ldIt0 _ rfl g1 rfl (kg1)) ?_
                        refine nr ?_; intro U h; simp only [z0, z1] at h; subst h
                        refine s_bsl 146 rfl rfl 45 1 _ rfl [(0, .agg (itA (l.getD at2 zM)))] rfl ([(l.getD at2 zM)].flatMap kM.E).toArray 56 (bsM _ _) ?_
                        intro w10 q146 G eq2 kq2
                        replace kg1 := G.has kg1
                        replace HSu := HSu.gro G
                        replace HTr := HTr.gro G
                        replace GV2 := GV2.gro G
                        replace GG := GG.trans G
                        clear G
                        have HQ : RK kM w10 (some ⟨q146, 0, none⟩) 1 [(l.getD at2 zM)] := RK.blk kq2 (one_all hxo) (Nat.le_refl _)
                        clear eq2 kq2
                        refine nr ?_; intro U h; simp only [z0, z1] at h; subst h
                        refine s_appK rM (by decide) 147 rfl rfl _ _ rfl rfl HSu (l' := [(l.getD at2 zM)]) rfl HQ (by simp only [List.length_singleton]; omega) GG.size ?_
                        intro ar147 cr147 w11 HT2 G hKp
                        replace kg1 := G.has kg1 (dHSug1)
                        have HVy := (HV2.gro GV2).gros G (fun k hk => by
                          obtain ⟨cur, hc, _⟩ := HSu.blkt hk
                          exact ⟨(HV2.gro GV2).nin hc (by decide), (HV2.gro GV2).nrow hc (by decide)⟩)
                        have hapO := apart_sym hap
                        replace hap := apart_sym (apart_kept HTr hapO hKp)
                        replace HTr := HTr.gros G hapO
                        clear hapO
                        replace GG := G.gro GG (fun k hk => (HSu.blkt hk).choose_spec.2)
                        clear GV2 HSu G HQ hKp
                        have HSu := HT2
                        clear HT2
                        have HVz := HVy
                        clear HVy
                        have GV3 := Gro.refl w11
                        refine nr ?_; intro U h; simp only [z0, z1] at h; subst h
                        refine s_val 6 rfl rfl (.slice ar147 (su2 ++ [(l.getD at2 zM)]).length cr147) (rfl) ?_
                        refine nr ?_; intro U h; simp only [z0, z1] at h; subst h
                        refine wpList_nil ?_
                        refine then_n ?_
                        refine wp_region_lit ?_
                        refine s_val 148 rfl rfl (.slice to2 tr2.length tc2) (rfl) ?_
                        refine nr ?_; intro U h; simp only [z0, z1] at h; subst h
                        refine s_val 149 rfl rfl (.agg (itA (l.getD at2 zM))) (ldIt0 _ rfl g1 rfl (kg1)) ?_
                        refine nr ?_; intro U h; simp only [z0, z1] at h; subst h
                        refine s_bsl 150 rfl rfl 45 1 _ rfl [(0, .agg (itA (l.getD at2 zM)))] rfl ([(l.getD at2 zM)].flatMap kM.E).toArray 56 (bsM _ _) ?_
                        intro w12 q150 G eq2 kq2
                        replace kg1 := G.has kg1
                        replace HSu := HSu.gro G
                        replace HTr := HTr.gro G
                        replace GV3 := GV3.gro G
                        replace GG := GG.trans G
                        clear G
                        have HQ : RK kM w12 (some ⟨q150, 0, none⟩) 1 [(l.getD at2 zM)] := RK.blk kq2 (one_all hxo) (Nat.le_refl _)
                        clear eq2 kq2
                        refine nr ?_; intro U h; simp only [z0, z1] at h; subst h
                        refine s_appK rM (by decide) 151 rfl rfl _ _ rfl rfl HTr (l' := [(l.getD at2 zM)]) rfl HQ (by simp only [List.length_singleton]; omega) GG.size ?_
                        intro ar151 cr151 w13 HT2 G hKp
                        replace kg1 := G.has kg1 (dHTrg1)
                        have HVy := (HVz.gro GV3).gros G (fun k hk => by
                          obtain ⟨cur, hc, _⟩ := HTr.blkt hk
                          exact ⟨(HVz.gro GV3).nin hc (by decide), (HVz.gro GV3).nrow hc (by decide)⟩)
                        have hapO := hap
                        replace hap := apart_kept HSu hapO hKp
                        replace HSu := HSu.gros G hapO
                        clear hapO
                        replace GG := G.gro GG (fun k hk => (HTr.blkt hk).choose_spec.2)
                        clear GV3 HTr G HQ hKp HVz
                        have HTr := HT2
                        clear HT2
                        have HVz := HVy
                        clear HVy
                        have GV3 := Gro.refl w13
                        refine nr ?_; intro U h; simp only [z0, z1] at h; subst h
                        refine s_val 7 rfl rfl (.slice ar151 (tr2 ++ [(l.getD at2 zM)]).length cr151) (rfl) ?_
                        refine nr ?_; intro U h; simp only [z0, z1] at h; subst h
                        refine wpList_nil ?_
                        refine blk_n ?_
                        refine then_n ?_
                        refine wp_region_lit ?_
                        refine s_val 84 rfl rfl (.int .i64 ((at2 : Nat) : Int)) (rfl) ?_
                        refine nr ?_; intro U h; simp only [z0, z1] at h; subst h
                        refine s_val 85 rfl rfl (.int .i64 ((at2 + 1 : Nat) : Int)) (run_addI 3 _ _ _ rfl ((at2 : Nat) : Int) 1 ((at2 + 1 : Nat) : Int) rfl rfl (by omega) (by omega) (by omega) _) ?_
                        refine nr ?_; intro U h; simp only [z0, z1] at h; subst h
                        refine s_val 8 rfl rfl (.int .i64 ((at2 + 1 : Nat) : Int)) (rfl) ?_
                        refine nr ?_; intro U h; simp only [z0, z1] at h; subst h
                        refine wpList_nil ?_
                        refine then_n ?_
                        exact ⟨_, by omega, at2 + 1, L4, pw4, dn4, h4, _, _, _, dw4, (su2 ++ [(l.getD at2 zM)]), _, _, (tr2 ++ [(l.getD at2 zM)]), _, _, (fun kz => ([.pointer (some ⟨g1, 0, none⟩), us3 1, us3 2, us3 3, us3 4, .bool true, .int .i64 0, .int .i64 ((at2 : Nat) : Int), .slice ao l.length cap, .int .i64 ((l.length : Nat) : Int), .bool true, .bool true, .int .i64 ((at2 : Nat) : Int), .bool true, .bool true, .bool true, .pointer (some ⟨vp, 0, none⟩), .bool false, .bool true, .bool true, .int .i64 ((at2 : Nat) : Int), .int .i64 ((at2 + 1 : Nat) : Int), .slice ao l.length cap, .int .i64 ((at2 : Nat) : Int), .pointer (pK kM ao at2 0), .agg (itA (l.getD at2 zM)), .pointer (some ⟨g1, 16, none⟩), .pointer (some ⟨g1, 16, none⟩), .int .i64 (l.getD at2 zM).n, .int .i64 ((l.getD at2 zM).n.tmod 2), .bool false, us3 31, us3 32, us3 33, us3 34, us3 35, us3 36, us3 37, us3 38, us3 39, us3 40, us3 41, us3 42, us3 43, us3 44, us3 45, us3 46, us3 47, us3 48, us3 49, us3 50, us3 51, us3 52, us3 53, us3 54, us3 55, us3 56, us3 57, us3 58, us3 59, us3 60, us3 61, us3 62, us3 63, us3 64, us3 65, us3 66, us3 67, us3 68, us3 69, us3 70, us3 71, .tuple #[.bool true, .int .i64 0], .pointer (some ⟨vp, 0, none⟩), .agg (itA (l.getD at2 zM)), .tuple #[.bool true, .int .i64 0], .bool true, .int .i64 0, .int .i64 0, .bool true, .slice so2 su2.length sc2, .agg (itA (l.getD at2 zM)), .slice (some ⟨q146, 0, none⟩) 1 1, .slice ar147 (su2 ++ [(l.getD at2 zM)]).length cr147, .slice to2 tr2.length tc2, .agg (itA (l.getD at2 zM)), .slice (some ⟨q150, 0, none⟩) 1 1, .slice ar151 (tr2 ++ [(l.getD at2 zM)]).length cr151, us3 88, us3 89, us3 90, us3 91] : List Value).getD kz undef), rfl, rfl, GG, HVz.gro GV3, HP.item HV.vb.map.kn hn0 hito (by omega) hq HA4.yes ao5 cap5, HA4.okp, ⟨by omega, by omega, by omega, by omega, by omega, by omega, by rw [List.length_append]; simp only [List.length_singleton]; omega, by rw [List.length_append]; simp only [List.length_singleton]; omega⟩, HSu, HTr, hap, snoc_all hsn (by omega), snoc_all htv hxn, by rw [map_it_snoc]; exact hsu.take HP.sk (l.getD at2 zM).it, by rw [map_it_snoc]; exact htr.take (l.getD at2 zM).it⟩
                      · clear hrs
                        have t7 : decide (err = 0) = false := decide_eq_false he1
                        refine wp_region_lit ?_
                        refine s_val 137 rfl rfl (.pointer (some ⟨vp, 0, none⟩)) (rfl) ?_
                        refine nr ?_; intro U h; simp only [z0, z1] at h; subst h
                        refine s_val 138 rfl rfl (.agg (itA (l.getD at2 zM))) (ldIt0 _ rfl g1 rfl (kg1)) ?_
                        refine nr ?_; intro U h; simp only [z0, z1] at h; subst h
                        have szz4 := GG.size
                        refine s_callx 139 rfl rfl _ 29 Try.call29 rfl rfl _ rfl [.pointer (some ⟨vp, 0, none⟩), .agg (itA (l.getD at2 zM))] rfl ((merge_go [vp, lp, mb, p, sg] _ vp lp p sg mb 900 L3 pw3 dn3 h3 false ((c + 1 : Nat) : Int) M HVo (l.getD at2 zM) hxo (by omega) (by omega) (by omega) hq ⟨hxn.gro GG, fun ad ha h0 hk => by (have := hxn.lt ad ha h0; simp only [List.mem_cons, List.not_mem_nil, or_false] at hk; omega)⟩ rs3 err L4 pw4 h4 dw4 rs4 HA4 SA4 (by omega) (by omega)).mono fun e w' h => h.no he1) (by rintro _ _ ⟨_, he, _, _, _, _⟩; exact ⟨_, he⟩) ?_
                        rintro v w9 ⟨dn4, he, G, HV2, hd5, hd6⟩
                        cases he
                        replace kg1 := G.has kg1 (HVo.nin kg1 (by decide))
                        replace HSu := HVo.keepW G HSu
                        replace HTr := HVo.keepW G HTr
                        replace GG := G.gro GG (fun k hk => by simp only [List.mem_cons, List.not_mem_nil, or_false] at hk; omega)
                        have GV2 := Gro.refl w9
                        clear GV
                        refine nr ?_; intro U h; simp only [z0, z1] at h; subst h
                        refine s_val 136 rfl rfl (.tuple #[.bool false, .int .i64 err]) (rfl) ?_
                        refine nr ?_; intro U h; simp only [z0, z1] at h; subst h
                        refine s_val 140 rfl rfl (.bool false) (rfl) ?_
                        refine nr ?_; intro U h; simp only [z0, z1] at h; subst h
                        refine s_val 141 rfl rfl (.int .i64 err) (rfl) ?_
                        refine nr ?_; intro U h; simp only [z0, z1] at h; subst h
                        refine s_val 17 rfl rfl (.bool false) (rfl) ?_
                        refine nr ?_; intro U h; simp only [z0, z1] at h; subst h
                        refine s_val 18 rfl rfl (.int .i64 err) (rfl) ?_
                        refine nr ?_; intro U h; simp only [z0, z1] at h; subst h
                        refine wpList_nil ?_
                        refine then_n ?_
                        refine wp_seq ?_
                        refine wp_region_lit ?_
                        refine s_val 142 rfl rfl (.int .i64 err) (rfl) ?_
                        refine nr ?_; intro U h; simp only [z0, z1] at h; subst h
                        refine s_val 143 rfl rfl (.bool false) (run_eq_k 26 .i64 _ _ _ rfl Try.underlying26 err 0 rfl rfl false t7 _) ?_
                        refine nr ?_; intro U h; simp only [z0, z1] at h; subst h
                        refine wpList_nil ?_
                        refine then_n ?_
                        refine wp_cond_false rfl ?_
                        refine wp_region_lit ?_
                        refine s_val 152 rfl rfl (.slice to2 tr2.length tc2) (rfl) ?_
                        refine nr ?_; intro U h; simp only [z0, z1] at h; subst h
                        refine s_val 153 rfl rfl (.agg (itA (l.getD at2 zM))) (ldIt0 _ rfl g1 rfl (kg1)) ?_
                        refine nr ?_; intro U h; simp only [z0, z1] at h; subst h
                        refine s_bsl 154 rfl rfl 45 1 _ rfl [(0, .agg (itA (l.getD at2 zM)))] rfl ([(l.getD at2 zM)].flatMap kM.E).toArray 56 (bsM _ _) ?_
                        intro w10 q154 G eq2 kq2
                        replace kg1 := G.has kg1
                        replace HSu := HSu.gro G
                        replace HTr := HTr.gro G
                        replace GV2 := GV2.gro G
                        replace GG := GG.trans G
                        clear G
                        have HQ : RK kM w10 (some ⟨q154, 0, none⟩) 1 [(l.getD at2 zM)] := RK.blk kq2 (one_all hxo) (Nat.le_refl _)
                        clear eq2 kq2
                        refine nr ?_; intro U h; simp only [z0, z1] at h; subst h
                        refine s_appK rM (by decide) 155 rfl rfl _ _ rfl rfl HTr (l' := [(l.getD at2 zM)]) rfl HQ (by simp only [List.length_singleton]; omega) GG.size ?_
                        intro ar155 cr155 w11 HT2 G hKp
                        replace kg1 := G.has kg1 (dHTrg1)
                        have HVy := (HV2.gro GV2).gros G (fun k hk => by
                          obtain ⟨cur, hc, _⟩ := HTr.blkt hk
                          exact ⟨(HV2.gro GV2).nin hc (by decide), (HV2.gro GV2).nrow hc (by decide)⟩)
                        have hapO := hap
                        replace hap := apart_kept HSu hapO hKp
                        replace HSu := HSu.gros G hapO
                        clear hapO
                        replace GG := G.gro GG (fun k hk => (HTr.blkt hk).choose_spec.2)
                        clear GV2 HTr G HQ hKp
                        have HTr := HT2
                        clear HT2
                        have HVz := HVy
                        clear HVy
                        have GV3 := Gro.refl w11
                        refine nr ?_; intro U h; simp only [z0, z1] at h; subst h
                        refine s_val 7 rfl rfl (.slice ar155 (tr2 ++ [(l.getD at2 zM)]).length cr155) (rfl) ?_
                        refine nr ?_; intro U h; simp only [z0, z1] at h; subst h
                        refine wpList_nil ?_
                        refine blk_n ?_
                        refine then_n ?_
                        refine wp_region_lit ?_
                        refine s_val 84 rfl rfl (.int .i64 ((at2 : Nat) : Int)) (rfl) ?_
                        refine nr ?_; intro U h; simp only [z0, z1] at h; subst h
                        refine s_val 85 rfl rfl (.int .i64 ((at2 + 1 : Nat) : Int)) (run_addI 3 _ _ _ rfl ((at2 : Nat) : Int) 1 ((at2 + 1 : Nat) : Int) rfl rfl (by omega) (by omega) (by omega) _) ?_
                        refine nr ?_; intro U h; simp only [z0, z1] at h; subst h
                        refine s_val 8 rfl rfl (.int .i64 ((at2 + 1 : Nat) : Int)) (rfl) ?_
                        refine nr ?_; intro U h; simp only [z0, z1] at h; subst h
                        refine wpList_nil ?_
                        refine then_n ?_
                        exact ⟨_, by omega, at2 + 1, L4, pw4, dn4, h4, _, _, M, dw4, su2, _, _, (tr2 ++ [(l.getD at2 zM)]), _, _, (fun kz => ([.pointer (some ⟨g1, 0, none⟩), us3 1, us3 2, us3 3, us3 4, .bool false, .int .i64 err, .int .i64 ((at2 : Nat) : Int), .slice ao l.length cap, .int .i64 ((l.length : Nat) : Int), .bool true, .bool true, .int .i64 ((at2 : Nat) : Int), .bool true, .bool true, .bool true, .pointer (some ⟨vp, 0, none⟩), .bool false, .bool true, .bool true, .int .i64 ((at2 : Nat) : Int), .int .i64 ((at2 + 1 : Nat) : Int), .slice ao l.length cap, .int .i64 ((at2 : Nat) : Int), .pointer (pK kM ao at2 0), .agg (itA (l.getD at2 zM)), .pointer (some ⟨g1, 16, none⟩), .pointer (some ⟨g1, 16, none⟩), .int .i64 (l.getD at2 zM).n, .int .i64 ((l.getD at2 zM).n.tmod 2), .bool false, us3 31, us3 32, us3 33, us3 34, us3 35, us3 36, us3 37, us3 38, us3 39, us3 40, us3 41, us3 42, us3 43, us3 44, us3 45, us3 46, us3 47, us3 48, us3 49, us3 50, us3 51, us3 52, us3 53, us3 54, us3 55, us3 56, us3 57, us3 58, us3 59, us3 60, us3 61, us3 62, us3 63, us3 64, us3 65, us3 66, us3 67, us3 68, us3 69, us3 70, us3 71, .tuple #[.bool false, .int .i64 err], .pointer (some ⟨vp, 0, none⟩), .agg (itA (l.getD at2 zM)), .tuple #[.bool false, .int .i64 err], .bool false, .int .i64 err, .int .i64 err, .bool false, us3 80, us3 81, us3 82, us3 83, us3 84, us3 85, us3 86, us3 87, .slice to2 tr2.length tc2, .agg (itA (l.getD at2 zM)), .slice (some ⟨q154, 0, none⟩) 1 1, .slice ar155 (tr2 ++ [(l.getD at2 zM)]).length cr155] : List Value).getD kz undef), rfl, rfl, GG, HVz.gro GV3, HP.fail (HA4.no he1), HA4.okp, ⟨by omega, by omega, by omega, by omega, by omega, by omega, by omega, by rw [List.length_append]; simp only [List.length_singleton]; omega⟩, HSu, HTr, hap, hsn, snoc_all htv hxn, hsu, by rw [map_it_snoc]; exact htr.more _⟩
                  · have hl1 := of_decide_eq_true hl
                    refine wp_region_lit ?_
                    refine s_val 137 rfl rfl (.pointer (some ⟨vp, 0, none⟩)) (rfl) ?_
                    refine nr ?_; intro U h; simp only [z0, z1] at h; subst h
                    refine s_val 138 rfl rfl (.agg (itA (l.getD at2 zM))) (ldIt0 _ rfl g1 rfl (kg1)) ?_
                    refine nr ?_; intro U h; simp only [z0, z1] at h; subst h
                    refine s_callv 139 rfl rfl _ 29 Try.call29 rfl rfl _ rfl [.pointer (some ⟨vp, 0, none⟩), .agg (itA (l.getD at2 zM))] rfl (merge_long [vp, lp, mb, p, sg] _ vp lp p sg mb 900 L3 pw3 dn3 h3 false ((c + 1 : Nat) : Int) M HVo (l.getD at2 zM) (by omega) (by omega) (by omega)) ?_
                    intro w9 G
                    replace kg1 := G.has kg1
                    replace HSu := HSu.gro G
                    replace HTr := HTr.gro G
                    replace GV := GV.gro G
                    replace GG := GG.trans G
                    clear G
                    refine nr ?_; intro U h; simp only [z0, z1] at h; subst h
                    refine s_val 136 rfl rfl (.tuple #[.bool false, .int .i64 4]) (rfl) ?_
                    refine nr ?_; intro U h; simp only [z0, z1] at h; subst h
                    refine s_val 140 rfl rfl (.bool false) (rfl) ?_
                    refine nr ?_; intro U h; simp only [z0, z1] at h; subst h
                    refine s_val 141 rfl rfl (.int .i64 4) (rfl) ?_
                    refine nr ?_; intro U h; simp only [z0, z1] at h; subst h
                    refine s_val 17 rfl rfl (.bool false) (rfl) ?_
                    refine nr ?_; intro U h; simp only [z0, z1] at h; subst h
                    refine s_val 18 rfl rfl (.int .i64 4) (rfl) ?_
                    refine nr ?_; intro U h; simp only [z0, z1] at h; subst h
                    refine wpList_nil ?_
                    refine then_n ?_
                    refine wp_seq ?_
                    refine wp_region_lit ?_
                    refine s_val 142 rfl rfl (.int .i64 4) (rfl) ?_
                    refine nr ?_; intro U h; simp only [z0, z1] at h; subst h
                    refine s_val 143 rfl rfl (.bool false) (run_eq_k 26 .i64 _ _ _ rfl Try.underlying26 4 0 rfl rfl false (by decide) _) ?_
                    refine nr ?_; intro U h; simp only [z0, z1] at h; subst h
                    refine wpList_nil ?_
                    refine then_n ?_
                    refine wp_cond_false rfl ?_
                    refine wp_region_lit ?_
                    refine s_val 152 rfl rfl (.slice to2 tr2.length tc2) (rfl) ?_
                    refine nr ?_; intro U h; simp only [z0, z1] at h; subst h
                    refine s_val 153 rfl rfl (.agg (itA (l.getD at2 zM))) (ldIt0 _ rfl g1 rfl (kg1)) ?_
                    refine nr ?_; intro U h; simp only [z0, z1] at h; subst h
                    refine s_bsl 154 rfl rfl 45 1 _ rfl [(0, .agg (itA (l.getD at2 zM)))] rfl ([(l.getD at2 zM)].flatMap kM.E).toArray 56 (bsM _ _) ?_
                    intro w10 q154 G eq2 kq2
                    replace kg1 := G.has kg1
                    replace HSu := HSu.gro G
                    replace HTr := HTr.gro G
                    replace GV := GV.gro G
                    replace GG := GG.trans G
                    clear G
                    have HQ : RK kM w10 (some ⟨q154, 0, none⟩) 1 [(l.getD at2 zM)] := RK.blk kq2 (one_all hxo) (Nat.le_refl _)
                    clear eq2 kq2
                    refine nr ?_; intro U h; simp only [z0, z1] at h; subst h
                    refine s_appK rM (by decide) 155 rfl rfl _ _ rfl rfl HTr (l' := [(l.getD at2 zM)]) rfl HQ (by simp only [List.length_singleton]; omega) GG.size ?_
                    intro ar155 cr155 w11 HT2 G hKp
                    replace kg1 := G.has kg1 (dHTrg1)
                    have HVy := (HV.gro GV).gros G (fun k hk => by
                      obtain ⟨cur, hc, _⟩ := HTr.blkt hk
                      exact ⟨(HV.gro GV).nin hc (by decide), (HV.gro GV).nrow hc (by decide)⟩)
                    have hapO := hap
                    replace hap := apart_kept HSu hapO hKp
                    replace HSu := HSu.gros G hapO
                    clear hapO
                    replace GG := G.gro GG (fun k hk => (HTr.blkt hk).choose_spec.2)
                    clear GV HTr G HQ hKp
                    have HTr := HT2
                    clear HT2
                    have HVz := HVy
                    clear HVy
                    have GV3 := Gro.refl w11
                    refine nr ?_; intro U h; simp only [z0, z1] at h; subst h
                    refine s_val 7 rfl rfl (.slice ar155 (tr2 ++ [(l.getD at2 zM)]).length cr155) (rfl) ?_
                    refine nr ?_; intro U h; simp only [z0, z1] at h; subst h
                    refine wpList_nil ?_
                    refine blk_n ?_
                    refine then_n ?_
                    refine wp_region_lit ?_
                    refine s_val 84 rfl rfl (.int .i64 ((at2 : Nat) : Int)) (rfl) ?_
                    refine nr ?_; intro U h; simp only [z0, z1] at h; subst h
                    refine s_val 85 rfl rfl (.int .i64 ((at2 + 1 : Nat) : Int)) (run_addI 3 _ _ _ rfl ((at2 : Nat) : Int) 1 ((at2 + 1 : Nat) : Int) rfl rfl (by omega) (by omega) (by omega) _) ?_
                    refine nr ?_; intro U h; simp only [z0, z1] at h; subst h
                    refine s_val 8 rfl rfl (.int .i64 ((at2 + 1 : Nat) : Int)) (rfl) ?_
                    refine nr ?_; intro U h; simp only [z0, z1] at h; subst h
                    refine wpList_nil ?_
                    refine then_n ?_
                    exact ⟨_, by omega, at2 + 1, L3, pw3, dn3, h3, _, _, M, false, su2, _, _, (tr2 ++ [(l.getD at2 zM)]), _, _, (fun kz => ([.pointer (some ⟨g1, 0, none⟩), us3 1, us3 2, us3 3, us3 4, .bool false, .int .i64 4, .int .i64 ((at2 : Nat) : Int), .slice ao l.length cap, .int .i64 ((l.length : Nat) : Int), .bool true, .bool true, .int .i64 ((at2 : Nat) : Int), .bool true, .bool true, .bool true, .pointer (some ⟨vp, 0, none⟩), .bool false, .bool true, .bool true, .int .i64 ((at2 : Nat) : Int), .int .i64 ((at2 + 1 : Nat) : Int), .slice ao l.length cap, .int .i64 ((at2 : Nat) : Int), .pointer (pK kM ao at2 0), .agg (itA (l.getD at2 zM)), .pointer (some ⟨g1, 16, none⟩), .pointer (some ⟨g1, 16, none⟩), .int .i64 (l.getD at2 zM).n, .int .i64 ((l.getD at2 zM).n.tmod 2), .bool false, us3 31, us3 32, us3 33, us3 34, us3 35, us3 36, us3 37, us3 38, us3 39, us3 40, us3 41, us3 42, us3 43, us3 44, us3 45, us3 46, us3 47, us3 48, us3 49, us3 50, us3 51, us3 52, us3 53, us3 54, us3 55, us3 56, us3 57, us3 58, us3 59, us3 60, us3 61, us3 62, us3 63, us3 64, us3 65, us3 66, us3 67, us3 68, us3 69, us3 70, us3 71, .tuple #[.bool false, .int .i64 4], .pointer (some ⟨vp, 0, none⟩), .agg (itA (l.getD at2 zM)), .tuple #[.bool false, .int .i64 4], .bool false, .int .i64 4, .int .i64 4, .bool false, us3 80, us3 81, us3 82, us3 83, us3 84, us3 85, us3 86, us3 87, .slice to2 tr2.length tc2, .agg (itA (l.getD at2 zM)), .slice (some ⟨q154, 0, none⟩) 1 1, .slice ar155 (tr2 ++ [(l.getD at2 zM)]).length cr155] : List Value).getD kz undef), rfl, rfl, GG, HVz.gro GV3, HP, hP, ⟨by omega, by omega, by omega, by omega, by omega, by omega, by omega, by rw [List.length_append]; simp only [List.length_singleton]; omega⟩, HSu, HTr, hap, hsn, snoc_all htv hxn, hsu, by rw [map_it_snoc]; exact htr.more _⟩
              · skip
                refine wp_region_lit ?_
                refine s_val 90 rfl rfl (.pointer (some ⟨g1, 16, none⟩)) (run_fld 56 _ 1 rfl g1 0 rfl 16 (by kernel_rfl)) ?_
                refine nr ?_; intro U h; simp only [z0, z1] at h; subst h
                refine s_val 91 rfl rfl (.pointer (some ⟨g1, 16, none⟩)) (run_fld 54 _ 0 rfl g1 16 rfl 16 (by kernel_rfl)) ?_
                refine nr ?_; intro U h; simp only [z0, z1] at h; subst h
                refine s_val 92 rfl rfl (.int .i64 (l.getD at2 zM).n) (ldItn _ rfl g1 rfl (kg1)) ?_
                refine nr ?_; intro U h; simp only [z0, z1] at h; subst h
                refine s_val 93 rfl rfl (.int .i64 ((l.getD at2 zM).n.tmod 2)) (run_remI 2 _ _ _ rfl _ rfl rfl _) ?_
                refine nr ?_; intro U h; simp only [z0, z1] at h; subst h
                refine s_val 94 rfl rfl (.bool true) (run_eq_k 2 .i64 _ _ _ rfl Try.underlying2 ((l.getD at2 zM).n.tmod 2) 0 rfl rfl true t6 _) ?_
                refine nr ?_; intro U h; simp only [z0, z1] at h; subst h
                refine wpList_nil ?_
                refine then_n ?_
                refine wp_cond_true rfl ?_
                refine wp_seq ?_
                refine wp_region_lit ?_
                refine s_val 96 rfl rfl (.pointer (some ⟨vp, 0, none⟩)) (rfl) ?_
                refine nr ?_; intro U h; simp only [z0, z1] at h; subst h
                refine s_val 97 rfl rfl (.pointer (some ⟨g1, 0, none⟩)) (run_fld 56 _ 0 rfl g1 0 rfl 0 (by kernel_rfl)) ?_
                refine nr ?_; intro U h; simp only [z0, z1] at h; subst h
                refine s_val 98 rfl rfl (.agg (idA (l.getD at2 zM).key)) (ldItk _ rfl g1 rfl (kg1)) ?_
                refine nr ?_; intro U h; simp only [z0, z1] at h; subst h
                have hgn := getK_n HV.mr (l.getD at2 zM).key
                have hvn : (getK M (l.getD at2 zM).key).ver.n = (getK M (l.getD at2 zM).key).n := rfl
                refine s_callx 99 rfl rfl _ 27 Try.call27 rfl rfl _ rfl [.pointer (some ⟨vp, 0, none⟩), .agg (idA (l.getD at2 zM).key)] rfl (get_any [vp, lp, mb, p, sg] _ vp lp p sg mb 900 L3 pw3 dn3 h3 false ((c + 1 : Nat) : Int) M (HV.gro GV) (l.getD at2 zM).key hxo.key) (by rintro _ _ ⟨_, _, he, _, _⟩; exact ⟨_, he⟩) ?_
                rintro v w9 ⟨ao4, cap4, he, G, HO4⟩
                cases he
                replace kg1 := G.has kg1
                replace HSu := HSu.gro G
                replace HTr := HTr.gro G
                replace GV := GV.gro G
                replace GG := GG.trans G
                clear G
                refine nr ?_; intro U h; simp only [z0, z1] at h; subst h
                refine s_val 95 rfl rfl (.tuple #[.agg (itA ((getK M (l.getD at2 zM).key).re ao4 cap4)), .bool (getM M (l.getD at2 zM).key).isSome]) (rfl) ?_
                refine nr ?_; intro U h; simp only [z0, z1] at h; subst h
                refine s_val 100 rfl rfl (.agg (itA ((getK M (l.getD at2 zM).key).re ao4 cap4))) (rfl) ?_
                refine nr ?_; intro U h; simp only [z0, z1] at h; subst h
                refine s_val 101 rfl rfl (.bool (getM M (l.getD at2 zM).key).isSome) (rfl) ?_
                refine nr ?_; intro U h; simp only [z0, z1] at h; subst h
                refine s_alloc 13 rfl rfl 56 rfl _ zeroIt (itA zM) rfl ?_
                intro w10 g2 G eg2 kg2
                have bg2 := size_base GG eg2
                have dg1g2 := lt_new kg1 eg2
                have dHSug2 := HSu.ne eg2
                have dHTrg2 := HTr.ne eg2
                have dGVg2 := GV.ne eg2
                replace kg1 := G.has kg1
                replace HSu := HSu.gro G
                replace HTr := HTr.gro G
                replace GV := GV.gro G
                replace GG := GG.trans G
                clear G
                clear eg2
                refine nr ?_; intro U h; simp only [z0, z1] at h; subst h
                refine s_store rfl rfl 56 _ _ rfl g2 0 rfl (.agg (itA ((getK M (l.getD at2 zM).key).re ao4 cap4))) rfl 56 _ kg2 (itA ((getK M (l.getD at2 zM).key).re ao4 cap4)) rfl (siIt' _) (itA_fit _ _) (itA_one _) (itA ((getK M (l.getD at2 zM).key).re ao4 cap4)) (splice_whole _ _ (itA_sz _ _)) ?_
                intro w11 St
                replace kg1 := St.has (by omega) kg1
                replace HSu := HSu.st St dHSug2
                replace HTr := HTr.st St dHTrg2
                replace GV := GV.st St dGVg2
                replace GG := GG.store St bg2
                replace kg2 := St.new
                clear St
                refine s_val 14 rfl rfl (.bool (getM M (l.getD at2 zM).key).isSome) (rfl) ?_
                refine nr ?_; intro U h; simp only [z0, z1] at h; subst h
                refine wpList_nil ?_
                refine then_n ?_
                refine wp_seq ?_
                have HVo := HV.gro GV
                have hrn : ((getK M (l.getD at2 zM).key).re ao4 cap4).n = (getK M (l.getD at2 zM).key).n := rfl
                cases hl : decide (64 < (l.getD at2 zM).val.length)
                · have hl1 : (l.getD at2 zM).val.length ≤ 64 := by have := of_decide_eq_false hl; omega
                  rcases Decidable.em ((getK M (l.getD at2 zM).key).n = 4611686018427387903) with hf | hf
                  · skip
                    refine wp_region_lit ?_
                    refine s_val 103 rfl rfl (.pointer (some ⟨vp, 0, none⟩)) (rfl) ?_
                    refine nr ?_; intro U h; simp only [z0, z1] at h; subst h
                    refine s_val 104 rfl rfl (.pointer (some ⟨g1, 0, none⟩)) (run_fld 56 _ 0 rfl g1 0 rfl 0 (by kernel_rfl)) ?_
                    refine nr ?_; intro U h; simp only [z0, z1] at h; subst h
                    refine s_val 105 rfl rfl (.agg (idA (l.getD at2 zM).key)) (ldItk _ rfl g1 rfl (kg1)) ?_
                    refine nr ?_; intro U h; simp only [z0, z1] at h; subst h
                    refine s_val 106 rfl rfl (.pointer (some ⟨g1, 33, none⟩)) (run_fld 56 _ 2 rfl g1 0 rfl 33 (by kernel_rfl)) ?_
                    refine nr ?_; intro U h; simp only [z0, z1] at h; subst h
                    refine s_val 107 rfl rfl (.slice (l.getD at2 zM).ao (l.getD at2 zM).val.length (l.getD at2 zM).cap) (ldItr _ rfl g1 rfl (kg1)) ?_
                    refine nr ?_; intro U h; simp only [z0, z1] at h; subst h
                    refine s_val 108 rfl rfl (.pointer (some ⟨g1, 16, none⟩)) (run_fld 56 _ 1 rfl g1 0 rfl 16 (by kernel_rfl)) ?_
                    refine nr ?_; intro U h; simp only [z0, z1] at h; subst h
                    refine s_val 109 rfl rfl (.pointer (some ⟨g1, 17, none⟩)) (run_fld 54 _ 1 rfl g1 16 rfl 17 (by kernel_rfl)) ?_
                    refine nr ?_; intro U h; simp only [z0, z1] at h; subst h
                    refine s_val 110 rfl rfl (.agg (idA (l.getD at2 zM).who)) (ldItw _ rfl g1 rfl (kg1)) ?_
                    refine nr ?_; intro U h; simp only [z0, z1] at h; subst h
                    refine s_callv 111 rfl rfl _ 28 Try.call28 rfl rfl _ rfl [.pointer (some ⟨vp, 0, none⟩), .agg (idA (l.getD at2 zM).key), .slice (l.getD at2 zM).ao (l.getD at2 zM).val.length (l.getD at2 zM).cap, .agg (idA (l.getD at2 zM).who)] rfl (put_full [vp, lp, mb, p, sg] _ vp lp p sg mb 900 L3 pw3 dn3 h3 false ((c + 1 : Nat) : Int) M HVo (l.getD at2 zM).key hxo.key (l.getD at2 zM).ao (l.getD at2 zM).cap (l.getD at2 zM).val (l.getD at2 zM).who hl1 hf) ?_
                    intro w12 G
                    replace kg1 := G.has kg1
                    replace kg2 := G.has kg2
                    replace HSu := HSu.gro G
                    replace HTr := HTr.gro G
                    replace GV := GV.gro G
                    replace GG := GG.trans G
                    clear G
                    refine nr ?_; intro U h; simp only [z0, z1] at h; subst h
                    refine s_val 102 rfl rfl (.tuple #[.agg (itA zM), .int .i64 5]) (rfl) ?_
                    refine nr ?_; intro U h; simp only [z0, z1] at h; subst h
                    refine s_val 112 rfl rfl (.agg (itA zM)) (rfl) ?_
                    refine nr ?_; intro U h; simp only [z0, z1] at h; subst h
                    refine s_val 113 rfl rfl (.int .i64 5) (rfl) ?_
                    refine nr ?_; intro U h; simp only [z0, z1] at h; subst h
                    refine s_alloc 15 rfl rfl 56 rfl _ zeroIt (itA zM) rfl ?_
                    intro w13 g3 G eg3 kg3
                    have bg3 := size_base GG eg3
                    have dg1g3 := lt_new kg1 eg3
                    have dg2g3 := lt_new kg2 eg3
                    have dHSug3 := HSu.ne eg3
                    have dHTrg3 := HTr.ne eg3
                    have dGVg3 := GV.ne eg3
                    replace kg1 := G.has kg1
                    replace kg2 := G.has kg2
                    replace HSu := HSu.gro G
                    replace HTr := HTr.gro G
                    replace GV := GV.gro G
                    replace GG := GG.trans G
                    clear G
                    clear eg3
                    refine nr ?_; intro U h; simp only [z0, z1] at h; subst h
                    refine s_store rfl rfl 56 _ _ rfl g3 0 rfl (.agg (itA zM)) rfl 56 _ kg3 (itA zM) rfl (siIt' _) (itA_fit _ _) (itA_one _) (itA zM) (splice_whole _ _ (itA_sz _ _)) ?_
                    intro w14 St
                    replace kg1 := St.has (by omega) kg1
                    replace kg2 := St.has (by omega) kg2
                    replace HSu := HSu.st St dHSug3
                    replace HTr := HTr.st St dHTrg3
                    replace GV := GV.st St dGVg3
                    replace GG := GG.store St bg3
                    replace kg3 := St.new
                    clear St
                    refine s_val 16 rfl rfl (.int .i64 5) (rfl) ?_
                    refine nr ?_; intro U h; simp only [z0, z1] at h; subst h
                    refine wpList_nil ?_
                    refine then_n ?_
                    refine wp_seq ?_
                    refine wp_seq ?_
                    refine wp_region_lit ?_
                    refine s_val 114 rfl rfl (.int .i64 5) (rfl) ?_
                    refine nr ?_; intro U h; simp only [z0, z1] at h; subst h
                    refine s_val 115 rfl rfl (.bool false) (run_eq_k 26 .i64 _ _ _ rfl Try.underlying26 5 0 rfl rfl false (by decide) _) ?_
                    refine nr ?_; intro U h; simp only [z0, z1] at h; subst h
                    refine wpList_nil ?_
                    refine then_n ?_
                    refine wp_cond_false rfl ?_
                    refine wp_skip ?_
                    refine then_n ?_
                    refine wp_region_lit ?_
                    refine s_val 120 rfl rfl (.slice to2 tr2.length tc2) (rfl) ?_
                    refine nr ?_; intro U h; simp only [z0, z1] at h; subst h
                    refine s_val 121 rfl rfl (.pointer (some ⟨g1, 0, none⟩)) (run_fld 56 _ 0 rfl g1 0 rfl 0 (by kernel_rfl)) ?_
                    refine nr ?_; intro U h; simp only [z0, z1] at h; subst h
                    refine s_val 122 rfl rfl (.agg (idA (l.getD at2 zM).key)) (ldItk _ rfl g1 rfl (kg1)) ?_
                    refine nr ?_; intro U h; simp only [z0, z1] at h; subst h
                    refine s_val 123 rfl rfl (.pointer (some ⟨g2, 16, none⟩)) (run_fld 56 _ 1 rfl g2 0 rfl 16 (by kernel_rfl)) ?_
                    refine nr ?_; intro U h; simp only [z0, z1] at h; subst h
                    refine s_val 124 rfl rfl (.pointer (some ⟨g2, 16, none⟩)) (run_fld 54 _ 0 rfl g2 16 rfl 16 (by kernel_rfl)) ?_
                    refine nr ?_; intro U h; simp only [z0, z1] at h; subst h
                    refine s_val 125 rfl rfl (.int .i64 ((getK M (l.getD at2 zM).key).re ao4 cap4).n) (ldItn _ rfl g2 rfl (kg2)) ?_
                    refine nr ?_; intro U h; simp only [z0, z1] at h; subst h
                    refine s_val 126 rfl rfl (.int .i64 ((getK M (l.getD at2 zM).key).ver.n + 1)) (run_addI 2 _ _ _ rfl ((getK M (l.getD at2 zM).key).re ao4 cap4).n 1 ((getK M (l.getD at2 zM).key).ver.n + 1) rfl rfl (by omega) (by omega) (by omega) _) ?_
                    refine nr ?_; intro U h; simp only [z0, z1] at h; subst h
                    refine s_val 127 rfl rfl (.pointer (some ⟨g1, 16, none⟩)) (run_fld 56 _ 1 rfl g1 0 rfl 16 (by kernel_rfl)) ?_
                    refine nr ?_; intro U h; simp only [z0, z1] at h; subst h
                    refine s_val 128 rfl rfl (.pointer (some ⟨g1, 17, none⟩)) (run_fld 54 _ 1 rfl g1 16 rfl 17 (by kernel_rfl)) ?_
                    refine nr ?_; intro U h; simp only [z0, z1] at h; subst h
                    refine s_val 129 rfl rfl (.agg (idA (l.getD at2 zM).who)) (ldItw _ rfl g1 rfl (kg1)) ?_
                    refine nr ?_; intro U h; simp only [z0, z1] at h; subst h
                    refine s_val 130 rfl rfl (.agg (veA (mkV ((getK M (l.getD at2 zM).key).ver.n + 1) (l.getD at2 zM).who))) (run_bd 54 _ rfl [(0, .int .i64 ((getK M (l.getD at2 zM).key).ver.n + 1)), (1, .agg (idA (l.getD at2 zM).who))] rfl _ (bdV01 ((getK M (l.getD at2 zM).key).ver.n + 1) (l.getD at2 zM).who _)) ?_
                    refine nr ?_; intro U h; simp only [z0, z1] at h; subst h
                    refine s_val 131 rfl rfl (.pointer (some ⟨g1, 33, none⟩)) (run_fld 56 _ 2 rfl g1 0 rfl 33 (by kernel_rfl)) ?_
                    refine nr ?_; intro U h; simp only [z0, z1] at h; subst h
                    refine s_val 132 rfl rfl (.slice (l.getD at2 zM).ao (l.getD at2 zM).val.length (l.getD at2 zM).cap) (ldItr _ rfl g1 rfl (kg1)) ?_
                    refine nr ?_; intro U h; simp only [z0, z1] at h; subst h
                    refine s_val 133 rfl rfl (.agg (itA (mkI (l.getD at2 zM).key (mkV ((getK M (l.getD at2 zM).key).ver.n + 1) (l.getD at2 zM).who) (l.getD at2 zM).ao (l.getD at2 zM).cap (l.getD at2 zM).val))) (run_bd 56 _ rfl [(0, .agg (idA (l.getD at2 zM).key)), (1, .agg (veA (mkV ((getK M (l.getD at2 zM).key).ver.n + 1) (l.getD at2 zM).who))), (2, .slice (l.getD at2 zM).ao (l.getD at2 zM).val.length (l.getD at2 zM).cap)] rfl _ (bdI012 (l.getD at2 zM).key (mkV ((getK M (l.getD at2 zM).key).ver.n + 1) (l.getD at2 zM).who) (l.getD at2 zM).ao (l.getD at2 zM).cap (l.getD at2 zM).val _)) ?_
                    refine nr ?_; intro U h; simp only [z0, z1] at h; subst h
                    refine s_bsl 134 rfl rfl 45 1 _ rfl [(0, .agg (itA (mkI (l.getD at2 zM).key (mkV ((getK M (l.getD at2 zM).key).ver.n + 1) (l.getD at2 zM).who) (l.getD at2 zM).ao (l.getD at2 zM).cap (l.getD at2 zM).val)))] rfl ([(mkI (l.getD at2 zM).key (mkV ((getK M (l.getD at2 zM).key).ver.n + 1) (l.getD at2 zM).who) (l.getD at2 zM).ao (l.getD at2 zM).cap (l.getD at2 zM).val)].flatMap kM.E).toArray 56 (bsM _ _) ?_
                    intro w15 q134 G eq2 kq2
                    replace kg1 := G.has kg1
                    replace kg2 := G.has kg2
                    replace kg3 := G.has kg3
                    replace HSu := HSu.gro G
                    replace HTr := HTr.gro G
                    replace GV := GV.gro G
                    replace GG := GG.trans G
                    clear G
                    have HQ : RK kM w15 (some ⟨q134, 0, none⟩) 1 [(mkI (l.getD at2 zM).key (mkV ((getK M (l.getD at2 zM).key).ver.n + 1) (l.getD at2 zM).who) (l.getD at2 zM).ao (l.getD at2 zM).cap (l.getD at2 zM).val)] := RK.blk kq2 (one_all (mkI_ok hxo.key (mkV_ok ⟨by omega, by omega⟩ hxo.who))) (Nat.le_refl _)
                    clear eq2 kq2
                    refine nr ?_; intro U h; simp only [z0, z1] at h; subst h
                    refine s_appK rM (by decide) 135 rfl rfl _ _ rfl rfl HTr (l' := [(mkI (l.getD at2 zM).key (mkV ((getK M (l.getD at2 zM).key).ver.n + 1) (l.getD at2 zM).who) (l.getD at2 zM).ao (l.getD at2 zM).cap (l.getD at2 zM).val)]) rfl HQ (by simp only [List.length_singleton]; omega) GG.size ?_
                    intro ar135 cr135 w16 HT2 G hKp
                    replace kg1 := G.has kg1 (dHTrg1)
                    replace kg2 := G.has kg2 (dHTrg2)
                    replace kg3 := G.has kg3 (dHTrg3)
                    have HVy := (HV.gro GV).gros G (fun k hk => by
                      obtain ⟨cur, hc, _⟩ := HTr.blkt hk
                      exact ⟨(HV.gro GV).nin hc (by decide), (HV.gro GV).nrow hc (by decide)⟩)
                    have hapO := hap
                    replace hap := apart_kept HSu hapO hKp
                    replace HSu := HSu.gros G hapO
                    clear hapO
                    replace GG := G.gro GG (fun k hk => (HTr.blkt hk).choose_spec.2)
                    clear GV HTr G HQ hKp
                    have HTr := HT2
                    clear HT2
                    have HVz := HVy
                    clear HVy
                    have GV3 := Gro.refl w16
                    refine nr ?_; intro U h; simp only [z0, z1] at h; subst h
                    refine s_val 7 rfl rfl (.slice ar135 (tr2 ++ [(mkI (l.getD at2 zM).key (mkV ((getK M (l.getD at2 zM).key).ver.n + 1) (l.getD at2 zM).who) (l.getD at2 zM).ao (l.getD at2 zM).cap (l.getD at2 zM).val)]).length cr135) (rfl) ?_
                    refine nr ?_; intro U h; simp only [z0, z1] at h; subst h
                    refine wpList_nil ?_
                    refine blk_n ?_
                    refine then_n ?_
                    refine wp_region_lit ?_
                    refine s_val 84 rfl rfl (.int .i64 ((at2 : Nat) : Int)) (rfl) ?_
                    refine nr ?_; intro U h; simp only [z0, z1] at h; subst h
                    refine s_val 85 rfl rfl (.int .i64 ((at2 + 1 : Nat) : Int)) (run_addI 3 _ _ _ rfl ((at2 : Nat) : Int) 1 ((at2 + 1 : Nat) : Int) rfl rfl (by omega) (by omega) (by omega) _) ?_
                    refine nr ?_; intro U h; simp only [z0, z1] at h; subst h
                    refine s_val 8 rfl rfl (.int .i64 ((at2 + 1 : Nat) : Int)) (rfl) ?_
                    refine nr ?_; intro U h; simp only [z0, z1] at h; subst h
                    refine wpList_nil ?_
                    refine then_n ?_
                    exact ⟨_, by omega, at2 + 1, L3, pw3, dn3, h3, _, _, M, false, su2, _, _, (tr2 ++ [(mkI (l.getD at2 zM).key (mkV ((getK M (l.getD at2 zM).key).ver.n + 1) (l.getD at2 zM).who) (l.getD at2 zM).ao (l.getD at2 zM).cap (l.getD at2 zM).val)]), _, _, (fun kz => ([.pointer (some ⟨g1, 0, none⟩), .pointer (some ⟨g2, 0, none⟩), .bool (getM M (l.getD at2 zM).key).isSome, .pointer (some ⟨g3, 0, none⟩), .int .i64 5, us3 5, us3 6, .int .i64 ((at2 : Nat) : Int), .slice ao l.length cap, .int .i64 ((l.length : Nat) : Int), .bool true, .bool true, .int .i64 ((at2 : Nat) : Int), .bool true, .bool true, .bool true, .pointer (some ⟨vp, 0, none⟩), .bool false, .bool true, .bool true, .int .i64 ((at2 : Nat) : Int), .int .i64 ((at2 + 1 : Nat) : Int), .slice ao l.length cap, .int .i64 ((at2 : Nat) : Int), .pointer (pK kM ao at2 0), .agg (itA (l.getD at2 zM)), .pointer (some ⟨g1, 16, none⟩), .pointer (some ⟨g1, 16, none⟩), .int .i64 (l.getD at2 zM).n, .int .i64 ((l.getD at2 zM).n.tmod 2), .bool true, .tuple #[.agg (itA ((getK M (l.getD at2 zM).key).re ao4 cap4)), .bool (getM M (l.getD at2 zM).key).isSome], .pointer (some ⟨vp, 0, none⟩), .pointer (some ⟨g1, 0, none⟩), .agg (idA (l.getD at2 zM).key), .tuple #[.agg (itA ((getK M (l.getD at2 zM).key).re ao4 cap4)), .bool (getM M (l.getD at2 zM).key).isSome], .agg (itA ((getK M (l.getD at2 zM).key).re ao4 cap4)), .bool (getM M (l.getD at2 zM).key).isSome, .tuple #[.agg (itA zM), .int .i64 5], .pointer (some ⟨vp, 0, none⟩), .pointer (some ⟨g1, 0, none⟩), .agg (idA (l.getD at2 zM).key), .pointer (some ⟨g1, 33, none⟩), .slice (l.getD at2 zM).ao (l.getD at2 zM).val.length (l.getD at2 zM).cap, .pointer (some ⟨g1, 16, none⟩), .pointer (some ⟨g1, 17, none⟩), .agg (idA (l.getD at2 zM).who), .tuple #[.agg (itA zM), .int .i64 5], .agg (itA zM), .int .i64 5, .int .i64 5, .bool false, us3 52, us3 53, us3 54, us3 55, .slice to2 tr2.length tc2, .pointer (some ⟨g1, 0, none⟩), .agg (idA (l.getD at2 zM).key), .pointer (some ⟨g2, 16, none⟩), .pointer (some ⟨g2, 16, none⟩), .int .i64 ((getK M (l.getD at2 zM).key).re ao4 cap4).n, .int .i64 ((getK M (l.getD at2 zM).key).ver.n + 1), .pointer (some ⟨g1, 16, none⟩), .pointer (some ⟨g1, 17, none⟩), .agg (idA (l.getD at2 zM).who), .agg (veA (mkV ((getK M (l.getD at2 zM).key).ver.n + 1) (l.getD at2 zM).who)), .pointer (some ⟨g1, 33, none⟩), .slice (l.getD at2 zM).ao (l.getD at2 zM).val.length (l.getD at2 zM).cap, .agg (itA (mkI (l.getD at2 zM).key (mkV ((getK M (l.getD at2 zM).key).ver.n + 1) (l.getD at2 zM).who) (l.getD at2 zM).ao (l.getD at2 zM).cap (l.getD at2 zM).val)), .slice (some ⟨q134, 0, none⟩) 1 1, .slice ar135 (tr2 ++ [(mkI (l.getD at2 zM).key (mkV ((getK M (l.getD at2 zM).key).ver.n + 1) (l.getD at2 zM).who) (l.getD at2 zM).ao (l.getD at2 zM).cap (l.getD at2 zM).val)]).length cr135, us3 72, us3 73, us3 74, us3 75, us3 76, us3 77, us3 78, us3 79, us3 80, us3 81, us3 82, us3 83, us3 84, us3 85, us3 86, us3 87, us3 88, us3 89, us3 90, us3 91] : List Value).getD kz undef), rfl, rfl, GG, HVz.gro GV3, HP, hP, ⟨by omega, by omega, by omega, by omega, by omega, by omega, by omega, by rw [List.length_append]; simp only [List.length_singleton]; omega⟩, HSu, HTr, hap, hsn, snoc_all htv hxn, hsu, by rw [map_it_snoc]; exact htr.more _⟩
                  · skip
                    have hito : (mkI (l.getD at2 zM).key (mkV ((getK M (l.getD at2 zM).key).ver.n + 1) (l.getD at2 zM).who) (l.getD at2 zM).ao (l.getD at2 zM).cap (l.getD at2 zM).val).it.ok := it_ok (mkI_ok hxo.key (mkV_ok ⟨by omega, by omega⟩ hxo.who)) (by show 1 ≤ (getK M (l.getD at2 zM).key).n + 1; omega) (by show (getK M (l.getD at2 zM).key).n + 1 ≤ _; omega) hl1 hxn.lt256
                    have hfl := form_len hito
                    have hs2 := sec_109 hfl
                    obtain ⟨err, L4, pw4, h4, dw4, rs4, HA4, SA4⟩ := append_a 900 L3 pw3 h3 false rs3 (formV (mkI (l.getD at2 zM).key (mkV ((getK M (l.getD at2 zM).key).ver.n + 1) (l.getD at2 zM).who) (l.getD at2 zM).ao (l.getD at2 zM).cap (l.getD at2 zM).val).it) HP.good hP (by omega) (by decide)
                    have hg4 := HA4.g
                    have hu4 := HA4.u
                    rcases HA4.res with ⟨rfl, hrs⟩ | ⟨he1, hrs⟩
                    · clear hrs
                      refine wp_region_lit ?_
                      refine s_val 103 rfl rfl (.pointer (some ⟨vp, 0, none⟩)) (rfl) ?_
                      refine nr ?_; intro U h; simp only [z0, z1] at h; subst h
                      refine s_val 104 rfl rfl (.pointer (some ⟨g1, 0, none⟩)) (run_fld 56 _ 0 rfl g1 0 rfl 0 (by kernel_rfl)) ?_
                      refine nr ?_; intro U h; simp only [z0, z1] at h; subst h
                      refine s_val 105 rfl rfl (.agg (idA (l.getD at2 zM).key)) (ldItk _ rfl g1 rfl (kg1)) ?_
                      refine nr ?_; intro U h; simp only [z0, z1] at h; subst h
                      refine s_val 106 rfl rfl (.pointer (some ⟨g1, 33, none⟩)) (run_fld 56 _ 2 rfl g1 0 rfl 33 (by kernel_rfl)) ?_
                      refine nr ?_; intro U h; simp only [z0, z1] at h; subst h
                      refine s_val 107 rfl rfl (.slice (l.getD at2 zM).ao (l.getD at2 zM).val.length (l.getD at2 zM).cap) (ldItr _ rfl g1 rfl (kg1)) ?_
                      refine nr ?_; intro U h; simp only [z0, z1] at h; subst h
                      refine s_val 108 rfl rfl (.pointer (some ⟨g1, 16, none⟩)) (run_fld 56 _ 1 rfl g1 0 rfl 16 (by kernel_rfl)) ?_
                      refine nr ?_; intro U h; simp only [z0, z1] at h; subst h
                      refine s_val 109 rfl rfl (.pointer (some ⟨g1, 17, none⟩)) (run_fld 54 _ 1 rfl g1 16 rfl 17 (by kernel_rfl)) ?_
                      refine nr ?_; intro U h; simp only [z0, z1] at h; subst h
                      refine s_val 110 rfl rfl (.agg (idA (l.getD at2 zM).who)) (ldItw _ rfl g1 rfl (kg1)) ?_
                      refine nr ?_; intro U h; simp only [z0, z1] at h; subst h
                      have szz4 := GG.size
                      refine s_callx 111 rfl rfl _ 28 Try.call28 rfl rfl _ rfl [.pointer (some ⟨vp, 0, none⟩), .agg (idA (l.getD at2 zM).key), .slice (l.getD at2 zM).ao (l.getD at2 zM).val.length (l.getD at2 zM).cap, .agg (idA (l.getD at2 zM).who)] rfl ((put_go [vp, lp, mb, p, sg] _ vp lp p sg mb 900 L3 pw3 dn3 h3 false ((c + 1 : Nat) : Int) M HVo (l.getD at2 zM).key hxo.key (l.getD at2 zM).ao (l.getD at2 zM).cap (l.getD at2 zM).val (l.getD at2 zM).who hxo.who hl1 hf ⟨hxn.gro GG, fun ad ha h0 hk => by (have := hxn.lt ad ha h0; simp only [List.mem_cons, List.not_mem_nil, or_false] at hk; omega)⟩ rs3 0 L4 pw4 h4 dw4 rs4 HA4 SA4 (by omega) (by omega)).mono fun e w' h => h.yes) (by rintro _ _ ⟨_, _, _, _, _, _, he, _, _, _, _, _, _⟩; exact ⟨_, he⟩) ?_
                      rintro v w12 ⟨C, dn4, ao5, cap5, ao6, cap6, he, G, HV2, hBd, HO6, hd5, hd6⟩
                      cases he
                      replace kg1 := G.has kg1 (HVo.nin kg1 (by decide))
                      replace kg2 := G.has kg2 (HVo.nin kg2 (by decide))
                      replace HSu := HVo.keepW G HSu
                      replace HTr := HVo.keepW G HTr
                      replace GG := G.gro GG (fun k hk => by simp only [List.mem_cons, List.not_mem_nil, or_false] at hk; omega)
                      have GV2 := Gro.refl w12
                      clear GV
                      refine nr ?_; intro U h; simp only [z0, z1] at h; subst h
                      refine s_val 102 rfl rfl (.tuple #[.agg (itA ((mkI (l.getD at2 zM).key (mkV ((getK M (l.getD at2 zM).key).ver.n + 1) (l.getD at2 zM).who) (l.getD at2 zM).ao (l.getD at2 zM).cap (l.getD at2 zM).val).re ao6 cap6)), .int .i64 0]) (rfl) ?_
                      refine nr ?_; intro U h; simp only [z0, z1] at h; subst h
                      refine s_val 112 rfl rfl (.agg (itA ((mkI (l.getD at2 zM).key (mkV ((getK M (l.getD at2 zM).key).ver.n + 1) (l.getD at2 zM).who) (l.getD at2 zM).ao (l.getD at2 zM).cap (l.getD at2 zM).val).re ao6 cap6))) (rfl) ?_
                      refine nr ?_; intro U h; simp only [z0, z1] at h; subst h
                      refine s_val 113 rfl rfl (.int .i64 0) (rfl) ?_
                      refine nr ?_; intro U h; simp only [z0, z1] at h; subst h
                      refine s_alloc 15 rfl rfl 56 rfl _ zeroIt (itA zM) rfl ?_
                      intro w13 g3 G eg3 kg3
                      have bg3 := size_base GG eg3
                      have dg1g3 := lt_new kg1 eg3
                      have dg2g3 := lt_new kg2 eg3
                      have dHSug3 := HSu.ne eg3
                      have dHTrg3 := HTr.ne eg3
                      have dGV2g3 := GV2.ne eg3
                      replace kg1 := G.has kg1
                      replace kg2 := G.has kg2
                      replace HSu := HSu.gro G
                      replace HTr := HTr.gro G
                      replace GV2 := GV2.gro G
                      replace GG := GG.trans G
                      clear G
                      clear eg3
                      refine nr ?_; intro U h; simp only [z0, z1] at h; subst h
                      refine s_store rfl rfl 56 _ _ rfl g3 0 rfl (.agg (itA ((mkI (l.getD at2 zM).key (mkV ((getK M (l.getD at2 zM).key).ver.n + 1) (l.getD at2 zM).who) (l.getD at2 zM).ao (l.getD at2 zM).cap (l.getD at2 zM).val).re ao6 cap6))) rfl 56 _ kg3 (itA ((mkI (l.getD at2 zM).key (mkV ((getK M (l.getD at2 zM).key).ver.n + 1) (l.getD at2 zM).who) (l.getD at2 zM).ao (l.getD at2 zM).cap (l.getD at2 zM).val).re ao6 cap6)) rfl (siIt' _) (itA_fit _ _) (itA_one _) (itA ((mkI (l.getD at2 zM).key (mkV ((getK M (l.getD at2 zM).key).ver.n + 1) (l.getD at2 zM).who) (l.getD at2 zM).ao (l.getD at2 zM).cap (l.getD at2 zM).val).re ao6 cap6)) (splice_whole _ _ (itA_sz _ _)) ?_
                      intro w14 St
                      replace kg1 := St.has (by omega) kg1
                      replace kg2 := St.has (by omega) kg2
                      replace HSu := HSu.st St dHSug3
                      replace HTr := HTr.st St dHTrg3
                      replace GV2 := GV2.st St dGV2g3
                      replace GG := GG.store St bg3
                      replace kg3 := St.new
                      clear St
                      refine s_val 16 rfl rfl (.int .i64 0) (rfl) ?_
                      refine nr ?_; intro U h; simp only [z0, z1] at h; subst h
                      refine wpList_nil ?_
                      refine then_n ?_
                      refine wp_seq ?_
                      refine wp_seq ?_
                      refine wp_region_lit ?_
                      refine s_val 114 rfl rfl (.int .i64 0) (rfl) ?_
                      refine nr ?_; intro U h; simp only [z0, z1] at h; subst h
                      refine s_val 115 rfl rfl (.bool true) (run_eq_k 26 .i64 _ _ _ rfl Try.underlying26 0 0 rfl rfl true (decide_eq_true rfl) _) ?_
                      refine nr ?_; intro U h; simp only [z0, z1] at h; subst h
                      refine wpList_nil ?_
                      refine then_n ?_
                      refine wp_cond_true rfl ?_
                      refine wp_region_lit ?_
                      refine s_val 116 rfl rfl (.slice so2 su2.length sc2) (rfl) ?_
                      refine nr ?_; intro U h; simp only [z0, z1] at h; subst h
                      refine s_val 117 rfl rfl (.agg (itA ((mkI (l.getD at2 zM).key (mkV ((getK M (l.getD at2 zM).key).ver.n + 1) (l.getD at2 zM).who) (l.getD at2 zM).ao (l.getD at2 zM).cap (l.getD at2 zM).val).re ao6 cap6))) (ldIt0 _ rfl g3 rfl (kg3)) ?_
                      refine nr ?_; intro U h; simp only [z0, z1] at h; subst h
                      refine s_bsl 118 rfl rfl 45 1 _ rfl [(0, .agg (itA ((mkI (l.getD at2 zM).key (mkV ((getK M (l.getD at2 zM).key).ver.n + 1) (l.getD at2 zM).who) (l.getD at2 zM).ao (l.getD at2 zM).cap (l.getD at2 zM).val).re ao6 cap6)))] rfl ([((mkI (l.getD at2 zM).key (mkV ((getK M (l.getD at2 zM).key).ver.n + 1) (l.getD at2 zM).who) (l.getD at2 zM).ao (l.getD at2 zM).cap (l.getD at2 zM).val).re ao6 cap6)].flatMap kM.E).toArray 56 (bsM _ _) ?_
                      intro w15 q118 G eq2 kq2
                      replace kg1 := G.has kg1
                      replace kg2 := G.has kg2
                      replace kg3 := G.has kg3
                      replace HSu := HSu.gro G
                      replace HTr := HTr.gro G
                      replace GV2 := GV2.gro G
                      replace GG := GG.trans G
                      clear G
                      have HQ : RK kM w15 (some ⟨q118, 0, none⟩) 1 [((mkI (l.getD at2 zM).key (mkV ((getK M (l.getD at2 zM).key).ver.n + 1) (l.getD at2 zM).who) (l.getD at2 zM).ao (l.getD at2 zM).cap (l.getD at2 zM).val).re ao6 cap6)] := RK.blk kq2 (one_all ((mkI_ok hxo.key (mkV_ok ⟨by omega, by omega⟩ hxo.who) : (mkI (l.getD at2 zM).key (mkV ((getK M (l.getD at2 zM).key).ver.n + 1) (l.getD at2 zM).who) (l.getD at2 zM).ao (l.getD at2 zM).cap (l.getD at2 zM).val).ok).re _ _)) (Nat.le_refl _)
                      clear eq2 kq2
                      refine nr ?_; intro U h; simp only [z0, z1] at h; subst h
                      refine s_appK rM (by decide) 119 rfl rfl _ _ rfl rfl HSu (l' := [((mkI (l.getD at2 zM).key (mkV ((getK M (l.getD at2 zM).key).ver.n + 1) (l.getD at2 zM).who) (l.getD at2 zM).ao (l.getD at2 zM).cap (l.getD at2 zM).val).re ao6 cap6)]) rfl HQ (by simp only [List.length_singleton]; omega) GG.size ?_
                      intro ar119 cr119 w16 HT2 G hKp
                      replace kg1 := G.has kg1 (dHSug1)
                      replace kg2 := G.has kg2 (dHSug2)
                      replace kg3 := G.has kg3 (dHSug3)
                      have HVy := (HV2.gro GV2).gros G (fun k hk => by
                        obtain ⟨cur, hc, _⟩ := HSu.blkt hk
                        exact ⟨(HV2.gro GV2).nin hc (by decide), (HV2.gro GV2).nrow hc (by decide)⟩)
                      have hapO := apart_sym hap
                      replace hap := apart_sym (apart_kept HTr hapO hKp)
                      replace HTr := HTr.gros G hapO
                      clear hapO
                      replace GG := G.gro GG (fun k hk => (HSu.blkt hk).choose_spec.2)
                      clear GV2 HSu G HQ hKp
                      have HSu := HT2
                      clear HT2
                      have HVz := HVy
                      clear HVy
                      have GV3 := Gro.refl w16
                      refine nr ?_; intro U h; simp only [z0, z1] at h; subst h
                      refine s_val 6 rfl rfl (.slice ar119 (su2 ++ [((mkI (l.getD at2 zM).key (mkV ((getK M (l.getD at2 zM).key).ver.n + 1) (l.getD at2 zM).who) (l.getD at2 zM).ao (l.getD at2 zM).cap (l.getD at2 zM).val).re ao6 cap6)]).length cr119) (rfl) ?_
                      refine nr ?_; intro U h; simp only [z0, z1] at h; subst h
                      refine wpList_nil ?_
                      refine then_n ?_
                      refine wp_region_lit ?_
                      refine s_val 120 rfl rfl (.slice to2 tr2.length tc2) (rfl) ?_
                      refine nr ?_; intro U h; simp only [z0, z1] at h; subst h
                      refine s_val 121 rfl rfl (.pointer (some ⟨g1, 0, none⟩)) (run_fld 56 _ 0 rfl g1 0 rfl 0 (by kernel_rfl)) ?_
                      refine nr ?_; intro U h; simp only [z0, z1] at h; subst h
                      refine s_val 122 rfl rfl (.agg (idA (l.getD at2 zM).key)) (ldItk _ rfl g1 rfl (kg1)) ?_
                      refine nr ?_; intro U h; simp only [z0, z1] at h; subst h
                      refine s_val 123 rfl rfl (.pointer (some ⟨g2, 16, none⟩)) (run_fld 56 _ 1 rfl g2 0 rfl 16 (by kernel_rfl)) ?_
                      refine nr ?_; intro U h; simp only [z0, z1] at h; subst h
                      refine s_val 124 rfl rfl (.pointer (some ⟨g2, 16, none⟩)) (run_fld 54 _ 0 rfl g2 16 rfl 16 (by kernel_rfl)) ?_
                      refine nr ?_; intro U h; simp only [z0, z1] at h; subst h
                      refine s_val 125 rfl rfl (.int .i64 ((getK M (l.getD at2 zM).key).re ao4 cap4).n) (ldItn _ rfl g2 rfl (kg2)) ?_
                      refine nr ?_; intro U h; simp only [z0, z1] at h; subst h
                      refine s_val 126 rfl rfl (.int .i64 ((getK M (l.getD at2 zM).key).ver.n + 1)) (run_addI 2 _ _ _ rfl ((getK M (l.getD at2 zM).key).re ao4 cap4).n 1 ((getK M (l.getD at2 zM).key).ver.n + 1) rfl rfl (by omega) (by omega) (by omega) _) ?_
                      refine nr ?_; intro U h; simp only [z0, z1] at h; subst h
                      refine s_val 127 rfl rfl (.pointer (some ⟨g1, 16, none⟩)) (run_fld 56 _ 1 rfl g1 0 rfl 16 (by kernel_rfl)) ?_
                      refine nr ?_; intro U h; simp only [z0, z1] at h; subst h
                      refine s_val 128 rfl rfl (.pointer (some ⟨g1, 17, none⟩)) (run_fld 54 _ 1 rfl g1 16 rfl 17 (by kernel_rfl)) ?_
                      refine nr ?_; intro U h; simp only [z0, z1] at h; subst h
                      refine s_val 129 rfl rfl (.agg (idA (l.getD at2 zM).who)) (ldItw _ rfl g1 rfl (kg1)) ?_
                      refine nr ?_; intro U h; simp only [z0, z1] at h; subst h
                      refine s_val 130 rfl rfl (.agg (veA (mkV ((getK M (l.getD at2 zM).key).ver.n + 1) (l.getD at2 zM).who))) (run_bd 54 _ rfl [(0, .int .i64 ((getK M (l.getD at2 zM).key).ver.n + 1)), (1, .agg (idA (l.getD at2 zM).who))] rfl _ (bdV01 ((getK M (l.getD at2 zM).key).ver.n + 1) (l.getD at2 zM).who _)) ?_
                      refine nr ?_; intro U h; simp only [z0, z1] at h; subst h
                      refine s_val 131 rfl rfl (.pointer (some ⟨g1, 33, none⟩)) (run_fld 56 _ 2 rfl g1 0 rfl 33 (by kernel_rfl)) ?_
                      refine nr ?_; intro U h; simp only [z0, z1] at h; subst h
                      refine s_val 132 rfl rfl (.slice (l.getD at2 zM).ao (l.getD at2 zM).val.length (l.getD at2 zM).cap) (ldItr _ rfl g1 rfl (kg1)) ?_
                      refine nr ?_; intro U h; simp only [z0, z1] at h; subst h
                      refine s_val 133 rfl rfl (.agg (itA (mkI (l.getD at2 zM).key (mkV ((getK M (l.getD at2 zM).key).ver.n + 1) (l.getD at2 zM).who) (l.getD at2 zM).ao (l.getD at2 zM).cap (l.getD at2 zM).val))) (run_bd 56 _ rfl [(0, .agg (idA (l.getD at2 zM).key)), (1, .agg (veA (mkV ((getK M (l.getD at2 zM).key).ver.n + 1) (l.getD at2 zM).who))), (2, .slice (l.getD at2 zM).ao (l.getD at2 zM).val.length (l.getD at2 zM).cap)] rfl _ (bdI012 (l.getD at2 zM).key (mkV ((getK M (l.getD at2 zM).key).ver.n + 1) (l.getD at2 zM).who) (l.getD at2 zM).ao (l.getD at2 zM).cap (l.getD at2 zM).val _)) ?_
                      refine nr ?_; intro U h; simp only [z0, z1] at h; subst h
                      refine s_bsl 134 rfl rfl 45 1 _ rfl [(0, .agg (itA (mkI (l.getD at2 zM).key (mkV ((getK M (l.getD at2 zM).key).ver.n + 1) (l.getD at2 zM).who) (l.getD at2 zM).ao (l.getD at2 zM).cap (l.getD at2 zM).val)))] rfl ([(mkI (l.getD at2 zM).key (mkV ((getK M (l.getD at2 zM).key).ver.n + 1) (l.getD at2 zM).who) (l.getD at2 zM).ao (l.getD at2 zM).cap (l.getD at2 zM).val)].flatMap kM.E).toArray 56 (bsM _ _) ?_
                      intro w17 q134 G eq2 kq2
                      replace kg1 := G.has kg1
                      replace kg2 := G.has kg2
                      replace kg3 := G.has kg3
                      replace HSu := HSu.gro G
                      replace HTr := HTr.gro G
                      replace GV3 := GV3.gro G
                      replace GG := GG.trans G
                      clear G
                      have HQ : RK kM w17 (some ⟨q134, 0, none⟩) 1 [(mkI (l.getD at2 zM).key (mkV ((getK M (l.getD at2 zM).key).ver.n + 1) (l.getD at2 zM).who) (l.getD at2 zM).ao (l.getD at2 zM).cap (l.getD at2 zM).val)] := RK.blk kq2 (one_all (mkI_ok hxo.key (mkV_ok ⟨by omega, by omega⟩ hxo.who))) (Nat.le_refl _)
                      clear eq2 kq2
                      refine nr ?_; intro U h; simp only [z0, z1] at h; subst h
                      refine s_appK rM (by decide) 135 rfl rfl _ _ rfl rfl HTr (l' := [(mkI (l.getD at2 zM).key (mkV ((getK M (l.getD at2 zM).key).ver.n + 1) (l.getD at2 zM).who) (l.getD at2 zM).ao (l.getD at2 zM).cap (l.getD at2 zM).val)]) rfl HQ (by simp only [List.length_singleton]; omega) GG.size ?_
                      intro ar135 cr135 w18 HT2 G hKp
                      replace kg1 := G.has kg1 (dHTrg1)
                      replace kg2 := G.has kg2 (dHTrg2)
                      replace kg3 := G.has kg3 (dHTrg3)
                      have HVy := (HVz.gro GV3).gros G (fun k hk => by
                        obtain ⟨cur, hc, _⟩ := HTr.blkt hk
                        exact ⟨(HVz.gro GV3).nin hc (by decide), (HVz.gro GV3).nrow hc (by decide)⟩)
                      have hapO := hap
                      replace hap := apart_kept HSu hapO hKp
                      replace HSu := HSu.gros G hapO
                      clear hapO
                      replace GG := G.gro GG (fun k hk => (HTr.blkt hk).choose_spec.2)
                      clear GV3 HTr G HQ hKp HVz
                      have HTr := HT2
                      clear HT2
                      have HVz := HVy
                      clear HVy
                      have GV3 := Gro.refl w18
                      refine nr ?_; intro U h; simp only [z0, z1] at h; subst h
                      refine s_val 7 rfl rfl (.slice ar135 (tr2 ++ [(mkI (l.getD at2 zM).key (mkV ((getK M (l.getD at2 zM).key).ver.n + 1) (l.getD at2 zM).who) (l.getD at2 zM).ao (l.getD at2 zM).cap (l.getD at2 zM).val)]).length cr135) (rfl) ?_
                      refine nr ?_; intro U h; simp only [z0, z1] at h; subst h
                      refine wpList_nil ?_
                      refine blk_n ?_
                      refine then_n ?_
                      refine wp_region_lit ?_
                      refine s_val 84 rfl rfl (.int .i64 ((at2 : Nat) : Int)) (rfl) ?_
                      refine nr ?_; intro U h; simp only [z0, z1] at h; subst h
                      refine s_val 85 rfl rfl (.int .i64 ((at2 + 1 : Nat) : Int)) (run_addI 3 _ _ _ rfl ((at2 : Nat) : Int) 1 ((at2 + 1 : Nat) : Int) rfl rfl (by omega) (by omega) (by omega) _) ?_
                      refine nr ?_; intro U h; simp only [z0, z1] at h; subst h
                      refine s_val 8 rfl rfl (.int .i64 ((at2 + 1 : Nat) : Int)) (rfl) ?_
                      refine nr ?_; intro U h; simp only [z0, z1] at h; subst h
                      refine wpList_nil ?_
                      refine then_n ?_
                      exact ⟨_, by omega, at2 + 1, L4, pw4, dn4, h4, _, _, _, dw4, (su2 ++ [((mkI (l.getD at2 zM).key (mkV ((getK M (l.getD at2 zM).key).ver.n + 1) (l.getD at2 zM).who) (l.getD at2 zM).ao (l.getD at2 zM).cap (l.getD at2 zM).val).re ao6 cap6)]), _, _, (tr2 ++ [(mkI (l.getD at2 zM).key (mkV ((getK M (l.getD at2 zM).key).ver.n + 1) (l.getD at2 zM).who) (l.getD at2 zM).ao (l.getD at2 zM).cap (l.getD at2 zM).val)]), _, _, (fun kz => ([.pointer (some ⟨g1, 0, none⟩), .pointer (some ⟨g2, 0, none⟩), .bool (getM M (l.getD at2 zM).key).isSome, .pointer (some ⟨g3, 0, none⟩), .int .i64 0, us3 5, us3 6, .int .i64 ((at2 : Nat) : Int), .slice ao l.length cap, .int .i64 ((l.length : Nat) : Int), .bool true, .bool true, .int .i64 ((at2 : Nat) : Int), .bool true, .bool true, .bool true, .pointer (some ⟨vp, 0, none⟩), .bool false, .bool true, .bool true, .int .i64 ((at2 : Nat) : Int), .int .i64 ((at2 + 1 : Nat) : Int), .slice ao l.length cap, .int .i64 ((at2 : Nat) : Int), .pointer (pK kM ao at2 0), .agg (itA (l.getD at2 zM)), .pointer (some ⟨g1, 16, none⟩), .pointer (some ⟨g1, 16, none⟩), .int .i64 (l.getD at2 zM).n, .int .i64 ((l.getD at2 zM).n.tmod 2), .bool true, .tuple #[.agg (itA ((getK M (l.getD at2 zM).key).re ao4 cap4)), .bool (getM M (l.getD at2 zM).key).isSome], .pointer (some ⟨vp, 0, none⟩), .pointer (some ⟨g1, 0, none⟩), .agg (idA (l.getD at2 zM).key), .tuple #[.agg (itA ((getK M (l.getD at2 zM).key).re ao4 cap4)), .bool (getM M (l.getD at2 zM).key).isSome], .agg (itA ((getK M (l.getD at2 zM).key).re ao4 cap4)), .bool (getM M (l.getD at2 zM).key).isSome, .tuple #[.agg (itA ((mkI (l.getD at2 zM).key (mkV ((getK M (l.getD at2 zM).key).ver.n + 1) (l.getD at2 zM).who) (l.getD at2 zM).ao (l.getD at2 zM).cap (l.getD at2 zM).val).re ao6 cap6)), .int .i64 0], .pointer (some ⟨vp, 0, none⟩), .pointer (some ⟨g1, 0, none⟩), .agg (idA (l.getD at2 zM).key), .pointer (some ⟨g1, 33, none⟩), .slice (l.getD at2 zM).ao (l.getD at2 zM).val.length (l.getD at2 zM).cap, .pointer (some ⟨g1, 16, none⟩), .pointer (some ⟨g1, 17, none⟩), .agg (idA (l.getD at2 zM).who), .tuple #[.agg (itA ((mkI (l.getD at2 zM).key (mkV ((getK M (l.getD at2 zM).key).ver.n + 1) (l.getD at2 zM).who) (l.getD at2 zM).ao (l.getD at2 zM).cap (l.getD at2 zM).val).re ao6 cap6)), .int .i64 0], .agg (itA ((mkI (l.getD at2 zM).key (mkV ((getK M (l.getD at2 zM).key).ver.n + 1) (l.getD at2 zM).who) (l.getD at2 zM).ao (l.getD at2 zM).cap (l.getD at2 zM).val).re ao6 cap6)), .int .i64 0, .int .i64 0, .bool true, .slice so2 su2.length sc2, .agg (itA ((mkI (l.getD at2 zM).key (mkV ((getK M (l.getD at2 zM).key).ver.n + 1) (l.getD at2 zM).who) (l.getD at2 zM).ao (l.getD at2 zM).cap (l.getD at2 zM).val).re ao6 cap6)), .slice (some ⟨q118, 0, none⟩) 1 1, .slice ar119 (su2 ++ [((mkI (l.getD at2 zM).key (mkV ((getK M (l.getD at2 zM).key).ver.n + 1) (l.getD at2 zM).who) (l.getD at2 zM).ao (l.getD at2 zM).cap (l.getD at2 zM).val).re ao6 cap6)]).length cr119, .slice to2 tr2.length tc2, .pointer (some ⟨g1, 0, none⟩), .agg (idA (l.getD at2 zM).key), .pointer (some ⟨g2, 16, none⟩), .pointer (some ⟨g2, 16, none⟩), .int .i64 ((getK M (l.getD at2 zM).key).re ao4 cap4).n, .int .i64 ((getK M (l.getD at2 zM).key).ver.n + 1), .pointer (some ⟨g1, 16, none⟩), .pointer (some ⟨g1, 17, none⟩), .agg (idA (l.getD at2 zM).who), .agg (veA (mkV ((getK M (l.getD at2 zM).key).ver.n + 1) (l.getD at2 zM).who)), .pointer (some ⟨g1, 33, none⟩), .slice (l.getD at2 zM).ao (l.getD at2 zM).val.length (l.getD at2 zM).cap, .agg (itA (mkI (l.getD at2 zM).key (mkV ((getK M (l.getD at2 zM).key).ver.n + 1) (l.getD at2 zM).who) (l.getD at2 zM).ao (l.getD at2 zM).cap (l.getD at2 zM).val)), .slice (some ⟨q134, 0, none⟩) 1 1, .slice ar135 (tr2 ++ [(mkI (l.getD at2 zM).key (mkV ((getK M (l.getD at2 zM).key).ver.n + 1) (l.getD at2 zM).who) (l.getD at2 zM).ao (l.getD at2 zM).cap (l.getD at2 zM).val)]).length cr135, us3 72, us3 73, us3 74, us3 75, us3 76, us3 77, us3 78, us3 79, us3 80, us3 81, us3 82, us3 83, us3 84, us3 85, us3 86, us3 87, us3 88, us3 89, us3 90, us3 91] : List Value).getD kz undef), rfl, rfl, GG, HVz.gro GV3, HP.item HV.vb.map.kn hn0 hito (by show 0 ≤ (getK M (l.getD at2 zM).key).n + 1; omega) (isN_put _ _ _ _ _) HA4.yes ao5 cap5, HA4.okp, ⟨by omega, by omega, by omega, by omega, by omega, by omega, by rw [List.length_append]; simp only [List.length_singleton]; omega, by rw [List.length_append]; simp only [List.length_singleton]; omega⟩, HSu, HTr, hap, snoc_all hsn (by show 0 ≤ (getK M (l.getD at2 zM).key).n + 1; omega), snoc_all htv hxn, by rw [map_it_snoc]; exact hsu.take HP.sk (mkI (l.getD at2 zM).key (mkV ((getK M (l.getD at2 zM).key).ver.n + 1) (l.getD at2 zM).who) (l.getD at2 zM).ao (l.getD at2 zM).cap (l.getD at2 zM).val).it, by rw [map_it_snoc]; exact htr.take (mkI (l.getD at2 zM).key (mkV ((getK M (l.getD at2 zM).key).ver.n + 1) (l.getD at2 zM).who) (l.getD at2 zM).ao (l.getD at2 zM).cap (l.getD at2 zM).val).it⟩
                    · clear hrs
                      have t7 : decide (err = 0) = false := decide_eq_false he1
                      refine wp_region_lit ?_
                      refine s_val 103 rfl rfl (.pointer (some ⟨vp, 0, none⟩)) (rfl) ?_
                      refine nr ?_; intro U h; simp only [z0, z1] at h; subst h
                      refine s_val 104 rfl rfl (.pointer (some ⟨g1, 0, none⟩)) (run_fld 56 _ 0 rfl g1 0 rfl 0 (by kernel_rfl)) ?_
                      refine nr ?_; intro U h; simp only [z0, z1] at h; subst h
                      refine s_val 105 rfl rfl (.agg (idA (l.getD at2 zM).key)) (ldItk _ rfl g1 rfl (kg1)) ?_
                      refine nr ?_; intro U h; simp only [z0, z1] at h; subst h
                      refine s_val 106 rfl rfl (.pointer (some ⟨g1, 33, none⟩)) (run_fld 56 _ 2 rfl g1 0 rfl 33 (by kernel_rfl)) ?_
                      refine nr ?_; intro U h; simp only [z0, z1] at h; subst h
                      refine s_val 107 rfl rfl (.slice (l.getD at2 zM).ao (l.getD at2 zM).val.length (l.getD at2 zM).cap) (ldItr _ rfl g1 rfl (kg1)) ?_
                      refine nr ?_; intro U h; simp only [z0, z1] at h; subst h
                      refine s_val 108 rfl rfl (.pointer (some ⟨g1, 16, none⟩)) (run_fld 56 _ 1 rfl g1 0 rfl 16 (by kernel_rfl)) ?_
                      refine nr ?_; intro U h; simp only [z0, z1] at h; subst h
                      refine s_val 109 rfl rfl (.pointer (some ⟨g1, 17, none⟩)) (run_fld 54 _ 1 rfl g1 16 rfl 17 (by kernel_rfl)) ?_
                      refine nr ?_; intro U h; simp only [z0, z1] at h; subst h
                      refine s_val 110 rfl rfl (.agg (idA (l.getD at2 zM).who)) (ldItw _ rfl g1 rfl (kg1)) ?_
                      refine nr ?_; intro U h; simp only [z0, z1] at h; subst h
                      have szz4 := GG.size
                      refine s_callx 111 rfl rfl _ 28 Try.call28 rfl rfl _ rfl [.pointer (some ⟨vp, 0, none⟩), .agg (idA (l.getD at2 zM).key), .slice (l.getD at2 zM).ao (l.getD at2 zM).val.length (l.getD at2 zM).cap, .agg (idA (l.getD at2 zM).who)] rfl ((put_go [vp, lp, mb, p, sg] _ vp lp p sg mb 900 L3 pw3 dn3 h3 false ((c + 1 : Nat) : Int) M HVo (l.getD at2 zM).key hxo.key (l.getD at2 zM).ao (l.getD at2 zM).cap (l.getD at2 zM).val (l.getD at2 zM).who hxo.who hl1 hf ⟨hxn.gro GG, fun ad ha h0 hk => by (have := hxn.lt ad ha h0; simp only [List.mem_cons, List.not_mem_nil, or_false] at hk; omega)⟩ rs3 err L4 pw4 h4 dw4 rs4 HA4 SA4 (by omega) (by omega)).mono fun e w' h => h.no he1) (by rintro _ _ ⟨_, he, _, _, _, _⟩; exact ⟨_, he⟩) ?_
                      rintro v w12 ⟨dn4, he, G, HV2, hd5, hd6⟩
                      cases he
                      replace kg1 := G.has kg1 (HVo.nin kg1 (by decide))
                      replace kg2 := G.has kg2 (HVo.nin kg2 (by decide))
                      replace HSu := HVo.keepW G HSu
                      replace HTr := HVo.keepW G HTr
                      replace GG := G.gro GG (fun k hk => by simp only [List.mem_cons, List.not_mem_nil, or_false] at hk; omega)
                      have GV2 := Gro.refl w12
                      clear GV
                      refine nr ?_; intro U h; simp only [z0, z1] at h; subst h
                      refine s_val 102 rfl rfl (.tuple #[.agg (itA zM), .int .i64 err]) (rfl) ?_
                      refine nr ?_; intro U h; simp only [z0, z1] at h; subst h
                      refine s_val 112 rfl rfl (.agg (itA zM)) (rfl) ?_
                      refine nr ?_; intro U h; simp only [z0, z1] at h; subst h
                      refine s_val 113 rfl rfl (.int .i64 err) (rfl) ?_
                      refine nr ?_; intro U h; simp only [z0, z1] at h; subst h
                      refine s_alloc 15 rfl rfl 56 rfl _ zeroIt (itA zM) rfl ?_
                      intro w13 g3 G eg3 kg3
                      have bg3 := size_base GG eg3
                      have dg1g3 := lt_new kg1 eg3
                      have dg2g3 := lt_new kg2 eg3
                      have dHSug3 := HSu.ne eg3
                      have dHTrg3 := HTr.ne eg3
                      have dGV2g3 := GV2.ne eg3
                      replace kg1 := G.has kg1
                      replace kg2 := G.has kg2
                      replace HSu := HSu.gro G
                      replace HTr := HTr.gro G
                      replace GV2 := GV2.gro G
                      replace GG := GG.trans G
                      clear G
                      clear eg3
                      refine nr ?_; intro U h; simp only [z0, z1] at h; subst h
                      refine s_store rfl rfl 56 _ _ rfl g3 0 rfl (.agg (itA zM)) rfl 56 _ kg3 (itA zM) rfl (siIt' _) (itA_fit _ _) (itA_one _) (itA zM) (splice_whole _ _ (itA_sz _ _)) ?_
                      intro w14 St
                      replace kg1 := St.has (by omega) kg1
                      replace kg2 := St.has (by omega) kg2
                      replace HSu := HSu.st St dHSug3
                      replace HTr := HTr.st St dHTrg3
                      replace GV2 := GV2.st St dGV2g3
                      replace GG := GG.store St bg3
                      replace kg3 := St.new
                      clear St
                      refine s_val 16 rfl rfl (.int .i64 err) (rfl) ?_
                      refine nr ?_; intro U h; simp only [z0, z1] at h; subst h
                      refine wpList_nil ?_
                      refine then_n ?_
                      refine wp_seq ?_
                      refine wp_seq ?_
                      refine wp_region_lit ?_
                      refine s_val 114 rfl rfl (.int .i64 err) (rfl) ?_
                      refine nr ?_; intro U h; simp only [z0, z1] at h; subst h
                      refine s_val 115 rfl rfl (.bool false) (run_eq_k 26 .i64 _ _ _ rfl Try.underlying26 err 0 rfl rfl false t7 _) ?_
                      refine nr ?_; intro U h; simp only [z0, z1] at h; subst h
                      refine wpList_nil ?_
                      refine then_n ?_
                      refine wp_cond_false rfl ?_
                      refine wp_skip ?_
                      refine then_n ?_
                      refine wp_region_lit ?_
                      refine s_val 120 rfl rfl (.slice to2 tr2.length tc2) (rfl) ?_
                      refine nr ?_; intro U h; simp only [z0, z1] at h; subst h
                      refine s_val 121 rfl rfl (.pointer (some ⟨g1, 0, none⟩)) (run_fld 56 _ 0 rfl g1 0 rfl 0 (by kernel_rfl)) ?_
                      refine nr ?_; intro U h; simp only [z0, z1] at h; subst h
                      refine s_val 122 rfl rfl (.agg (idA (l.getD at2 zM).key)) (ldItk _ rfl g1 rfl (kg1)) ?_
                      refine nr ?_; intro U h; simp only [z0, z1] at h; subst h
                      refine s_val 123 rfl rfl (.pointer (some ⟨g2, 16, none⟩)) (run_fld 56 _ 1 rfl g2 0 rfl 16 (by kernel_rfl)) ?_
                      refine nr ?_; intro U h; simp only [z0, z1] at h; subst h
                      refine s_val 124 rfl rfl (.pointer (some ⟨g2, 16, none⟩)) (run_fld 54 _ 0 rfl g2 16 rfl 16 (by kernel_rfl)) ?_
                      refine nr ?_; intro U h; simp only [z0, z1] at h; subst h
                      refine s_val 125 rfl rfl (.int .i64 ((getK M (l.getD at2 zM).key).re ao4 cap4).n) (ldItn _ rfl g2 rfl (kg2)) ?_
                      refine nr ?_; intro U h; simp only [z0, z1] at h; subst h
                      refine s_val 126 rfl rfl (.int .i64 ((getK M (l.getD at2 zM).key).ver.n + 1)) (run_addI 2 _ _ _ rfl ((getK M (l.getD at2 zM).key).re ao4 cap4).n 1 ((getK M (l.getD at2 zM).key).ver.n + 1) rfl rfl (by omega) (by omega) (by omega) _) ?_
                      refine nr ?_; intro U h; simp only [z0, z1] at h; subst h
                      refine s_val 127 rfl rfl (.pointer (some ⟨g1, 16, none⟩)) (run_fld 56 _ 1 rfl g1 0 rfl 16 (by kernel_rfl)) ?_
                      refine nr ?_; intro U h; simp only [z0, z1] at h; subst h
                      refine s_val 128 rfl rfl (.pointer (some ⟨g1, 17, none⟩)) (run_fld 54 _ 1 rfl g1 16 rfl 17 (by kernel_rfl)) ?_
                      refine nr ?_; intro U h; simp only [z0, z1] at h; subst h
                      refine s_val 129 rfl rfl (.agg (idA (l.getD at2 zM).who)) (ldItw _ rfl g1 rfl (kg1)) ?_
                      refine nr ?_; intro U h; simp only [z0, z1] at h; subst h
                      refine s_val 130 rfl rfl (.agg (veA (mkV ((getK M (l.getD at2 zM).key).ver.n + 1) (l.getD at2 zM).who))) (run_bd 54 _ rfl [(0, .int .i64 ((getK M (l.getD at2 zM).key).ver.n + 1)), (1, .agg (idA (l.getD at2 zM).who))] rfl _ (bdV01 ((getK M (l.getD at2 zM).key).ver.n + 1) (l.getD at2 zM).who _)) ?_
                      refine nr ?_; intro U h; simp only [z0, z1] at h; subst h
                      refine s_val 131 rfl rfl (.pointer (some ⟨g1, 33, none⟩)) (run_fld 56 _ 2 rfl g1 0 rfl 33 (by kernel_rfl)) ?_
                      refine nr ?_; intro U h; simp only [z0, z1] at h; subst h
                      refine s_val 132 rfl rfl (.slice (l.getD at2 zM).ao (l.getD at2 zM).val.length (l.getD at2 zM).cap) (ldItr _ rfl g1 rfl (kg1)) ?_
                      refine nr ?_; intro U h; simp only [z0, z1] at h; subst h
                      refine s_val 133 rfl rfl (.agg (itA (mkI (l.getD at2 zM).key (mkV ((getK M (l.getD at2 zM).key).ver.n + 1) (l.getD at2 zM).who) (l.getD at2 zM).ao (l.getD at2 zM).cap (l.getD at2 zM).val))) (run_bd 56 _ rfl [(0, .agg (idA (l.getD at2 zM).key)), (1, .agg (veA (mkV ((getK M (l.getD at2 zM).key).ver.n + 1) (l.getD at2 zM).who))), (2, .slice (l.getD at2 zM).ao (l.getD at2 zM).val.length (l.getD at2 zM).cap)] rfl _ (bdI012 (l.getD at2 zM).key (mkV ((getK M (l.getD at2 zM).key).ver.n + 1) (l.getD at2 zM).who) (l.getD at2 zM).ao (l.getD at2 zM).cap (l.getD at2 zM).val _)) ?_
                      refine nr ?_; intro U h; simp only [z0, z1] at h; subst h
                      refine s_bsl 134 rfl rfl 45 1 _ rfl [(0, .agg (itA (mkI (l.getD at2 zM).key (mkV ((getK M (l.getD at2 zM).key).ver.n + 1) (l.getD at2 zM).who) (l.getD at2 zM).ao (l.getD at2 zM).cap (l.getD at2 zM).val)))] rfl ([(mkI (l.getD at2 zM).key (mkV ((getK M (l.getD at2 zM).key).ver.n + 1) (l.getD at2 zM).who) (l.getD at2 zM).ao (l.getD at2 zM).cap (l.getD at2 zM).val)].flatMap kM.E).toArray 56 (bsM _ _) ?_
                      intro w15 q134 G eq2 kq2
                      replace kg1 := G.has kg1
                      replace kg2 := G.has kg2
                      replace kg3 := G.has kg3
                      replace HSu := HSu.gro G
                      replace HTr := HTr.gro G
                      replace GV2 := GV2.gro G
                      replace GG := GG.trans G
                      clear G
                      have HQ : RK kM w15 (some ⟨q134, 0, none⟩) 1 [(mkI (l.getD at2 zM).key (mkV ((getK M (l.getD at2 zM).key).ver.n + 1) (l.getD at2 zM).who) (l.getD at2 zM).ao (l.getD at2 zM).cap (l.getD at2 zM).val)] := RK.blk kq2 (one_all (mkI_ok hxo.key (mkV_ok ⟨by omega, by omega⟩ hxo.who))) (Nat.le_refl _)
                      clear eq2 kq2
                      refine nr ?_; intro U h; simp only [z0, z1] at h; subst h
                      refine s_appK rM (by decide) 135 rfl rfl _ _ rfl rfl HTr (l' := [(mkI (l.getD at2 zM).key (mkV ((getK M (l.getD at2 zM).key).ver.n + 1) (l.getD at2 zM).who) (l.getD at2 zM).ao (l.getD at2 zM).cap (l.getD at2 zM).val)]) rfl HQ (by simp only [List.length_singleton]; omega) GG.size ?_
                      intro ar135 cr135 w16 HT2 G hKp
                      replace kg1 := G.has kg1 (dHTrg1)
                      replace kg2 := G.has kg2 (dHTrg2)
                      replace kg3 := G.has kg3 (dHTrg3)
                      have HVy := (HV2.gro GV2).gros G (fun k hk => by
                        obtain ⟨cur, hc, _⟩ := HTr.blkt hk
                        exact ⟨(HV2.gro GV2).nin hc (by decide), (HV2.gro GV2).nrow hc (by decide)⟩)
                      have hapO := hap
                      replace hap := apart_kept HSu hapO hKp
                      replace HSu := HSu.gros G hapO
                      clear hapO
                      replace GG := G.gro GG (fun k hk => (HTr.blkt hk).choose_spec.2)
                      clear GV2 HTr G HQ hKp
                      have HTr := HT2
                      clear HT2
                      have HVz := HVy
                      clear HVy
                      have GV3 := Gro.refl w16
                      refine nr ?_; intro U h; simp only [z0, z1] at h; subst h
                      refine s_val 7 rfl rfl (.slice ar135 (tr2 ++ [(mkI (l.getD at2 zM).key (mkV ((getK M (l.getD at2 zM).key).ver.n + 1) (l.getD at2 zM).who) (l.getD at2 zM).ao (l.getD at2 zM).cap (l.getD at2 zM).val)]).length cr135) (rfl) ?_
                      refine nr ?_; intro U h; simp only [z0, z1] at h; subst h
                      refine wpList_nil ?_
                      refine blk_n ?_
                      refine then_n ?_
                      refine wp_region_lit ?_
                      refine s_val 84 rfl rfl (.int .i64 ((at2 : Nat) : Int)) (rfl) ?_
                      refine nr ?_; intro U h; simp only [z0, z1] at h; subst h
                      refine s_val 85 rfl rfl (.int .i64 ((at2 + 1 : Nat) : Int)) (run_addI 3 _ _ _ rfl ((at2 : Nat) : Int) 1 ((at2 + 1 : Nat) : Int) rfl rfl (by omega) (by omega) (by omega) _) ?_
                      refine nr ?_; intro U h; simp only [z0, z1] at h; subst h
                      refine s_val 8 rfl rfl (.int .i64 ((at2 + 1 : Nat) : Int)) (rfl) ?_
                      refine nr ?_; intro U h; simp only [z0, z1] at h; subst h
                      refine wpList_nil ?_
                      refine then_n ?_
                      exact ⟨_, by omega, at2 + 1, L4, pw4, dn4, h4, _, _, M, dw4, su2, _, _, (tr2 ++ [(mkI (l.getD at2 zM).key (mkV ((getK M (l.getD at2 zM).key).ver.n + 1) (l.getD at2 zM).who) (l.getD at2 zM).ao (l.getD at2 zM).cap (l.getD at2 zM).val)]), _, _, (fun kz => ([.pointer (some ⟨g1, 0, none⟩), .pointer (some ⟨g2, 0, none⟩), .bool (getM M (l.getD at2 zM).key).isSome, .pointer (some ⟨g3, 0, none⟩), .int .i64 err, us3 5, us3 6, .int .i64 ((at2 : Nat) : Int), .slice ao l.length cap, .int .i64 ((l.length : Nat) : Int), .bool true, .bool true, .int .i64 ((at2 : Nat) : Int), .bool true, .bool true, .bool true, .pointer (some ⟨vp, 0, none⟩), .bool false, .bool true, .bool true, .int .i64 ((at2 : Nat) : Int), .int .i64 ((at2 + 1 : Nat) : Int), .slice ao l.length cap, .int .i64 ((at2 : Nat) : Int), .pointer (pK kM ao at2 0), .agg (itA (l.getD at2 zM)), .pointer (some ⟨g1, 16, none⟩), .pointer (some ⟨g1, 16, none⟩), .int .i64 (l.getD at2 zM).n, .int .i64 ((l.getD at2 zM).n.tmod 2), .bool true, .tuple #[.agg (itA ((getK M (l.getD at2 zM).key).re ao4 cap4)), .bool (getM M (l.getD at2 zM).key).isSome], .pointer (some ⟨vp, 0, none⟩), .pointer (some ⟨g1, 0, none⟩), .agg (idA (l.getD at2 zM).key), .tuple #[.agg (itA ((getK M (l.getD at2 zM).key).re ao4 cap4)), .bool (getM M (l.getD at2 zM).key).isSome], .agg (itA ((getK M (l.getD at2 zM).key).re ao4 cap4)), .bool (getM M (l.getD at2 zM).key).isSome, .tuple #[.agg (itA zM), .int .i64 err], .pointer (some ⟨vp, 0, none⟩), .pointer (some ⟨g1, 0, none⟩), .agg (idA (l.getD at2 zM).key), .pointer (some ⟨g1, 33, none⟩), .slice (l.getD at2 zM).ao (l.getD at2 zM).val.length (l.getD at2 zM).cap, .pointer (some ⟨g1, 16, none⟩), .pointer (some ⟨g1, 17, none⟩), .agg (idA (l.getD at2 zM).who), .tuple #[.agg (itA zM), .int .i64 err], .agg (itA zM), .int .i64 err, .int .i64 err, .bool false, us3 52, us3 53, us3 54, us3 55, .slice to2 tr2.length tc2, .pointer (some ⟨g1, 0, none⟩), .agg (idA (l.getD at2 zM).key), .pointer (some ⟨g2, 16, none⟩), .pointer (some ⟨g2, 16, none⟩), .int .i64 ((getK M (l.getD at2 zM).key).re ao4 cap4).n, .int .i64 ((getK M (l.getD at2 zM).key).ver.n + 1), .pointer (some ⟨g1, 16, none⟩), .pointer (some ⟨g1, 17, none⟩), .agg (idA (l.getD at2 zM).who), .agg (veA (mkV ((getK M (l.getD at2 zM).key).ver.n + 1) (l.getD at2 zM).who)), .pointer (some ⟨g1, 33, none⟩), .slice (l.getD at2 zM).ao (l.getD at2 zM).val.length (l.getD at2 zM).cap, .agg (itA (mkI (l.getD at2 zM).key (mkV ((getK M (l.getD at2 zM).key).ver.n + 1) (l.getD at2 zM).who) (l.getD at2 zM).ao (l.getD at2 zM).cap (l.getD at2 zM).val)), .slice (some ⟨q134, 0, none⟩) 1 1, .slice ar135 (tr2 ++ [(mkI (l.getD at2 zM).key (mkV ((getK M (l.getD at2 zM).key).ver.n + 1) (l.getD at2 zM).who) (l.getD at2 zM).ao (l.getD at2 zM).cap (l.getD at2 zM).val)]).length cr135, us3 72, us3 73, us3 74, us3 75, us3 76, us3 77, us3 78, us3 79, us3 80, us3 81, us3 82, us3 83, us3 84, us3 85, us3 86, us3 87, us3 88, us3 89, us3 90, us3 91] : List Value).getD kz undef), rfl, rfl, GG, HVz.gro GV3, HP.fail (HA4.no he1), HA4.okp, ⟨by omega, by omega, by omega, by omega, by omega, by omega, by omega, by rw [List.length_append]; simp only [List.length_singleton]; omega⟩, HSu, HTr, hap, hsn, snoc_all htv hxn, hsu, by rw [map_it_snoc]; exact htr.more _⟩
                · have hl1 := of_decide_eq_true hl
                  refine wp_region_lit ?_
                  refine s_val 103 rfl rfl (.pointer (some ⟨vp, 0, none⟩)) (rfl) ?_
                  refine nr ?_; intro U h; simp only [z0, z1] at h; subst h
                  refine s_val 104 rfl rfl (.pointer (some ⟨g1, 0, none⟩)) (run_fld 56 _ 0 rfl g1 0 rfl 0 (by kernel_rfl)) ?_
                  refine nr ?_; intro U h; simp only [z0, z1] at h; subst h
                  refine s_val 105 rfl rfl (.agg (idA (l.getD at2 zM).key)) (ldItk _ rfl g1 rfl (kg1)) ?_
                  refine nr ?_; intro U h; simp only [z0, z1] at h; subst h
                  refine s_val 106 rfl rfl (.pointer (some ⟨g1, 33, none⟩)) (run_fld 56 _ 2 rfl g1 0 rfl 33 (by kernel_rfl)) ?_
                  refine nr ?_; intro U h; simp only [z0, z1] at h; subst h
                  refine s_val 107 rfl rfl (.slice (l.getD at2 zM).ao (l.getD at2 zM).val.length (l.getD at2 zM).cap) (ldItr _ rfl g1 rfl (kg1)) ?_
                  refine nr ?_; intro U h; simp only [z0, z1] at h; subst h
                  refine s_val 108 rfl rfl (.pointer (some ⟨g1, 16, none⟩)) (run_fld 56 _ 1 rfl g1 0 rfl 16 (by kernel_rfl)) ?_
                  refine nr ?_; intro U h; simp only [z0, z1] at h; subst h
                  refine s_val 109 rfl rfl (.pointer (some ⟨g1, 17, none⟩)) (run_fld 54 _ 1 rfl g1 16 rfl 17 (by kernel_rfl)) ?_
                  refine nr ?_; intro U h; simp only [z0, z1] at h; subst h
                  refine s_val 110 rfl rfl (.agg (idA (l.getD at2 zM).who)) (ldItw _ rfl g1 rfl (kg1)) ?_
                  refine nr ?_; intro U h; simp only [z0, z1] at h; subst h
                  refine s_callv 111 rfl rfl _ 28 Try.call28 rfl rfl _ rfl [.pointer (some ⟨vp, 0, none⟩), .agg (idA (l.getD at2 zM).key), .slice (l.getD at2 zM).ao (l.getD at2 zM).val.length (l.getD at2 zM).cap, .agg (idA (l.getD at2 zM).who)] rfl (put_long [vp, lp, mb, p, sg] _ vp lp p sg mb 900 L3 pw3 dn3 h3 false ((c + 1 : Nat) : Int) M HVo (l.getD at2 zM).key (l.getD at2 zM).ao (l.getD at2 zM).cap (l.getD at2 zM).val (l.getD at2 zM).who hl1) ?_
                  intro w12 G
                  replace kg1 := G.has kg1
                  replace kg2 := G.has kg2
                  replace HSu := HSu.gro G
                  replace HTr := HTr.gro G
                  replace GV := GV.gro G
                  replace GG := GG.trans G
                  clear G
                  refine nr ?_; intro U h; simp only [z0, z1] at h; subst h
                  refine s_val 102 rfl rfl (.tuple #[.agg (itA zM), .int .i64 4]) (rfl) ?_
                  refine nr ?_; intro U h; simp only [z0, z1] at h; subst h
                  refine s_val 112 rfl rfl (.agg (itA zM)) (rfl) ?_
                  refine nr ?_; intro U h; simp only [z0, z1] at h; subst h
                  refine s_val 113 rfl rfl (.int .i64 4) (rfl) ?_
                  refine nr ?_; intro U h; simp only [z0, z1] at h; subst h
                  refine s_alloc 15 rfl rfl 56 rfl _ zeroIt (itA zM) rfl ?_
                  intro w13 g3 G eg3 kg3
                  have bg3 := size_base GG eg3
                  have dg1g3 := lt_new kg1 eg3
                  have dg2g3 := lt_new kg2 eg3
                  have dHSug3 := HSu.ne eg3
                  have dHTrg3 := HTr.ne eg3
                  have dGVg3 := GV.ne eg3
                  replace kg1 := G.has kg1
                  replace kg2 := G.has kg2
                  replace HSu := HSu.gro G
                  replace HTr := HTr.gro G
                  replace GV := GV.gro G
                  replace GG := GG.trans G
                  clear G
                  clear eg3
                  refine nr ?_; intro U h; simp only [z0, z1] at h; subst h
                  refine s_store rfl rfl 56 _ _ rfl g3 0 rfl (.agg (itA zM)) rfl 56 _ kg3 (itA zM) rfl (siIt' _) (itA_fit _ _) (itA_one _) (itA zM) (splice_whole _ _ (itA_sz _ _)) ?_
                  intro w14 St
                  replace kg1 := St.has (by omega) kg1
                  replace kg2 := St.has (by omega) kg2
                  replace HSu := HSu.st St dHSug3
                  replace HTr := HTr.st St dHTrg3
                  replace GV := GV.st St dGVg3
                  replace GG := GG.store St bg3
                  replace kg3 := St.new
                  clear St
                  refine s_val 16 rfl rfl (.int .i64 4) (rfl) ?_
                  refine nr ?_; intro U h; simp only [z0, z1] at h; subst h
                  refine wpList_nil ?_
                  refine then_n ?_
                  refine wp_seq ?_
                  refine wp_seq ?_
                  refine wp_region_lit ?_
                  refine s_val 114 rfl rfl (.int .i64 4) (rfl) ?_
                  refine nr ?_; intro U h; simp only [z0, z1] at h; subst h
                  refine s_val 115 rfl rfl (.bool false) (run_eq_k 26 .i64 _ _ _ rfl Try.underlying26 4 0 rfl rfl false (by decide) _) ?_
                  refine nr ?_; intro U h; simp only [z0, z1] at h; subst h
                  refine wpList_nil ?_
                  refine then_n ?_
                  refine wp_cond_false rfl ?_
                  refine wp_skip ?_
                  refine then_n ?_
                  refine wp_region_lit ?_
                  refine s_val 120 rfl rfl (.slice to2 tr2.length tc2) (rfl) ?_
                  refine nr ?_; intro U h; simp only [z0, z1] at h; subst h
                  refine s_val 121 rfl rfl (.pointer (some ⟨g1, 0, none⟩)) (run_fld 56 _ 0 rfl g1 0 rfl 0 (by kernel_rfl)) ?_
                  refine nr ?_; intro U h; simp only [z0, z1] at h; subst h
                  refine s_val 122 rfl rfl (.agg (idA (l.getD at2 zM).key)) (ldItk _ rfl g1 rfl (kg1)) ?_
                  refine nr ?_; intro U h; simp only [z0, z1] at h; subst h
                  refine s_val 123 rfl rfl (.pointer (some ⟨g2, 16, none⟩)) (run_fld 56 _ 1 rfl g2 0 rfl 16 (by kernel_rfl)) ?_
                  refine nr ?_; intro U h; simp only [z0, z1] at h; subst h
                  refine s_val 124 rfl rfl (.pointer (some ⟨g2, 16, none⟩)) (run_fld 54 _ 0 rfl g2 16 rfl 16 (by kernel_rfl)) ?_
                  refine nr ?_; intro U h; simp only [z0, z1] at h; subst h
                  refine s_val 125 rfl rfl (.int .i64 ((getK M (l.getD at2 zM).key).re ao4 cap4).n) (ldItn _ rfl g2 rfl (kg2)) ?_
                  refine nr ?_; intro U h; simp only [z0, z1] at h; subst h
                  refine s_val 126 rfl rfl (.int .i64 ((getK M (l.getD at2 zM).key).ver.n + 1)) (run_addI 2 _ _ _ rfl ((getK M (l.getD at2 zM).key).re ao4 cap4).n 1 ((getK M (l.getD at2 zM).key).ver.n + 1) rfl rfl (by omega) (by omega) (by omega) _) ?_
                  refine nr ?_; intro U h; simp only [z0, z1] at h; subst h
                  refine s_val 127 rfl rfl (.pointer (some ⟨g1, 16, none⟩)) (run_fld 56 _ 1 rfl g1 0 rfl 16 (by kernel_rfl)) ?_
                  refine nr ?_; intro U h; simp only [z0, z1] at h; subst h
                  refine s_val 128 rfl rfl (.pointer (some ⟨g1, 17, none⟩)) (run_fld 54 _ 1 rfl g1 16 rfl 17 (by kernel_rfl)) ?_
                  refine nr ?_; intro U h; simp only [z0, z1] at h; subst h
                  refine s_val 129 rfl rfl (.agg (idA (l.getD at2 zM).who)) (ldItw _ rfl g1 rfl (kg1)) ?_
                  refine nr ?_; intro U h; simp only [z0, z1] at h; subst h
                  refine s_val 130 rfl rfl (.agg (veA (mkV ((getK M (l.getD at2 zM).key).ver.n + 1) (l.getD at2 zM).who))) (run_bd 54 _ rfl [(0, .int .i64 ((getK M (l.getD at2 zM).key).ver.n + 1)), (1, .agg (idA (l.getD at2 zM).who))] rfl _ (bdV01 ((getK M (l.getD at2 zM).key).ver.n + 1) (l.getD at2 zM).who _)) ?_
                  refine nr ?_; intro U h; simp only [z0, z1] at h; subst h
                  refine s_val 131 rfl rfl (.pointer (some ⟨g1, 33, none⟩)) (run_fld 56 _ 2 rfl g1 0 rfl 33 (by kernel_rfl)) ?_
                  refine nr ?_; intro U h; simp only [z0, z1] at h; subst h
                  refine s_val 132 rfl rfl (.slice (l.getD at2 zM).ao (l.getD at2 zM).val.length (l.getD at2 zM).cap) (ldItr _ rfl g1 rfl (kg1)) ?_
                  refine nr ?_; intro U h; simp only [z0, z1] at h; subst h
                  refine s_val 133 rfl rfl (.agg (itA (mkI (l.getD at2 zM).key (mkV ((getK M (l.getD at2 zM).key).ver.n + 1) (l.getD at2 zM).who) (l.getD at2 zM).ao (l.getD at2 zM).cap (l.getD at2 zM).val))) (run_bd 56 _ rfl [(0, .agg (idA (l.getD at2 zM).key)), (1, .agg (veA (mkV ((getK M (l.getD at2 zM).key).ver.n + 1) (l.getD at2 zM).who))), (2, .slice (l.getD at2 zM).ao (l.getD at2 zM).val.length (l.getD at2 zM).cap)] rfl _ (bdI012 (l.getD at2 zM).key (mkV ((getK M (l.getD at2 zM).key).ver.n + 1) (l.getD at2 zM).who) (l.getD at2 zM).ao (l.getD at2 zM).cap (l.getD at2 zM).val _)) ?_
                  refine nr ?_; intro U h; simp only [z0, z1] at h; subst h
                  refine s_bsl 134 rfl rfl 45 1 _ rfl [(0, .agg (itA (mkI (l.getD at2 zM).key (mkV ((getK M (l.getD at2 zM).key).ver.n + 1) (l.getD at2 zM).who) (l.getD at2 zM).ao (l.getD at2 zM).cap (l.getD at2 zM).val)))] rfl ([(mkI (l.getD at2 zM).key (mkV ((getK M (l.getD at2 zM).key).ver.n + 1) (l.getD at2 zM).who) (l.getD at2 zM).ao (l.getD at2 zM).cap (l.getD at2 zM).val)].flatMap kM.E).toArray 56 (bsM _ _) ?_
                  intro w15 q134 G eq2 kq2
                  replace kg1 := G.has kg1
                  replace kg2 := G.has kg2
                  replace kg3 := G.has kg3
                  replace HSu := HSu.gro G
                  replace HTr := HTr.gro G
                  replace GV := GV.gro G
                  replace GG := GG.trans G
                  clear G
                  have HQ : RK kM w15 (some ⟨q134, 0, none⟩) 1 [(mkI (l.getD at2 zM).key (mkV ((getK M (l.getD at2 zM).key).ver.n + 1) (l.getD at2 zM).who) (l.getD at2 zM).ao (l.getD at2 zM).cap (l.getD at2 zM).val)] := RK.blk kq2 (one_all (mkI_ok hxo.key (mkV_ok ⟨by omega, by omega⟩ hxo.who))) (Nat.le_refl _)
                  clear eq2 kq2
                  refine nr ?_; intro U h; simp only [z0, z1] at h; subst h
                  refine s_appK rM (by decide) 135 rfl rfl _ _ rfl rfl HTr (l' := [(mkI (l.getD at2 zM).key (mkV ((getK M (l.getD at2 zM).key).ver.n + 1) (l.getD at2 zM).who) (l.getD at2 zM).ao (l.getD at2 zM).cap (l.getD at2 zM).val)]) rfl HQ (by simp only [List.length_singleton]; omega) GG.size ?_
                  intro ar135 cr135 w16 HT2 G hKp
                  replace kg1 := G.has kg1 (dHTrg1)
                  replace kg2 := G.has kg2 (dHTrg2)
                  replace kg3 := G.has kg3 (dHTrg3)
                  have HVy := (HV.gro GV).gros G (fun k hk => by
                    obtain ⟨cur, hc, _⟩ := HTr.blkt hk
                    exact ⟨(HV.gro GV).nin hc (by decide), (HV.gro GV).nrow hc (by decide)⟩)
                  have hapO := hap
                  replace hap := apart_kept HSu hapO hKp
                  replace HSu := HSu.gros G hapO
                  clear hapO
                  replace GG := G.gro GG (fun k hk => (HTr.blkt hk).choose_spec.2)
                  clear GV HTr G HQ hKp
                  have HTr := HT2
                  clear HT2
                  have HVz := HVy
                  clear HVy
                  have GV3 := Gro.refl w16
                  refine nr ?_; intro U h; simp only [z0, z1] at h; subst h
                  refine s_val 7 rfl rfl (.slice ar135 (tr2 ++ [(mkI (l.getD at2 zM).key (mkV ((getK M (l.getD at2 zM).key).ver.n + 1) (l.getD at2 zM).who) (l.getD at2 zM).ao (l.getD at2 zM).cap (l.getD at2 zM).val)]).length cr135) (rfl) ?_
                  refine nr ?_; intro U h; simp only [z0, z1] at h; subst h
                  refine wpList_nil ?_
                  refine blk_n ?_
                  refine then_n ?_
                  refine wp_region_lit ?_
                  refine s_val 84 rfl rfl (.int .i64 ((at2 : Nat) : Int)) (rfl) ?_
                  refine nr ?_; intro U h; simp only [z0, z1] at h; subst h
                  refine s_val 85 rfl rfl (.int .i64 ((at2 + 1 : Nat) : Int)) (run_addI 3 _ _ _ rfl ((at2 : Nat) : Int) 1 ((at2 + 1 : Nat) : Int) rfl rfl (by omega) (by omega) (by omega) _) ?_
                  refine nr ?_; intro U h; simp only [z0, z1] at h; subst h
                  refine s_val 8 rfl rfl (.int .i64 ((at2 + 1 : Nat) : Int)) (rfl) ?_
                  refine nr ?_; intro U h; simp only [z0, z1] at h; subst h
                  refine wpList_nil ?_
                  refine then_n ?_
                  exact ⟨_, by omega, at2 + 1, L3, pw3, dn3, h3, _, _, M, false, su2, _, _, (tr2 ++ [(mkI (l.getD at2 zM).key (mkV ((getK M (l.getD at2 zM).key).ver.n + 1) (l.getD at2 zM).who) (l.getD at2 zM).ao (l.getD at2 zM).cap (l.getD at2 zM).val)]), _, _, (fun kz => ([.pointer (some ⟨g1, 0, none⟩), .pointer (some ⟨g2, 0, none⟩), .bool (getM M (l.getD at2 zM).key).isSome, .pointer (some ⟨g3, 0, none⟩), .int .i64 4, us3 5, us3 6, .int .i64 ((at2 : Nat) : Int), .slice ao l.length cap, .int .i64 ((l.length : Nat) : Int), .bool true, .bool true, .int .i64 ((at2 : Nat) : Int), .bool true, .bool true, .bool true, .pointer (some ⟨vp, 0, none⟩), .bool false, .bool true, .bool true, .int .i64 ((at2 : Nat) : Int), .int .i64 ((at2 + 1 : Nat) : Int), .slice ao l.length cap, .int .i64 ((at2 : Nat) : Int), .pointer (pK kM ao at2 0), .agg (itA (l.getD at2 zM)), .pointer (some ⟨g1, 16, none⟩), .pointer (some ⟨g1, 16, none⟩), .int .i64 (l.getD at2 zM).n, .int .i64 ((l.getD at2 zM).n.tmod 2), .bool true, .tuple #[.agg (itA ((getK M (l.getD at2 zM).key).re ao4 cap4)), .bool (getM M (l.getD at2 zM).key).isSome], .pointer (some ⟨vp, 0, none⟩), .pointer (some ⟨g1, 0, none⟩), .agg (idA (l.getD at2 zM).key), .tuple #[.agg (itA ((getK M (l.getD at2 zM).key).re ao4 cap4)), .bool (getM M (l.getD at2 zM).key).isSome], .agg (itA ((getK M (l.getD at2 zM).key).re ao4 cap4)), .bool (getM M (l.getD at2 zM).key).isSome, .tuple #[.agg (itA zM), .int .i64 4], .pointer (some ⟨vp, 0, none⟩), .pointer (some ⟨g1, 0, none⟩), .agg (idA (l.getD at2 zM).key), .pointer (some ⟨g1, 33, none⟩), .slice (l.getD at2 zM).ao (l.getD at2 zM).val.length (l.getD at2 zM).cap, .pointer (some ⟨g1, 16, none⟩), .pointer (some ⟨g1, 17, none⟩), .agg (idA (l.getD at2 zM).who), .tuple #[.agg (itA zM), .int .i64 4], .agg (itA zM), .int .i64 4, .int .i64 4, .bool false, us3 52, us3 53, us3 54, us3 55, .slice to2 tr2.length tc2, .pointer (some ⟨g1, 0, none⟩), .agg (idA (l.getD at2 zM).key), .pointer (some ⟨g2, 16, none⟩), .pointer (some ⟨g2, 16, none⟩), .int .i64 ((getK M (l.getD at2 zM).key).re ao4 cap4).n, .int .i64 ((getK M (l.getD at2 zM).key).ver.n + 1), .pointer (some ⟨g1, 16, none⟩), .pointer (some ⟨g1, 17, none⟩), .agg (idA (l.getD at2 zM).who), .agg (veA (mkV ((getK M (l.getD at2 zM).key).ver.n + 1) (l.getD at2 zM).who)), .pointer (some ⟨g1, 33, none⟩), .slice (l.getD at2 zM).ao (l.getD at2 zM).val.length (l.getD at2 zM).cap, .agg (itA (mkI (l.getD at2 zM).key (mkV ((getK M (l.getD at2 zM).key).ver.n + 1) (l.getD at2 zM).who) (l.getD at2 zM).ao (l.getD at2 zM).cap (l.getD at2 zM).val)), .slice (some ⟨q134, 0, none⟩) 1 1, .slice ar135 (tr2 ++ [(mkI (l.getD at2 zM).key (mkV ((getK M (l.getD at2 zM).key).ver.n + 1) (l.getD at2 zM).who) (l.getD at2 zM).ao (l.getD at2 zM).cap (l.getD at2 zM).val)]).length cr135, us3 72, us3 73, us3 74, us3 75, us3 76, us3 77, us3 78, us3 79, us3 80, us3 81, us3 82, us3 83, us3 84, us3 85, us3 86, us3 87, us3 88, us3 89, us3 90, us3 91] : List Value).getD kz undef), rfl, rfl, GG, HVz.gro GV3, HP, hP, ⟨by omega, by omega, by omega, by omega, by omega, by omega, by omega, by rw [List.length_append]; simp only [List.length_singleton]; omega⟩, HSu, HTr, hap, hsn, snoc_all htv hxn, hsu, by rw [map_it_snoc]; exact htr.more _⟩
        · skip
          cases t4 : decide (((at2 : Nat) : Int) < ((l.length : Nat) : Int))
          · refine wp_region_opq ?_
            intro OPS hY
            have y4 := hY 4 75 rfl
            have y8 := hY 8 79 rfl
            clear hY
            refine s_val 71 rfl rfl (.int .i64 ((at2 : Nat) : Int)) (rfl) ?_
            refine nr ?_; intro U h; simp only [z0, z1] at h; subst h
            refine s_val 72 rfl rfl (.slice ao l.length cap) (rfl) ?_
            refine nr ?_; intro U h; simp only [z0, z1] at h; subst h
            refine s_val 73 rfl rfl (.int .i64 ((l.length : Nat) : Int)) (run_len Try.underlying45 _ rfl _ _ _ rfl _) ?_
            refine nr ?_; intro U h; simp only [z0, z1] at h; subst h
            refine s_val 74 rfl rfl (.bool false) (run_lssT 3 _ _ _ rfl ((at2 : Nat) : Int) ((l.length : Nat) : Int) rfl rfl false t4 _) ?_
            refine nr ?_; intro U h; simp only [z0, z1] at h; subst h
            refine s_val 75 rfl rfl (.bool false) (rfl) ?_
            refine nr ?_; intro U h; simp only [z0, z1] at h; subst h
            refine s_skipY 76 rfl rfl y4 rfl ?_
            refine nr ?_; intro U h; simp only [z0, z1] at h; subst h
            refine s_skipY 77 rfl rfl y4 rfl ?_
            refine nr ?_; intro U h; simp only [z0, z1] at h; subst h
            refine s_val 78 rfl rfl (.bool false) (rfl) ?_
            refine nr ?_; intro U h; simp only [z0, z1] at h; subst h
            refine s_val 79 rfl rfl (.bool false) (rfl) ?_
            refine nr ?_; intro U h; simp only [z0, z1] at h; subst h
            refine s_skipY 80 rfl rfl y8 rfl ?_
            refine nr ?_; intro U h; simp only [z0, z1] at h; subst h
            refine s_skipY 81 rfl rfl y8 rfl ?_
            refine nr ?_; intro U h; simp only [z0, z1] at h; subst h
            refine s_skipY 82 rfl rfl y8 rfl ?_
            refine nr ?_; intro U h; simp only [z0, z1] at h; subst h
            refine s_val 83 rfl rfl (.bool false) (rfl) ?_
            refine nr ?_; intro U h; simp only [z0, z1] at h; subst h
            refine wpList_nil ?_
            refine then_n ?_
            refine wp_cond_false rfl ?_
            refine wp_exit ?_
            refine then_x ?_
            refine then_x ?_
            refine blk_x ?_
            refine blk_n ?_
            refine then_n ?_
            refine wp_region_lit ?_
            refine s_val 36 rfl rfl (.int .i64 ((k : Nat) : Int)) (rfl) ?_
            refine nr ?_; intro U h; simp only [z0, z1] at h; subst h
            refine s_val 37 rfl rfl (.int .i64 ((k + 1 : Nat) : Int)) (run_addI 3 _ _ _ rfl ((k : Nat) : Int) 1 ((k + 1 : Nat) : Int) rfl rfl (by omega) (by omega) (by omega) _) ?_
            refine nr ?_; intro U h; simp only [z0, z1] at h; subst h
            refine s_val 9 rfl rfl (.int .i64 ((k + 1 : Nat) : Int)) (rfl) ?_
            refine nr ?_; intro U h; simp only [z0, z1] at h; subst h
            refine wpList_nil ?_
            refine then_n ?_
            exact ⟨_, by omega, k + 1, at2, L3, pw3, dn3, h3, rs3, Ly, c + 1, su2, so2, sc2, tr2, to2, tc2, (fun kz => ([us1 0, .pointer (some ⟨vp, 0, none⟩), .int .i64 0, us3 0, us3 1, us3 2, us3 3, us3 4, us3 5, us3 6, .int .i64 ((k : Nat) : Int), .slice bo cu.length bc, .int .i64 ((cu.length : Nat) : Int), .bool true, .bool true, .int .i64 ((k : Nat) : Int), .bool true, .bool true, .int .i64 ((k : Nat) : Int), .int .i64 ((k + 1 : Nat) : Int), .pointer (some ⟨p, 0, none⟩), .tuple #[], .tuple #[.pointer (some ⟨vp, 0, none⟩), .int .i64 0], .pointer (some ⟨p, 0, none⟩), .tuple #[.pointer (some ⟨vp, 0, none⟩), .int .i64 0], .pointer (some ⟨vp, 0, none⟩), .int .i64 0, .pointer (some ⟨vp, 0, none⟩), .bool false, .bool false, .int .i64 0, .bool false, .bool false, .bool false, .pointer (some ⟨vp, 0, none⟩), .slice so su.length sc, .slice to tr.length tc, .bool true, .bool false, .bool false, us2 0, us2 1, us2 2, us2 3, us2 4, us2 5, us2 6, us2 7, us2 8, us2 9, us2 10, us2 11, us2 12, .int .i64 ((at2 : Nat) : Int), .slice ao l.length cap, .int .i64 ((l.length : Nat) : Int), .bool false, .bool false, undef, undef, .bool false, .bool false, undef, undef, undef, .bool false, us3 20, us3 21, us3 22, us3 23, us3 24, us3 25, us3 26, us3 27, us3 28, us3 29, us3 30, us3 31, us3 32, us3 33, us3 34, us3 35, us3 36, us3 37, us3 38, us3 39, us3 40, us3 41, us3 42, us3 43, us3 44, us3 45, us3 46, us3 47, us3 48, us3 49, us3 50, us3 51, us3 52, us3 53, us3 54, us3 55, us3 56, us3 57, us3 58, us3 59, us3 60, us3 61, us3 62, us3 63, us3 64, us3 65, us3 66, us3 67, us3 68, us3 69, us3 70, us3 71, us3 72, us3 73, us3 74, us3 75, us3 76, us3 77, us3 78, us3 79, us3 80, us3 81, us3 82, us3 83, us3 84, us3 85, us3 86, us3 87, us3 88, us3 89, us3 90, us3 91] : List Value).getD kz undef), rfl, rfl, GG, (HV.gro GV).dsk, HP.good, HP.hld, HP.sk, HP.ok, by omega, HSu, HTr, hap, hsn, htv, hsu, htr⟩
          · have hlt : at2 < l.length := by have := of_decide_eq_true t4; omega
            cases t5 : decide (((at2 : Nat) : Int) < 60)
            · refine wp_region_opq ?_
              intro OPS hY
              have y4 := hY 4 75 rfl
              have y8 := hY 8 79 rfl
              clear hY
              refine s_val 71 rfl rfl (.int .i64 ((at2 : Nat) : Int)) (rfl) ?_
              refine nr ?_; intro U h; simp only [z0, z1] at h; subst h
              refine s_val 72 rfl rfl (.slice ao l.length cap) (rfl) ?_
              refine nr ?_; intro U h; simp only [z0, z1] at h; subst h
              refine s_val 73 rfl rfl (.int .i64 ((l.length : Nat) : Int)) (run_len Try.underlying45 _ rfl _ _ _ rfl _) ?_
              refine nr ?_; intro U h; simp only [z0, z1] at h; subst h
              refine s_val 74 rfl rfl (.bool true) (run_lssT 3 _ _ _ rfl ((at2 : Nat) : Int) ((l.length : Nat) : Int) rfl rfl true t4 _) ?_
              refine nr ?_; intro U h; simp only [z0, z1] at h; subst h
              refine s_val 75 rfl rfl (.bool true) (rfl) ?_
              refine nr ?_; intro U h; simp only [z0, z1] at h; subst h
              refine s_gvalY 76 rfl rfl y4 rfl (.int .i64 ((at2 : Nat) : Int)) (rfl) ?_
              refine nr ?_; intro U h; simp only [z0, z1] at h; subst h
              refine s_gvalY 77 rfl rfl y4 rfl (.bool false) (run_lssT 3 _ _ _ rfl ((at2 : Nat) : Int) 60 rfl rfl false t5 _) ?_
              refine nr ?_; intro U h; simp only [z0, z1] at h; subst h
              refine s_val 78 rfl rfl (.bool false) (rfl) ?_
              refine nr ?_; intro U h; simp only [z0, z1] at h; subst h
              refine s_val 79 rfl rfl (.bool false) (rfl) ?_
              refine nr ?_; intro U h; simp only [z0, z1] at h; subst h
              refine s_skipY 80 rfl rfl y8 rfl ?_
              refine nr ?_; intro U h; simp only [z0, z1] at h; subst h
              refine s_skipY 81 rfl rfl y8 rfl ?_
              refine nr ?_; intro U h; simp only [z0, z1] at h; subst h
              refine s_skipY 82 rfl rfl y8 rfl ?_
              refine nr ?_; intro U h; simp only [z0, z1] at h; subst h
              refine s_val 83 rfl rfl (.bool false) (rfl) ?_
              refine nr ?_; intro U h; simp only [z0, z1] at h; subst h
              refine wpList_nil ?_
              refine then_n ?_
              refine wp_cond_false rfl ?_
              refine wp_exit ?_
              refine then_x ?_
              refine then_x ?_
              refine blk_x ?_
              refine blk_n ?_
              refine then_n ?_
              refine wp_region_lit ?_
              refine s_val 36 rfl rfl (.int .i64 ((k : Nat) : Int)) (rfl) ?_
              refine nr ?_; intro U h; simp only [z0, z1] at h; subst h
              refine s_val 37 rfl rfl (.int .i64 ((k + 1 : Nat) : Int)) (run_addI 3 _ _ _ rfl ((k : Nat) : Int) 1 ((k + 1 : Nat) : Int) rfl rfl (by omega) (by omega) (by omega) _) ?_
              refine nr ?_; intro U h; simp only [z0, z1] at h; subst h
              refine s_val 9 rfl rfl (.int .i64 ((k + 1 : Nat) : Int)) (rfl) ?_
              refine nr ?_; intro U h; simp only [z0, z1] at h; subst h
              refine wpList_nil ?_
              refine then_n ?_
              exact ⟨_, by omega, k + 1, at2, L3, pw3, dn3, h3, rs3, Ly, c + 1, su2, so2, sc2, tr2, to2, tc2, (fun kz => ([us1 0, .pointer (some ⟨vp, 0, none⟩), .int .i64 0, us3 0, us3 1, us3 2, us3 3, us3 4, us3 5, us3 6, .int .i64 ((k : Nat) : Int), .slice bo cu.length bc, .int .i64 ((cu.length : Nat) : Int), .bool true, .bool true, .int .i64 ((k : Nat) : Int), .bool true, .bool true, .int .i64 ((k : Nat) : Int), .int .i64 ((k + 1 : Nat) : Int), .pointer (some ⟨p, 0, none⟩), .tuple #[], .tuple #[.pointer (some ⟨vp, 0, none⟩), .int .i64 0], .pointer (some ⟨p, 0, none⟩), .tuple #[.pointer (some ⟨vp, 0, none⟩), .int .i64 0], .pointer (some ⟨vp, 0, none⟩), .int .i64 0, .pointer (some ⟨vp, 0, none⟩), .bool false, .bool false, .int .i64 0, .bool false, .bool false, .bool false, .pointer (some ⟨vp, 0, none⟩), .slice so su.length sc, .slice to tr.length tc, .bool true, .bool false, .bool false, us2 0, us2 1, us2 2, us2 3, us2 4, us2 5, us2 6, us2 7, us2 8, us2 9, us2 10, us2 11, us2 12, .int .i64 ((at2 : Nat) : Int), .slice ao l.length cap, .int .i64 ((l.length : Nat) : Int), .bool true, .bool true, .int .i64 ((at2 : Nat) : Int), .bool false, .bool false, .bool false, undef, undef, undef, .bool false, us3 20, us3 21, us3 22, us3 23, us3 24, us3 25, us3 26, us3 27, us3 28, us3 29, us3 30, us3 31, us3 32, us3 33, us3 34, us3 35, us3 36, us3 37, us3 38, us3 39, us3 40, us3 41, us3 42, us3 43, us3 44, us3 45, us3 46, us3 47, us3 48, us3 49, us3 50, us3 51, us3 52, us3 53, us3 54, us3 55, us3 56, us3 57, us3 58, us3 59, us3 60, us3 61, us3 62, us3 63, us3 64, us3 65, us3 66, us3 67, us3 68, us3 69, us3 70, us3 71, us3 72, us3 73, us3 74, us3 75, us3 76, us3 77, us3 78, us3 79, us3 80, us3 81, us3 82, us3 83, us3 84, us3 85, us3 86, us3 87, us3 88, us3 89, us3 90, us3 91] : List Value).getD kz undef), rfl, rfl, GG, (HV.gro GV).dsk, HP.good, HP.hld, HP.sk, HP.ok, by omega, HSu, HTr, hap, hsn, htv, hsu, htr⟩
            · have ha60 : at2 < 60 := by have := of_decide_eq_true t5; omega
              refine wp_region_opq ?_
              intro OPS hY
              have y4 := hY 4 75 rfl
              have y8 := hY 8 79 rfl
              clear hY
              refine s_val 71 rfl rfl (.int .i64 ((at2 : Nat) : Int)) (rfl) ?_
              refine nr ?_; intro U h; simp only [z0, z1] at h; subst h
              refine s_val 72 rfl rfl (.slice ao l.length cap) (rfl) ?_
              refine nr ?_; intro U h; simp only [z0, z1] at h; subst h
              refine s_val 73 rfl rfl (.int .i64 ((l.length : Nat) : Int)) (run_len Try.underlying45 _ rfl _ _ _ rfl _) ?_
              refine nr ?_; intro U h; simp only [z0, z1] at h; subst h
              refine s_val 74 rfl rfl (.bool true) (run_lssT 3 _ _ _ rfl ((at2 : Nat) : Int) ((l.length : Nat) : Int) rfl rfl true t4 _) ?_
              refine nr ?_; intro U h; simp only [z0, z1] at h; subst h
              refine s_val 75 rfl rfl (.bool true) (rfl) ?_
              refine nr ?_; intro U h; simp only [z0, z1] at h; subst h
              refine s_gvalY 76 rfl rfl y4 rfl (.int .i64 ((at2 : Nat) : Int)) (rfl) ?_
              refine nr ?_; intro U h; simp only [z0, z1] at h; subst h
              refine s_gvalY 77 rfl rfl y4 rfl (.bool true) (run_lssT 3 _ _ _ rfl ((at2 : Nat) : Int) 60 rfl rfl true t5 _) ?_
              refine nr ?_; intro U h; simp only [z0, z1] at h; subst h
              refine s_val 78 rfl rfl (.bool true) (rfl) ?_
              refine nr ?_; intro U h; simp only [z0, z1] at h; subst h
              refine s_val 79 rfl rfl (.bool true) (rfl) ?_
              refine nr ?_; intro U h; simp only [z0, z1] at h; subst h
              refine s_gvalY 80 rfl rfl y8 rfl (.pointer (some ⟨vp, 0, none⟩)) (rfl) ?_
              refine nr ?_; intro U h; simp only [z0, z1] at h; subst h
              refine s_gcallvY 81 rfl rfl y8 rfl _ 26 Try.call26 rfl rfl _ rfl [.pointer (some ⟨vp, 0, none⟩)] rfl (vdown_any [vp, lp, mb, p, sg] _ vp lp p sg mb 900 L3 pw3 dn3 h3 true ((c + 1 : Nat) : Int) M (HV.gro GV)) ?_
              intro w6 G
              replace HSu := HSu.gro G
              replace HTr := HTr.gro G
              replace GV := GV.gro G
              replace GG := GG.trans G
              clear G
              refine nr ?_; intro U h; simp only [z0, z1] at h; subst h
              refine s_gvalY 82 rfl rfl y8 rfl (.bool false) (run_nt _ _ rfl true rfl) ?_
              refine nr ?_; intro U h; simp only [z0, z1] at h; subst h
              refine s_val 83 rfl rfl (.bool false) (rfl) ?_
              refine nr ?_; intro U h; simp only [z0, z1] at h; subst h
              refine wpList_nil ?_
              refine then_n ?_
              refine wp_cond_false rfl ?_
              refine wp_exit ?_
              refine then_x ?_
              refine then_x ?_
              refine blk_x ?_
              refine blk_n ?_
              refine then_n ?_
              refine wp_region_lit ?_
              refine s_val 36 rfl rfl (.int .i64 ((k : Nat) : Int)) (rfl) ?_
              refine nr ?_; intro U h; simp only [z0, z1] at h; subst h
              refine s_val 37 rfl rfl (.int .i64 ((k + 1 : Nat) : Int)) (run_addI 3 _ _ _ rfl ((k : Nat) : Int) 1 ((k + 1 : Nat) : Int) rfl rfl (by omega) (by omega) (by omega) _) ?_
              refine nr ?_; intro U h; simp only [z0, z1] at h; subst h
              refine s_val 9 rfl rfl (.int .i64 ((k + 1 : Nat) : Int)) (rfl) ?_
              refine nr ?_; intro U h; simp only [z0, z1] at h; subst h
              refine wpList_nil ?_
              refine then_n ?_
              exact ⟨_, by omega, k + 1, at2, L3, pw3, dn3, h3, rs3, Ly, c + 1, su2, so2, sc2, tr2, to2, tc2, (fun kz => ([us1 0, .pointer (some ⟨vp, 0, none⟩), .int .i64 0, us3 0, us3 1, us3 2, us3 3, us3 4, us3 5, us3 6, .int .i64 ((k : Nat) : Int), .slice bo cu.length bc, .int .i64 ((cu.length : Nat) : Int), .bool true, .bool true, .int .i64 ((k : Nat) : Int), .bool true, .bool true, .int .i64 ((k : Nat) : Int), .int .i64 ((k + 1 : Nat) : Int), .pointer (some ⟨p, 0, none⟩), .tuple #[], .tuple #[.pointer (some ⟨vp, 0, none⟩), .int .i64 0], .pointer (some ⟨p, 0, none⟩), .tuple #[.pointer (some ⟨vp, 0, none⟩), .int .i64 0], .pointer (some ⟨vp, 0, none⟩), .int .i64 0, .pointer (some ⟨vp, 0, none⟩), .bool false, .bool false, .int .i64 0, .bool false, .bool false, .bool false, .pointer (some ⟨vp, 0, none⟩), .slice so su.length sc, .slice to tr.length tc, .bool true, .bool false, .bool false, us2 0, us2 1, us2 2, us2 3, us2 4, us2 5, us2 6, us2 7, us2 8, us2 9, us2 10, us2 11, us2 12, .int .i64 ((at2 : Nat) : Int), .slice ao l.length cap, .int .i64 ((l.length : Nat) : Int), .bool true, .bool true, .int .i64 ((at2 : Nat) : Int), .bool true, .bool true, .bool true, .pointer (some ⟨vp, 0, none⟩), .bool true, .bool false, .bool false, us3 20, us3 21, us3 22, us3 23, us3 24, us3 25, us3 26, us3 27, us3 28, us3 29, us3 30, us3 31, us3 32, us3 33, us3 34, us3 35, us3 36, us3 37, us3 38, us3 39, us3 40, us3 41, us3 42, us3 43, us3 44, us3 45, us3 46, us3 47, us3 48, us3 49, us3 50, us3 51, us3 52, us3 53, us3 54, us3 55, us3 56, us3 57, us3 58, us3 59, us3 60, us3 61, us3 62, us3 63, us3 64, us3 65, us3 66, us3 67, us3 68, us3 69, us3 70, us3 71, us3 72, us3 73, us3 74, us3 75, us3 76, us3 77, us3 78, us3 79, us3 80, us3 81, us3 82, us3 83, us3 84, us3 85, us3 86, us3 87, us3 88, us3 89, us3 90, us3 91] : List Value).getD kz undef), rfl, rfl, GG, (HV.gro GV).dsk, HP.good, HP.hld, HP.sk, HP.ok, by omega, HSu, HTr, hap, hsn, htv, hsu, htr⟩
      intro HT2
      refine wp_seq ?_
      refine wp_seq ?_
      cases t3 : decide (((k : Nat) : Int) < ((cu.length : Nat) : Int))
      · refine wp_region_lit ?_
        refine s_val 58 rfl rfl (.int .i64 ((k : Nat) : Int)) (rfl) ?_
        refine nr ?_; intro U h; simp only [z0, z1] at h; subst h
        refine s_val 59 rfl rfl (.slice bo cu.length bc) (rfl) ?_
        refine nr ?_; intro U h; simp only [z0, z1] at h; subst h
        refine s_val 60 rfl rfl (.int .i64 ((cu.length : Nat) : Int)) (run_len Try.underlying60 _ rfl _ _ _ rfl _) ?_
        refine nr ?_; intro U h; simp only [z0, z1] at h; subst h
        refine s_val 61 rfl rfl (.bool false) (run_lssT 3 _ _ _ rfl ((k : Nat) : Int) ((cu.length : Nat) : Int) rfl rfl false t3 _) ?_
        refine nr ?_; intro U h; simp only [z0, z1] at h; subst h
        refine wpList_nil ?_
        refine then_n ?_
        refine wp_cond_false rfl ?_
        refine wp_skip ?_
        refine then_n ?_
        exact HT2 _ _ ⟨(-1), (fun kz => ([.int .i64 ((k : Nat) : Int), .slice bo cu.length bc, .int .i64 ((cu.length : Nat) : Int), .bool false, us1 44, us1 45, us1 46, us1 47, us1 48, us1 49, us1 50, us1 51, us1 52] : List Value).getD kz undef), rfl, GG, HV.gro GV, ok_m1, HSu, HTr⟩
      · have hkc : k < cu.length := by have := of_decide_eq_true t3; omega
        refine wp_region_lit ?_
        refine s_val 58 rfl rfl (.int .i64 ((k : Nat) : Int)) (rfl) ?_
        refine nr ?_; intro U h; simp only [z0, z1] at h; subst h
        refine s_val 59 rfl rfl (.slice bo cu.length bc) (rfl) ?_
        refine nr ?_; intro U h; simp only [z0, z1] at h; subst h
        refine s_val 60 rfl rfl (.int .i64 ((cu.length : Nat) : Int)) (run_len Try.underlying60 _ rfl _ _ _ rfl _) ?_
        refine nr ?_; intro U h; simp only [z0, z1] at h; subst h
        refine s_val 61 rfl rfl (.bool true) (run_lssT 3 _ _ _ rfl ((k : Nat) : Int) ((cu.length : Nat) : Int) rfl rfl true t3 _) ?_
        refine nr ?_; intro U h; simp only [z0, z1] at h; subst h
        refine wpList_nil ?_
        refine then_n ?_
        refine wp_cond_true rfl ?_
        refine wp_region_lit ?_
        refine s_val 62 rfl rfl (.pointer (some ⟨p, 0, none⟩)) (rfl) ?_
        refine nr ?_; intro U h; simp only [z0, z1] at h; subst h
        refine s_val 63 rfl rfl (.slice bo cu.length bc) (rfl) ?_
        refine nr ?_; intro U h; simp only [z0, z1] at h; subst h
        refine s_val 64 rfl rfl (.int .i64 ((k : Nat) : Int)) (rfl) ?_
        refine nr ?_; intro U h; simp only [z0, z1] at h; subst h
        refine s_val 65 rfl rfl (.pointer (pK kN bo k 0)) (run_ixK rN ((HB.gro GG)) _ _ rfl rfl k rfl (by omega)) ?_
        refine nr ?_; intro U h; simp only [z0, z1] at h; subst h
        refine s_val 66 rfl rfl (.int .i64 (cu.getD k 0)) (run_ldKN ((HB.gro GG)) _ rfl k rfl (by omega)) ?_
        refine nr ?_; intro U h; simp only [z0, z1] at h; subst h
        refine s_val 67 rfl rfl (.int .u64 (((uN (cu.getD k 0)) : Nat) : Int)) (conv345 _ rfl _ rfl _) ?_
        refine nr ?_; intro U h; simp only [z0, z1] at h; subst h
        refine s_val 68 rfl rfl (.int .u64 (((uN (cu.getD k 0) % 14) : Nat) : Int)) (run_remN 64 64 _ _ rfl _ 14 rfl rfl (by decide) _) ?_
        refine nr ?_; intro U h; simp only [z0, z1] at h; subst h
        refine s_val 69 rfl rfl (.int .i64 (((uN (cu.getD k 0) % 14) : Nat) : Int)) (conv453 _ rfl (uN (cu.getD k 0) % 14) (by omega) rfl _) ?_
        refine nr ?_; intro U h; simp only [z0, z1] at h; subst h
        have HVo := HV.gro GV
        refine s_callx 70 rfl rfl _ 24 Try.call24 rfl rfl _ rfl [.pointer (some ⟨p, 0, none⟩), .int .i64 (((uN (cu.getD k 0) % 14) : Nat) : Int)] rfl (power_any _ p sg 900 L2 (-1) dn2 HVo.dsk (((uN (cu.getD k 0) % 14) : Nat) : Int)) (by rintro _ _ ⟨he, _, _⟩; exact ⟨_, he⟩) ?_
        rintro v w6 ⟨he, G, HD2⟩
        cases he
        have HDz := HVo.dsk
        replace HSu := HDz.keepW (G.mono (by simp)) HSu
        replace HTr := HDz.keepW (G.mono (by simp)) HTr
        have szz3 := GG.size
        replace GG := G.gro GG (fun k hk => by rw [List.mem_singleton.1 hk]; omega)
        obtain ⟨pw1, hpw⟩ : ∃ pw1, max ((((uN (cu.getD k 0) % 14)) : Nat) : Int) (-1) = pw1 := ⟨_, rfl⟩
        rw [hpw] at HD2
        have hP1 : okP pw1 := ⟨by omega, by omega⟩
        have HV1 := HVo.power G HD2
        clear GV HDz HVo
        have GV := Gro.refl w6
        refine nr ?_; intro U h; simp only [z0, z1] at h; subst h
        refine wpList_nil ?_
        refine then_n ?_
        exact HT2 _ _ ⟨pw1, (fun kz => ([.int .i64 ((k : Nat) : Int), .slice bo cu.length bc, .int .i64 ((cu.length : Nat) : Int), .bool true, .pointer (some ⟨p, 0, none⟩), .slice bo cu.length bc, .int .i64 ((k : Nat) : Int), .pointer (pK kN bo k 0), .int .i64 (cu.getD k 0), .int .u64 (((uN (cu.getD k 0)) : Nat) : Int), .int .u64 (((uN (cu.getD k 0) % 14) : Nat) : Int), .int .i64 (((uN (cu.getD k 0) % 14) : Nat) : Int), .tuple #[]] : List Value).getD kz undef), rfl, GG, HV1.gro GV, hP1, HSu, HTr⟩
end Go.Proofs.Ytgfnjekpafempaa
