/- Of any records a vault is opened just where the document says (the law). -/
import Derived.Test.YtgfnjekpafempaaGRF
import Derived.Test.YtgfnjekpafempaaGAb
namespace Go.Proofs.Ytgfnjekpafempaa
open Go.RowKit
set_option maxRecDepth 100000 in
set_option maxHeartbeats 4000000 in
theorem Zc (w : World) (ao : Option Addr) (cap : Nat) (ls : List (List Nat)) (HA : LC w ao cap ls) : Calls Try.prog 3 #[.slice ao ls.length cap] w (fun e w' => e = .returned (vT) ∧ Gro w w') := by
  refine js Try.func3 rfl Try.ntmps3 [.slice ao ls.length cap] [.slice ao ls.length cap, uD, uD, uD, uD, uD, uD, uD, uD, uD, uD, uD, uD, uD, uD, uD, uD, uD, uD, uD, uD, uD, uD, uD, uD, uD, uD, uD, uD, uD, uD, uD, uD, uD, uD, uD, uD, uD, uD, uD, uD, uD, uD, uD, uD, uD, uD, uD, uD, uD, uD, uD, uD, uD, uD, uD, uD, uD, uD, uD, uD, uD, uD, uD, uD, uD, uD, uD, uD, uD, uD, uD, uD, uD, uD, uD, uD, uD, uD, uD, uD, uD, uD, uD, uD, uD, uD, uD, uD, uD, uD, uD, uD, uD, uD, uD, uD, uD, uD, uD, uD, uD] rfl ?_
  have GG := Gro.refl w
  refine qS ?_
  refine ja 2 rfl rfl (vF) (rfl) ?_
  refine nr ?_; intro U h; simp only [z0, z1] at h; subst h
  refine qA ?_
  refine jx 15 rfl rfl _ 8 Try.call8 rfl rfl _ rfl [iK 600] rfl (KT _) (by rintro _ _ ⟨_, _, _, he, _, _, _⟩; exact ⟨_, he⟩) ?_
  rintro v w1 ⟨rp, ro, rc, he, G, hrp, HQ⟩
  cases he
  replace GG := GG.trans G
  clear G
  refine nr ?_; intro U h; simp only [z0, z1] at h; subst h
  refine ja 3 rfl rfl (vP rp 0) (rfl) ?_
  refine nr ?_; intro U h; simp only [z0, z1] at h; subst h
  refine qA ?_
  refine ja 17 rfl rfl (vP rp 0) (rfl) ?_
  refine nr ?_; intro U h; simp only [z0, z1] at h; subst h
  have hz1 := GG.size
  refine jx 18 rfl rfl _ 9 Try.call9 rfl rfl _ rfl [vP rp 0] rfl (vL _ rp _ ro rc 600 _ (-1) 0 HQ (by decide) [] ((vU 600 (by decide)).opens (by decide))) (by rintro _ _ ⟨_, _, _, _, he, _, _, _, _, _⟩; exact ⟨_, he⟩) ?_
  rintro v w2 ⟨mp, qo, qc, q, he, hq, G, hmp, HM, HL⟩
  cases he
  replace HQ := HQ.gro G
  replace GG := GG.trans G
  clear G
  rw [(vU 600 (by decide)).counts] at HM
  replace hmp := Nat.le_trans hz1 hmp
  clear HL hq
  refine nr ?_; intro U h; simp only [z0, z1] at h; subst h
  refine ja 16 rfl rfl (.tuple #[vP mp 0, .slice qo q.length qc, iK 0]) (rfl) ?_
  refine ja 19 rfl rfl (vP mp 0) (rfl) ?_
  refine ja 20 rfl rfl (.slice qo q.length qc) (rfl) ?_
  refine ja 21 rfl rfl (iK 0) (rfl) ?_
  refine ja 4 rfl rfl (vP mp 0) (rfl) ?_
  refine ja 5 rfl rfl (.slice qo q.length qc) (rfl) ?_
  refine ja 6 rfl rfl (iK 0) (rfl) ?_
  refine nr ?_; intro U h; simp only [z0, z1] at h; subst h
  refine qL (qE (qE ?_))
  refine jj ?_
  intro OPS hY
  have y2 := hY 2 24 rfl
  clear hY
  refine ja 22 rfl rfl (iK 0) (rfl) ?_
  refine ja 23 rfl rfl (vF) (jh 26 .i64 _ _ _ rfl Try.underlying26 0 0 rfl rfl false (decide_eq_true rfl) _) ?_
  refine ja 24 rfl rfl (vF) (rfl) ?_
  refine nr ?_; intro U h; simp only [z0, z1] at h; subst h
  refine yd 25 rfl rfl y2 rfl _ 10 Try.call10 rfl rfl _ rfl [] rfl (QY _) ?_
  intro w3 G
  replace HQ := HQ.gro G
  replace HM := HM.gro G
  replace GG := GG.trans G
  clear G
  refine nr ?_; intro U h; simp only [z0, z1] at h; subst h
  refine je 26 rfl rfl y2 rfl (vF) (zi _ _ rfl true rfl) ?_
  refine ja 27 rfl rfl (vF) (rfl) ?_
  refine nr ?_; intro U h; simp only [z0, z1] at h; subst h
  refine qL (qF rfl (qK ?_))
  refine jce (fun az wv3 => ∃ (L : List Nat) (dn : Int) (h : Hd) (rs : List (List Nat)) (us1 : Nat → Value), az = ⟨[.slice ao ls.length cap, uD, vF, vP rp 0, vP mp 0, .slice qo q.length qc, iK 0, us1 0, us1 1, uD, uD, uD, uD, uD, uD, vP rp 0, .tuple #[vP mp 0, .slice qo q.length qc, iK 0], vP rp 0, .tuple #[vP mp 0, .slice qo q.length qc, iK 0], vP mp 0, .slice qo q.length qc, iK 0, iK 0, vF, vF, vT, vF, vF, us1 2, us1 3, us1 4, us1 5, us1 6, us1 7, us1 8, us1 9, us1 10, us1 11, us1 12, us1 13, us1 14, uD, uD, uD, uD, uD, uD, uD, uD, uD, uD, uD, uD, uD, uD, uD, uD, uD, uD, uD, uD, uD, uD, uD, uD, uD, uD, uD, uD, uD, uD, uD, uD, uD, uD, uD, uD, uD, uD, uD, uD, uD, uD, uD, uD, uD, uD, uD, uD, uD, uD, uD, uD, uD, uD, uD, uD, uD, uD, uD, uD, uD].toArray, []⟩ ∧ Gro w wv3 ∧ QK wv3 rp w.heap.size ro rc 600 L (-1) dn ∧ MK wv3 mp rp h false ∧ Good L 600 h rs ∧ (h.g ≤ 81 ∧ 0 ≤ dn ∧ dn ≤ 1620)) ?_ ?_
  clear GG HQ HM
  rintro az wv3 ⟨L, dn, h, rs, us1, rfl, GG, HQ, HM, HG, hb⟩
  refine qS ?_
  refine ja 42 rfl rfl (vP rp 0) (rfl) ?_
  refine ja 43 rfl rfl (vP rp 0) (jn _ rfl _ rfl) ?_
  refine ja 44 rfl rfl (vP rp 0) (jf 36 _ 0 rfl rp 0 rfl 0 (by kernel_rfl)) ?_
  refine ja 45 rfl rfl (.slice ro (600 * 64) rc) (ldQr HQ _ rfl rfl) ?_
  refine nr ?_; intro U h; simp only [z0, z1] at h; subst h
  have hz2 := GG.size
  refine jx 46 rfl rfl _ 12 Try.call12 rfl rfl _ rfl [.slice ro (600 * 64) rc] rfl (pair_n _ ro rc L HQ.row.nc 600 (600 * 64) HQ.len (by decide) HQ.len.symm) (by rintro _ _ ⟨_, _, _, _, _, he, _, _, _, _, _, _⟩; exact ⟨_, he⟩) ?_
  rintro v w4 ⟨p, sg, rp2, ro2, rc2, he, G, bp, bsg, brp, HD, _⟩
  cases he
  replace HQ := HQ.gro G
  replace HM := HM.gro G
  replace GG := GG.trans G
  clear G
  replace bp := Nat.le_trans hz2 bp
  replace bsg := Nat.le_trans hz2 bsg
  refine nr ?_; intro U h; simp only [z0, z1] at h; subst h
  refine ja 41 rfl rfl (.tuple #[vP p 0, vP rp2 0]) (rfl) ?_
  refine ja 47 rfl rfl (vP p 0) (rfl) ?_
  refine ja 48 rfl rfl (vP rp2 0) (rfl) ?_
  refine ja 9 rfl rfl (vP p 0) (rfl) ?_
  refine ja 10 rfl rfl (vP rp2 0) (rfl) ?_
  refine nr ?_; intro U h; simp only [z0, z1] at h; subst h
  refine qL (qE (qS ?_))
  refine ja 49 rfl rfl (vP p 0) (rfl) ?_
  refine ja 50 rfl rfl (vF) (zg 32 _ _ _ rfl _ rfl rfl Try.underlying32 _) ?_
  refine nr ?_; intro U h; simp only [z0, z1] at h; subst h
  refine qL (qF rfl (qK (qE ?_)))
  have hU0 : ∀ k ∈ (p :: sg :: rp :: blk ro), k < w4.heap.size := fun k hk => by
    rcases List.mem_cons.1 hk with rfl | hk
    exact ji HD.box
    rcases List.mem_cons.1 hk with rfl | hk
    exact ji HD.sec
    rcases List.mem_cons.1 hk with rfl | hk
    exact ji HQ.box
    exact HQ.ltr k hk
  have hgeq : ∀ k ∈ rp :: blk ro, w.heap.size ≤ k := fun k hk => HQ.ge3 hrp hmp k (by
    rcases List.mem_cons.1 hk with rfl | hk
    exact List.mem_cons.2 (.inl rfl)
    exact List.mem_cons.2 (.inr (List.mem_cons.2 (.inr hk))))
  rcases QG 600 (by decide) (by decide) L (-1) h rs HG (by omega) ZP HD.byte with ⟨er, L2, pw2, h2, hne, hP2, HG2, hg2, OA, OQ⟩ | ⟨Lx, c, L2, pw2, h2, rs2, hN, hc, HO, SA, SB⟩
  skip
  refine qG ?_
  refine ja 52 rfl rfl (vP p 0) (rfl) ?_
  refine nr ?_; intro U h; simp only [z0, z1] at h; subst h
  refine jx 53 rfl rfl _ 13 Try.call13 rfl rfl _ rfl [vP p 0] rfl (OA _ p sg 0 HD (by decide) (by decide)) (by rintro _ _ ⟨_, he, _, _, _, _⟩; exact ⟨_, he⟩) ?_
  rintro v w5 ⟨dn1, he, G, HD2, hd5, hd6⟩
  cases he
  replace HQ := HQ.keepD HD G
  replace GG := G.gro GG (fun k hk => by simp only [List.mem_cons, List.not_mem_nil, or_false] at hk; omega)
  clear HD G
  have HD := HD2
  clear HD2
  refine nr ?_; intro U h; simp only [z0, z1] at h; subst h
  refine ja 51 rfl rfl (.tuple #[.pointer none, iK er]) (rfl) ?_
  refine ja 54 rfl rfl (.pointer none) (rfl) ?_
  refine ja 55 rfl rfl (iK er) (rfl) ?_
  refine ja 11 rfl rfl (.pointer none) (rfl) ?_
  refine ja 12 rfl rfl (iK er) (rfl) ?_
  refine nr ?_; intro U h; simp only [z0, z1] at h; subst h
  refine qA ?_
  refine ja 57 rfl rfl (vP rp 0) (rfl) ?_
  refine nr ?_; intro U h; simp only [z0, z1] at h; subst h
  refine jx 58 rfl rfl _ 14 Try.call14 rfl rfl _ rfl [vP rp 0] rfl (OQ _ rp _ ro rc dn HQ (by omega) (by omega)) (by rintro _ _ ⟨_, he, _, _, _, _⟩; exact ⟨_, he⟩) ?_
  rintro v w6 ⟨dn7, he, G, HQ2, hd7, hd8⟩
  cases he
  replace HD := HD.keepQ HQ G
  replace GG := G.gro GG hgeq
  clear HQ G
  have HQ := HQ2
  clear HQ2
  refine nr ?_; intro U h; simp only [z0, z1] at h; subst h
  refine ja 56 rfl rfl (.tuple #[.pointer none, iK er]) (rfl) ?_
  refine ja 59 rfl rfl (.pointer none) (rfl) ?_
  refine ja 60 rfl rfl (iK er) (rfl) ?_
  refine ja 13 rfl rfl (.pointer none) (rfl) ?_
  refine ja 14 rfl rfl (iK er) (rfl) ?_
  refine nr ?_; intro U h; simp only [z0, z1] at h; subst h
  refine qL (qE (qE ?_))
  refine jl (A := ?Ax1) 20 [(0, 61), (1, 62), (2, 63), (3, 64), (4, 65), (5, 66), (6, 67), (7, 68), (8, 69), (9, 70), (10, 71), (11, 72), (12, 73), (13, 74), (14, 75), (15, 76), (16, 77), (17, 78), (18, 79), (19, 80)] [.val (iK er), .val (iK er), .val (vF), .val (vF), .val (.pointer none), .val (vT), .val (.pointer none), .val (vT), .val (vF), .val (vF), .val (vF), .val (vP p 0), bytE w6.heap.size L2, .val (.string (bas L2)), .val (vP rp 0), .val (vP rp 0), .val (vP rp 0), .val (.slice ro (600 * 64) rc), .val (.string (bas L2)), .val (vF)] follows (by kernel_rfl) rfl ?hAx1 (jb ?o0x1 (jb ?o1x1 (jb ?o2x1 (jb ?o3x1 (jb ?o4x1 (jb ?o5x1 (jb ?o6x1 (jb ?o7x1 (jb ?o8x1 (jb ?o9x1 (jb ?o10x1 (jb ?o11x1 (jb ?o12x1 (jb ?o13x1 (jb ?o14x1 (jb ?o15x1 (jb ?o16x1 (jb ?o17x1 (jb ?o18x1 (jb ?o19x1 jF)))))))))))))))))))) ?restx1
  case hAx1 =>
    intro ptrs
    simp only [full, foldSlots, filledE, postE, List.foldl_cons, List.foldl_nil, List.getD_cons_zero, List.getD_cons_succ, jI, us, List.set_cons_zero, List.set_cons_succ]
    exact rfl
  case o0x1 => exact fun _ _ _ _ => jg (v := iK er) _ rfl rfl rfl
  case o1x1 => exact fun _ _ _ _ => jg (v := iK er) _ rfl rfl rfl
  case o2x1 => exact fun _ _ _ _ => jd (v := vF) rfl (jh 26 .i64 _ _ _ rfl Try.underlying26 er er rfl rfl false (decide_eq_true rfl) _)
  case o3x1 => exact fun _ _ _ _ => jg (v := vF) _ rfl rfl rfl
  case o4x1 => exact fun _ _ _ _ => jg (v := .pointer none) _ rfl rfl rfl
  case o5x1 => exact fun _ _ _ _ => jd (v := vT) rfl (Zi 37 _ _ _ rfl rfl rfl Try.underlying37 _)
  case o6x1 => exact fun _ _ _ _ => jg (v := .pointer none) _ rfl rfl rfl
  case o7x1 => exact fun _ _ _ _ => jd (v := vT) rfl (Zi 40 _ _ _ rfl rfl rfl Try.underlying40 _)
  case o8x1 => exact fun _ _ _ _ => jd (v := vF) rfl (Us 4 _ _ _ rfl true true rfl rfl Try.underlying4 false (by decide) _)
  case o9x1 => exact fun _ _ _ _ => zL (v := vF) _ _ _ rfl rfl false rfl rfl
  case o10x1 => exact fun _ _ _ _ => jg (v := vF) _ rfl rfl rfl
  case o11x1 => exact fun _ _ _ _ => jg (v := vP p 0) _ rfl rfl rfl
  case o12x1 =>
    intro ptrs w' hw hE
    exact zr (bytE w6.heap.size L2) rfl _ 15 Try.call15 rfl rfl _ rfl [vP p 0] rfl ((Vp _ p sg 600 L2 _ _ (HD.gro ((Gro.refl _).drew.trans hw))).mono fun e w' ⟨ao, cap, he, hg, ho⟩ => ⟨_, he, hg, ao, cap, rfl, ho.mono hw.size⟩)
  case o13x1 =>
    intro ptrs w' hw hE
    obtain ⟨⟨ao12, cap12, h12, o12⟩, _⟩ := hE
    exact jd (v := .string (bas L2)) rfl (zB bT 9 rfl _ rfl (by exact h12) o12.nc)
  case o14x1 => exact fun _ _ _ _ => jg (v := vP rp 0) _ rfl rfl rfl
  case o15x1 => exact fun _ _ _ _ => jd (v := vP rp 0) rfl (jn _ rfl _ rfl)
  case o16x1 => exact fun _ _ _ _ => jd (v := vP rp 0) rfl (jf 36 _ 0 rfl rp 0 rfl 0 (by kernel_rfl))
  case o17x1 => exact fun _ _ hw _ => jd (v := .slice ro (600 * 64) rc) rfl (ldQr (HQ.gro ((Gro.refl _).drew.trans hw)) _ rfl rfl)
  case o18x1 => exact fun _ _ hw _ => jd (v := .string (bas L2)) rfl (zB bT 9 rfl _ rfl (by rw [(HQ.gro ((Gro.refl _).drew.trans hw)).len]; rfl) (HQ.gro ((Gro.refl _).drew.trans hw)).row.nc)
  case o19x1 => exact fun _ _ _ _ => jd (v := vF) rfl (vw _ _ _ rfl _ _ rfl rfl false (decide_eq_true rfl) _)
  intro ptrs w7 GD hxE
  simp only [List.drop_succ_cons, List.drop_zero]
  replace HD := HD.gro ((Gro.refl _).drew.trans GD)
  replace HQ := HQ.gro ((Gro.refl _).drew.trans GD)
  replace GG := GG.drew.trans GD
  obtain ⟨_, _⟩ := hxE
  clear GD
  refine ja 81 rfl rfl (vF) (rfl) ?_
  refine nr ?_; intro U h; simp only [z0, z1] at h; subst h
  refine qL (qF rfl (qK (qE ?_)))
  refine jl (A := ?Ax2) 19 [(0, 82), (1, 83), (2, 84), (3, 85), (4, 86), (5, 87), (6, 88), (7, 89), (8, 90), (9, 91), (10, 92), (11, 93), (12, 94), (13, 95), (14, 96), (15, 97), (16, 98), (17, 99), (18, 100)] [.val (.pointer none), .val (vT), .val (vT), .val uD, .val uD, .val uD, .val uD, .val uD, .val uD, .val uD, .val uD, .val uD, .val uD, .val uD, .val uD, .val uD, .val uD, .val uD, .val uD] follows (by kernel_rfl) rfl ?hAx2 (jb ?o0x2 (jb ?o1x2 (jb ?o2x2 (jb ?o3x2 (jb ?o4x2 (jb ?o5x2 (jb ?o6x2 (jb ?o7x2 (jb ?o8x2 (jb ?o9x2 (jb ?o10x2 (jb ?o11x2 (jb ?o12x2 (jb ?o13x2 (jb ?o14x2 (jb ?o15x2 (jb ?o16x2 (jb ?o17x2 (jb ?o18x2 jF))))))))))))))))))) ?restx2
  case hAx2 =>
    intro ptrs
    simp only [full, foldSlots, filledE, postE, List.foldl_cons, List.foldl_nil, List.getD_cons_zero, List.getD_cons_succ, jI, List.set_cons_zero, List.set_cons_succ]
    exact rfl
  case o0x2 => exact fun _ _ _ _ => jg (v := .pointer none) _ rfl rfl rfl
  case o1x2 => exact fun _ _ _ _ => jd (v := vT) rfl (Zi 37 _ _ _ rfl rfl rfl Try.underlying37 _)
  case o2x2 => exact fun _ _ _ _ => jg (v := vT) _ rfl rfl rfl
  case o3x2 => exact fun _ _ _ _ => jC rfl
  case o4x2 => exact fun _ _ _ _ => jC rfl
  case o5x2 => exact fun _ _ _ _ => jC rfl
  case o6x2 => exact fun _ _ _ _ => jC rfl
  case o7x2 => exact fun _ _ _ _ => jC rfl
  case o8x2 => exact fun _ _ _ _ => jC rfl
  case o9x2 => exact fun _ _ _ _ => jC rfl
  case o10x2 => exact fun _ _ _ _ => jC rfl
  case o11x2 => exact fun _ _ _ _ => jC rfl
  case o12x2 => exact fun _ _ _ _ => jC rfl
  case o13x2 => exact fun _ _ _ _ => jC rfl
  case o14x2 => exact fun _ _ _ _ => jC rfl
  case o15x2 => exact fun _ _ _ _ => jC rfl
  case o16x2 => exact fun _ _ _ _ => jC rfl
  case o17x2 => exact fun _ _ _ _ => jC rfl
  case o18x2 => exact fun _ _ _ _ => jC rfl
  intro ptrs w8 GD hxE
  simp only [List.drop_succ_cons, List.drop_zero]
  replace HD := HD.gro ((Gro.refl _).drew.trans GD)
  replace HQ := HQ.gro ((Gro.refl _).drew.trans GD)
  replace GG := GG.drew.trans GD
  clear GD
  refine ja 101 rfl rfl (vT) (rfl) ?_
  refine ja 2 rfl rfl (vT) (rfl) ?_
  refine nr ?_; intro U h; simp only [z0, z1] at h; subst h
  refine qL (qR ?_)
  refine bodyPost_ret (results_tmp Try.results3 _ _ _) rfl ?_
  exact ⟨rfl, GG⟩
  skip
  refine qG ?_
  refine ja 52 rfl rfl (vP p 0) (rfl) ?_
  refine nr ?_; intro U h; simp only [z0, z1] at h; subst h
  refine jx 53 rfl rfl _ 13 Try.call13 rfl rfl _ rfl [vP p 0] rfl ((uL (p :: sg :: rp :: blk ro) _ p sg 600 L (-1) 0 HD (by decide) h rs HG (by omega) hU0 (by simp) (by simp) Lx c hN hc 0 L2 pw2 h2 false rs2 HO SA (by decide) (by decide)).mono fun e w' h => h.yes) (by rintro _ _ ⟨_, _, _, _, _, he, _, _, _, _, _, _, _, _⟩; exact ⟨_, he⟩) ?_
  rintro v w5 ⟨vp, lp, mb, M, dn1, he, G, HV, hM, hv1, hv2, hv3, hd5, hd6⟩
  cases he
  replace HQ := HQ.keepD HD G
  replace GG := G.gro GG (fun k hk => by simp only [List.mem_cons, List.not_mem_nil, or_false] at hk; omega)
  clear HD G
  refine nr ?_; intro U h; simp only [z0, z1] at h; subst h
  refine ja 51 rfl rfl (.tuple #[vP vp 0, iK 0]) (rfl) ?_
  refine ja 54 rfl rfl (vP vp 0) (rfl) ?_
  refine ja 55 rfl rfl (iK 0) (rfl) ?_
  refine ja 11 rfl rfl (vP vp 0) (rfl) ?_
  refine ja 12 rfl rfl (iK 0) (rfl) ?_
  refine nr ?_; intro U h; simp only [z0, z1] at h; subst h
  refine qA ?_
  refine ja 57 rfl rfl (vP rp 0) (rfl) ?_
  refine nr ?_; intro U h; simp only [z0, z1] at h; subst h
  refine jx 58 rfl rfl _ 14 Try.call14 rfl rfl _ rfl [vP rp 0] rfl ((ZF _ rp _ ro rc 600 L (-1) dn HQ (by decide) h rs HG (by omega) Lx c hN hc 0 L2 pw2 h2 false rs2 HO SB (by omega) (by omega)).mono fun e w' h => h.yes) (by rintro _ _ ⟨_, _, _, _, _, _, he, _, _, _, _, _, _, _⟩; exact ⟨_, he⟩) ?_
  rintro v w6 ⟨vq, mp2, ao5, cap5, R, dn7, he, G, HVD, hR, hvq, hmp2, hd7, hd8⟩
  cases he
  replace HV := HV.keepQ HQ G (fun k hk => by simp [hk])
  replace GG := G.gro GG hgeq
  clear HQ G
  have HQ := HVD.dsk
  refine nr ?_; intro U h; simp only [z0, z1] at h; subst h
  refine ja 56 rfl rfl (.tuple #[vP vq 0, iK 0]) (rfl) ?_
  refine ja 59 rfl rfl (vP vq 0) (rfl) ?_
  refine ja 60 rfl rfl (iK 0) (rfl) ?_
  refine ja 13 rfl rfl (vP vq 0) (rfl) ?_
  refine ja 14 rfl rfl (iK 0) (rfl) ?_
  refine nr ?_; intro U h; simp only [z0, z1] at h; subst h
  refine qL (qE (qE ?_))
  refine jl (A := ?Ax3) 20 [(0, 61), (1, 62), (2, 63), (3, 64), (4, 65), (5, 66), (6, 67), (7, 68), (8, 69), (9, 70), (10, 71), (11, 72), (12, 73), (13, 74), (14, 75), (15, 76), (16, 77), (17, 78), (18, 79), (19, 80)] [.val (iK 0), .val (iK 0), .val (vF), .val (vF), .val (vP vp 0), .val (vF), .val (vP vq 0), .val (vF), .val (vF), .val (vF), .val (vF), .val (vP p 0), bytE w6.heap.size L2, .val (.string (bas L2)), .val (vP rp 0), .val (vP rp 0), .val (vP rp 0), .val (.slice ro (600 * 64) rc), .val (.string (bas L2)), .val (vF)] follows (by kernel_rfl) rfl ?hAx3 (jb ?o0x3 (jb ?o1x3 (jb ?o2x3 (jb ?o3x3 (jb ?o4x3 (jb ?o5x3 (jb ?o6x3 (jb ?o7x3 (jb ?o8x3 (jb ?o9x3 (jb ?o10x3 (jb ?o11x3 (jb ?o12x3 (jb ?o13x3 (jb ?o14x3 (jb ?o15x3 (jb ?o16x3 (jb ?o17x3 (jb ?o18x3 (jb ?o19x3 jF)))))))))))))))))))) ?restx3
  case hAx3 =>
    intro ptrs
    simp only [full, foldSlots, filledE, postE, List.foldl_cons, List.foldl_nil, List.getD_cons_zero, List.getD_cons_succ, jI, us, List.set_cons_zero, List.set_cons_succ]
    exact rfl
  case o0x3 => exact fun _ _ _ _ => jg (v := iK 0) _ rfl rfl rfl
  case o1x3 => exact fun _ _ _ _ => jg (v := iK 0) _ rfl rfl rfl
  case o2x3 => exact fun _ _ _ _ => jd (v := vF) rfl (jh 26 .i64 _ _ _ rfl Try.underlying26 0 0 rfl rfl false (decide_eq_true rfl) _)
  case o3x3 => exact fun _ _ _ _ => jg (v := vF) _ rfl rfl rfl
  case o4x3 => exact fun _ _ _ _ => jg (v := vP vp 0) _ rfl rfl rfl
  case o5x3 => exact fun _ _ _ _ => jd (v := vF) rfl (zg 37 _ _ _ rfl _ rfl rfl Try.underlying37 _)
  case o6x3 => exact fun _ _ _ _ => jg (v := vP vq 0) _ rfl rfl rfl
  case o7x3 => exact fun _ _ _ _ => jd (v := vF) rfl (zg 40 _ _ _ rfl _ rfl rfl Try.underlying40 _)
  case o8x3 => exact fun _ _ _ _ => jd (v := vF) rfl (Us 4 _ _ _ rfl false false rfl rfl Try.underlying4 false (by decide) _)
  case o9x3 => exact fun _ _ _ _ => zL (v := vF) _ _ _ rfl rfl false rfl rfl
  case o10x3 => exact fun _ _ _ _ => jg (v := vF) _ rfl rfl rfl
  case o11x3 => exact fun _ _ _ _ => jg (v := vP p 0) _ rfl rfl rfl
  case o12x3 =>
    intro ptrs w' hw hE
    exact zr (bytE w6.heap.size L2) rfl _ 15 Try.call15 rfl rfl _ rfl [vP p 0] rfl ((Vp _ p sg 600 L2 _ _ (HV.dsk.gro ((Gro.refl _).drew.trans hw))).mono fun e w' ⟨ao, cap, he, hg, ho⟩ => ⟨_, he, hg, ao, cap, rfl, ho.mono hw.size⟩)
  case o13x3 =>
    intro ptrs w' hw hE
    obtain ⟨⟨ao12, cap12, h12, o12⟩, _⟩ := hE
    exact jd (v := .string (bas L2)) rfl (zB bT 9 rfl _ rfl (by exact h12) o12.nc)
  case o14x3 => exact fun _ _ _ _ => jg (v := vP rp 0) _ rfl rfl rfl
  case o15x3 => exact fun _ _ _ _ => jd (v := vP rp 0) rfl (jn _ rfl _ rfl)
  case o16x3 => exact fun _ _ _ _ => jd (v := vP rp 0) rfl (jf 36 _ 0 rfl rp 0 rfl 0 (by kernel_rfl))
  case o17x3 => exact fun _ _ hw _ => jd (v := .slice ro (600 * 64) rc) rfl (ldQr (HQ.gro ((Gro.refl _).drew.trans hw)) _ rfl rfl)
  case o18x3 => exact fun _ _ hw _ => jd (v := .string (bas L2)) rfl (zB bT 9 rfl _ rfl (by rw [(HQ.gro ((Gro.refl _).drew.trans hw)).len]; rfl) (HQ.gro ((Gro.refl _).drew.trans hw)).row.nc)
  case o19x3 => exact fun _ _ _ _ => jd (v := vF) rfl (vw _ _ _ rfl _ _ rfl rfl false (decide_eq_true rfl) _)
  intro ptrs w7 GD hxE
  simp only [List.drop_succ_cons, List.drop_zero]
  replace HV := HV.gro ((Gro.refl _).drew.trans GD)
  replace HVD := HVD.gro ((Gro.refl _).drew.trans GD)
  replace HQ := HQ.gro ((Gro.refl _).drew.trans GD)
  replace GG := GG.drew.trans GD
  obtain ⟨_, _⟩ := hxE
  clear GD
  refine ja 81 rfl rfl (vF) (rfl) ?_
  refine nr ?_; intro U h; simp only [z0, z1] at h; subst h
  refine qL (qF rfl (qK (qE ?_)))
  have hSK : SKv Lx := jbb (s := ([], 0)) SKv.nil hN
  have hfew := HG.few (by decide) hN
  refine jl (A := ?Ax4) 19 [(0, 82), (1, 83), (2, 84), (3, 85), (4, 86), (5, 87), (6, 88), (7, 89), (8, 90), (9, 91), (10, 92), (11, 93), (12, 94), (13, 95), (14, 96), (15, 97), (16, 98), (17, 99), (18, 100)] [.val (vP vp 0), .val (vF), .val (vF), .val (vP vp 0), itsE w7.heap.size Lx, .val (vP vq 0), .val (vP vq 0), .val (vP vq 1), .val (.slice ao5 R.length cap5), .val (vT), .val (vT), .val (vP vp 0), .val (nK (c + 1)), .val (vP vq 0), .val (vP vq 0), .val (vP vq 2), .val (nK (c + 1)), .val (vT), .val (vT)] follows (by kernel_rfl) rfl ?hAx4 (jb ?o0x4 (jb ?o1x4 (jb ?o2x4 (jb ?o3x4 (jb ?o4x4 (jb ?o5x4 (jb ?o6x4 (jb ?o7x4 (jb ?o8x4 (jb ?o9x4 (jb ?o10x4 (jb ?o11x4 (jb ?o12x4 (jb ?o13x4 (jb ?o14x4 (jb ?o15x4 (jb ?o16x4 (jb ?o17x4 (jb ?o18x4 jF))))))))))))))))))) ?restx4
  case hAx4 =>
    intro ptrs
    simp only [full, foldSlots, filledE, postE, List.foldl_cons, List.foldl_nil, List.getD_cons_zero, List.getD_cons_succ, jI, Ka, List.set_cons_zero, List.set_cons_succ]
    exact rfl
  case o0x4 => exact fun _ _ _ _ => jg (v := vP vp 0) _ rfl rfl rfl
  case o1x4 => exact fun _ _ _ _ => jd (v := vF) rfl (zg 37 _ _ _ rfl _ rfl rfl Try.underlying37 _)
  case o2x4 => exact fun _ _ _ _ => jg (v := vF) _ rfl rfl rfl
  case o3x4 => exact fun _ _ _ _ => jg (v := vP vp 0) _ rfl rfl rfl
  case o4x4 =>
    intro ptrs w' hw hE
    exact zr (itsE w7.heap.size Lx) rfl _ 17 Try.call17 rfl rfl _ rfl [vP vp 0] rfl ((all_any _ _ vp lp p sg mb 600 L2 _ _ h2 false _ M (HV.gro ((Gro.refl _).drew.trans hw)) Lx hM hSK hfew).mono fun e w' ⟨ao, cap, Z, he, hg, ho, hb, _, hZ⟩ => ⟨_, he, hg, ao, cap, Z, rfl, ho.mono hw.size, hb.mono hw.size, hZ⟩)
  case o5x4 => exact fun _ _ _ _ => jg (v := vP vq 0) _ rfl rfl rfl
  case o6x4 => exact fun _ _ _ _ => jd (v := vP vq 0) rfl (jn _ rfl _ rfl)
  case o7x4 => exact fun _ _ _ _ => jd (v := vP vq 1) rfl (jf 48 _ 1 rfl vq 0 rfl 1 (by kernel_rfl))
  case o8x4 => exact fun _ _ hw _ => jd (v := .slice ao5 R.length cap5) rfl (ldRvr _ rfl vq rfl (hw.has HVD.box))
  case o9x4 =>
    intro ptrs w' hw hE
    obtain ⟨⟨ao4, cap4, Z4, h4, o4, b4, e4⟩, _, _⟩ := hE
    exact zr (.val (vT)) rfl _ 16 Try.call16 rfl rfl _ rfl [.slice ao4 Z4.length cap4, .slice ao5 R.length cap5] (congrArg (fun a => [a, Value.slice ao5 R.length cap5]) h4) ((Kw _ ao4 ao5 cap4 cap5 Z4 R o4.re (HVD.row.gro ((Gro.refl _).drew.trans hw)).re b4.nc (HVD.byt.gro ((Gro.refl _).drew.trans hw)).nc (by have := congrArg List.length e4; rw [List.length_map] at this; omega) true (fun _ => rfl) (fun hn => absurd (Kv e4 hR HVD.n0) hn)).mono fun e w' ⟨he, hg⟩ => ⟨_, he, hg, rfl⟩)
  case o10x4 => exact fun _ _ _ _ => jg (v := vT) _ rfl rfl rfl
  case o11x4 => exact fun _ _ _ _ => jg (v := vP vp 0) _ rfl rfl rfl
  case o12x4 =>
    intro ptrs w' hw hE
    exact zr (.val (nK (c + 1))) rfl _ 18 Try.call18 rfl rfl _ rfl [vP vp 0] rfl ((Yj _ vp lp mb _ ((HV).gro ((Gro.refl _).drew.trans hw)).vb.box).mono fun e w' ⟨he, hg⟩ => ⟨_, he, hg, rfl⟩)
  case o13x4 => exact fun _ _ _ _ => jg (v := vP vq 0) _ rfl rfl rfl
  case o14x4 => exact fun _ _ _ _ => jd (v := vP vq 0) rfl (jn _ rfl _ rfl)
  case o15x4 => exact fun _ _ _ _ => jd (v := vP vq 2) rfl (jf 48 _ 2 rfl vq 0 rfl 2 (by kernel_rfl))
  case o16x4 => exact fun _ _ hw _ => jd (v := nK (c + 1)) rfl (ldRvi _ rfl vq rfl (hw.has HVD.box))
  case o17x4 => exact fun _ _ _ _ => jd (v := vT) rfl (jB 2 .i64 _ _ _ rfl Try.underlying2 ((c + 1 : Nat) : Int) ((c + 1 : Nat) : Int) rfl rfl true (decide_eq_true rfl) _)
  case o18x4 => exact fun _ _ _ _ => zL (v := vT) _ _ _ rfl rfl true rfl rfl
  intro ptrs w8 GD hxE
  simp only [List.drop_succ_cons, List.drop_zero]
  replace HV := HV.gro ((Gro.refl _).drew.trans GD)
  replace HVD := HVD.gro ((Gro.refl _).drew.trans GD)
  replace HQ := HQ.gro ((Gro.refl _).drew.trans GD)
  replace GG := GG.drew.trans GD
  obtain ⟨_, _⟩ := hxE
  clear GD
  refine ja 101 rfl rfl (vT) (rfl) ?_
  refine ja 2 rfl rfl (vT) (rfl) ?_
  refine nr ?_; intro U h; simp only [z0, z1] at h; subst h
  refine qL (qR ?_)
  refine bodyPost_ret (results_tmp Try.results3 _ _ _) rfl ?_
  exact ⟨rfl, GG⟩
  intro HT1
  refine qE (qS ?_)
  refine ja 28 rfl rfl (.slice ao ls.length cap) (rfl) ?_
  refine ja 29 rfl rfl (nK ls.length) (jA Try.underlying22 _ rfl _ _ _ rfl _) ?_
  refine ja 30 rfl rfl (iK 0) (rfl) ?_
  refine nr ?_; intro U h; simp only [z0, z1] at h; subst h
  refine qL (qB ?_)
  refine jV (fun mz az wv => ∃ (i : Nat) (L : List Nat) (dn : Int) (h : Hd) (rs : List (List Nat)) (us2 : Nat → Value), mz = ls.length - i ∧ az = ⟨[.slice ao ls.length cap, uD, vF, vP rp 0, vP mp 0, .slice qo q.length qc, iK 0, us2 0, us2 1, uD, uD, uD, uD, uD, uD, vP rp 0, .tuple #[vP mp 0, .slice qo q.length qc, iK 0], vP rp 0, .tuple #[vP mp 0, .slice qo q.length qc, iK 0], vP mp 0, .slice qo q.length qc, iK 0, iK 0, vF, vF, vT, vF, vF, .slice ao ls.length cap, nK ls.length, nK i, us2 2, us2 3, us2 4, us2 5, us2 6, us2 7, us2 8, us2 9, us2 10, us2 11, uD, uD, uD, uD, uD, uD, uD, uD, uD, uD, uD, uD, uD, uD, uD, uD, uD, uD, uD, uD, uD, uD, uD, uD, uD, uD, uD, uD, uD, uD, uD, uD, uD, uD, uD, uD, uD, uD, uD, uD, uD, uD, uD, uD, uD, uD, uD, uD, uD, uD, uD, uD, uD, uD, uD, uD, uD, uD, uD, uD, uD].toArray, []⟩ ∧ Gro w wv ∧ QK wv rp w.heap.size ro rc 600 L (-1) dn ∧ MK wv mp rp h false ∧ Good L 600 h rs ∧ i ≤ ls.length ∧ (i ≤ 81 ∧ h.g ≤ i ∧ 0 ≤ dn ∧ dn ≤ 20 * i)) ?_ _ ⟨0, _, 0, ⟨0, 0, 0⟩, [], (fun kz => ([uD, uD, uD, uD, uD, uD, uD, uD, uD, uD, uD, uD] : List Value).getD kz uD), rfl, rfl, GG, HQ, HM, vU 600 (by decide), Nat.zero_le _, ⟨by decide, by decide, by decide, by decide⟩⟩
  clear GG HQ HM
  rintro mz az wv ⟨i, L, dn, h, rs, us2, rfl, rfl, GG, HQ, HM, HG, hi, hb⟩
  refine qE ?_
  cases h1 : decide (((i : Nat) : Int) < ((ls.length : Nat) : Int))
  refine qG ?_
  refine ja 31 rfl rfl (vF) (jE 3 _ _ _ rfl ((i : Nat) : Int) ((ls.length : Nat) : Int) rfl rfl false h1 _) ?_
  refine nr ?_; intro U h; simp only [z0, z1] at h; subst h
  refine qL (qE (qF rfl (wp_exit (jL (jL (zC (jG ?_)))))))
  exact HT1 _ _ ⟨L, dn, h, rs, (fun kz => ([us2 0, us2 1, .slice ao ls.length cap, nK ls.length, nK i, vF, us2 3, us2 4, us2 5, us2 6, us2 7, us2 8, us2 9, us2 10, us2 11] : List Value).getD kz uD), rfl, GG, HQ, HM, HG, ⟨by omega, by omega, by omega⟩⟩
  have hlt : i < ls.length := by have := of_decide_eq_true h1; omega
  refine qG ?_
  refine ja 31 rfl rfl (vT) (jE 3 _ _ _ rfl ((i : Nat) : Int) ((ls.length : Nat) : Int) rfl rfl true h1 _) ?_
  refine nr ?_; intro U h; simp only [z0, z1] at h; subst h
  refine qL (qE (qT rfl (qK (qE (qB (qE ?_))))))
  obtain ⟨ad, ao2, cap2, had, hcell, HR⟩ := HA.at (j := i) hlt
  obtain ⟨r, hr⟩ : ∃ r, ls.getD i [] = r := ⟨_, rfl⟩
  rw [hr] at hcell HR
  refine qG ?_
  refine ja 32 rfl rfl (nK i) (rfl) ?_
  refine ja 33 rfl rfl (.pointer (some (ad.add i))) (zT _ _ rfl ad _ _ i (by rw [← had]; rfl) rfl hlt _) ?_
  refine ja 34 rfl rfl (.slice ao2 r.length cap2) (yi _ rfl (ad.add i) rfl _ _ (jbj GG hcell)) ?_
  refine ja 7 rfl rfl (nK i) (rfl) ?_
  refine ja 8 rfl rfl (.slice ao2 r.length cap2) (rfl) ?_
  refine nr ?_; intro U h; simp only [z0, z1] at h; subst h
  refine qL (qE (qE ?_))
  cases h2 : decide ((80 : Int) < ((i : Nat) : Int))
  have h80 := of_decide_eq_false h2
  refine qG ?_
  refine ja 35 rfl rfl (nK i) (rfl) ?_
  refine ja 36 rfl rfl (vF) (jJ 3 _ _ _ rfl ((i : Nat) : Int) 80 rfl rfl false h2 _) ?_
  refine nr ?_; intro U h; simp only [z0, z1] at h; subst h
  refine qL (qF rfl (qK (qG ?_)))
  refine ja 37 rfl rfl (vP mp 0) (rfl) ?_
  refine ja 38 rfl rfl (.slice ao2 r.length cap2) (rfl) ?_
  refine nr ?_; intro U h; simp only [z0, z1] at h; subst h
  obtain ⟨err, L2, h2, rs2, HG2, hg2, SB2⟩ := jcb 600 L h rs r HG (by omega) (by decide)
  have hge := HQ.ge3 hrp hmp
  refine jx 39 rfl rfl _ 11 Try.call11 rfl rfl _ rfl [vP mp 0, .slice ao2 r.length cap2] rfl (SB2 _ mp rp _ ro rc dn _ _ HM HQ ⟨HR.gro GG, fun ad2 ha h0 hm => by (have := HR.lt ad2 ha h0; have := hge _ hm; omega)⟩ (by omega) (by omega)) (by rintro _ _ ⟨_, he, _, _, _, _, _⟩; exact ⟨_, he⟩) ?_
  rintro v w4 ⟨dn2, he, G, hd3, hd4, HQ2, HM2⟩
  cases he
  replace GG := G.gro GG hge
  clear HQ HM
  have HQ := HQ2
  have HM := HM2
  clear HQ2 HM2 G
  refine nr ?_; intro U h; simp only [z0, z1] at h; subst h
  refine qN (zh (jG (qG ?_)))
  refine ja 40 rfl rfl (nK (i + 1)) (zm 3 _ _ _ rfl ((i : Nat) : Int) 1 ((i + 1 : Nat) : Int) rfl rfl (by omega) (by omega) (by omega) _) ?_
  refine ja 30 rfl rfl (nK (i + 1)) (rfl) ?_
  refine nr ?_; intro U h; simp only [z0, z1] at h; subst h
  refine qL ?_
  exact ⟨_, by omega, i + 1, L2, dn2, h2, rs2, (fun kz => ([nK i, .slice ao2 r.length cap2, vT, nK i, .pointer (some (ad.add i)), .slice ao2 r.length cap2, nK i, vF, vP mp 0, .slice ao2 r.length cap2, iK err, nK (i + 1)] : List Value).getD kz uD), rfl, rfl, GG, HQ, HM, HG2, by omega, ⟨by omega, by omega, by omega, by omega⟩⟩
  refine qG ?_
  refine ja 35 rfl rfl (nK i) (rfl) ?_
  refine ja 36 rfl rfl (vT) (jJ 3 _ _ _ rfl ((i : Nat) : Int) 80 rfl rfl true h2 _) ?_
  refine nr ?_; intro U h; simp only [z0, z1] at h; subst h
  refine qL (qT rfl (wp_exit (jL ?_)))
  refine blk_xn (by decide) ?_
  refine jL (jL (zC (jG ?_)))
  exact HT1 _ _ ⟨L, dn, h, rs, (fun kz => ([nK i, .slice ao2 r.length cap2, .slice ao ls.length cap, nK ls.length, nK i, vT, nK i, .pointer (some (ad.add i)), .slice ao2 r.length cap2, nK i, vT, us2 8, us2 9, us2 10, us2 11] : List Value).getD kz uD), rfl, GG, HQ, HM, HG, ⟨by omega, by omega, by omega⟩⟩
end Go.Proofs.Ytgfnjekpafempaa
