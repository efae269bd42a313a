import Derived.Test.YtgfnjekpafempaaGreatBFr22
import Derived.Test.YtgfnjekpafempaaGreatBAb
namespace Go.Proofs.YtgfnjekpafempaaGreat
open Go.Proofs.Tryz
open Go.RowKit
set_option maxRecDepth 100000 in
set_option maxHeartbeats 8000000 in
theorem ZF (w : World) (sz : Int) (ao0 : Option Addr) (cap0 : Nat) (l : List OpQ) (HA : RK kO w ao0 cap0 l) (HN : ∀ o ∈ l, NC w .u8 o.x.ao o.x.cap o.x.val) (hbig : ∀ o ∈ l, o.x.val.length ≤ 140737488355328) : Calls Tryz.prog 3 #[iK sz, .slice ao0 l.length cap0] w (fun e w' => e = .returned (vT) ∧ Gro w w') := by
  refine eN func3 rfl ntmps3 [iK sz, .slice ao0 l.length cap0] ?_
  have GG := Gro.refl w
  obtain ⟨n, hn⟩ : ∃ n, uN sz % 60 = n := ⟨_, rfl⟩
  have hn60 : n < 60 := by omega
  refine qE (qG (mv (vF) rfl (nq ?_)))
  refine qL (qE (qG (mv (iK sz) rfl (sv (.int .u64 (((uN sz) : Nat) : Int)) (conv345 _ rfl _ rfl _) rfl (sv (.int .u64 ((n : Nat) : Int)) (by rw [← hn]; exact yU 28 28 _ _ rfl _ 60 rfl rfl (by decide) _) rfl (sv (nK n) (conv453 _ rfl n (by omega) rfl _) rfl ?_))))))
  refine nq ?_
  refine sv (nK (n * 64)) (jcb 3 _ _ _ rfl 64 ((n : Nat) : Int) ((n * 64 : Nat) : Int) rfl rfl (by omega) (by omega) (by omega) _) rfl (nq ?_)
  refine s_mkB 35 rfl rfl _ _ rfl (n * 64) rfl rfl (by omega) ?_
  intro w1 gb G egb HO
  clear egb
  replace GG := GG.trans G
  clear G
  refine nq ?_
  have hz := GG.size
  refine jq 36 rfl rfl _ 4 call4 rfl rfl _ rfl [.slice (some ⟨gb, 0, none⟩) (n * 64) (n * 64)] rfl (pair_n _ _ _ (zs (n * 64)) HO.nc n (n * 64) (zo _) (by omega) (zo _).symm) (by rintro _ _ ⟨_, _, _, _, _, he, _, _, _, _, _, _⟩; exact ⟨_, he⟩) ?_
  rintro v w2 ⟨p, sg, rp, ro, rc, he, G, bp, bsg, brp, HD, HQ⟩
  cases he
  clear HO
  replace GG := GG.trans G
  clear G
  replace bp := Nat.le_trans hz bp
  replace bsg := Nat.le_trans hz bsg
  replace brp := Nat.le_trans hz brp
  replace HQ : QK _ rp w.heap.size ro rc n (zs (n * 64)) (-1) 0 := ⟨HQ.box, HQ.row.mono hz, HQ.len, HQ.le⟩
  refine nq ?_
  refine mv (.tuple #[vP p 0, vP rp 0]) rfl (mv (vP p 0) rfl (mv (vP rp 0) rfl (mv (vP p 0) rfl ?_)))
  refine nq ?_
  refine mv (vP rp 0) rfl (nq ?_)
  refine qL (qE (qE ?_))
  refine jg ?_
  intro OPS hY
  have y2 := hY 2 41 rfl
  clear hY
  refine mv (vP p 0) rfl (sv (vF) (jT 23 _ _ _ rfl _ rfl rfl underlying23 _) rfl (mv (vF) rfl (nq ?_)))
  refine zP 42 rfl rfl y2 rfl _ 5 call5 rfl rfl _ rfl [] rfl (jau _) ?_
  intro w3 G
  replace HD := HD.gro G
  replace HQ := HQ.gro G
  replace GG := GG.trans G
  clear G
  refine nq ?_
  refine jd 43 rfl rfl y2 rfl (vF) (jZ _ _ rfl true rfl) (mv (vF) rfl (nq ?_))
  refine qL (qF rfl (qK (qE ?_)))
  obtain ⟨dn, hdn⟩ : ∃ dn : Int, dn = 0 := ⟨_, rfl⟩
  obtain ⟨dq, hdq⟩ : ∃ dq : Int, dq = 0 := ⟨_, rfl⟩
  rw [← hdn] at HD
  rw [← hdq] at HQ
  obtain ⟨er0, L0, pw0, h0, rs0, Lx0, c0, HP0, OA1, OB1⟩ := Jx n (by omega) (zs (n * 64)) (-1) ⟨0, 0, 0⟩ [] [] 0 1 0 ⟨Uo, fun h3 => Yc n (by omega), Nat.le_refl _, fun e => absurd e (by decide)⟩ (by decide) HD.byte
  refine qG (mv (vP p 0) rfl (nq ?_))
  have w0s := GG.size
  refine jq 47 rfl rfl _ 6 call6 rfl rfl _ rfl [vP p 0] rfl (OA1 (p :: sg :: rp :: blk ro) _ p sg dn HD (QF HD HQ) (by simp) (by simp) (by omega) (by omega)) (by rintro _ _ ⟨_, _, he, _, _, _, _⟩; exact ⟨_, he⟩) ?_
  rintro v w4 ⟨va0, da, he, G, hA, d1, d2⟩
  cases he
  have HQa := HQ.keepD HD G
  have szA := G.size
  replace GG := G.gro GG (fun k hk => by simp only [List.mem_cons, List.not_mem_nil, or_false] at hk; omega)
  clear HD HQ G
  refine nq ?_
  refine mv (.tuple #[va0, iK er0]) rfl (mv (va0) rfl (mv (iK er0) rfl (mv (va0) rfl ?_)))
  refine nq ?_
  refine mv (iK er0) rfl (nq ?_)
  refine qL (qE (qG (mv (vP rp 0) rfl (nq ?_))))
  refine jq 52 rfl rfl _ 7 call7 rfl rfl _ rfl [vP rp 0] rfl (OB1 _ rp _ ro rc dq HQa (by omega) (by omega)) (by rintro _ _ ⟨_, _, he, _, _, _, _⟩; exact ⟨_, he⟩) ?_
  rintro v w5 ⟨vb0, db, he, G, hB, d3, d4⟩
  cases he
  have HT9 := YP (m := 1) hA HQa G hB w0s szA ⟨by omega, by omega, by omega, by omega⟩
  replace GG := G.gro GG (q_ge HQa brp)
  clear hA HQa hB G
  refine nq ?_
  refine mv (.tuple #[vb0, iK er0]) rfl (mv (vb0) rfl (mv (iK er0) rfl (mv (vb0) rfl ?_)))
  refine nq ?_
  refine mv (iK er0) rfl (nq ?_)
  refine qL ?_
  refine YN (fun az wv5 => ∃ (L : List Nat) (pw : Int) (h : Hd) (dw : Bool) (Lx : List It) (c : Nat) (er : Int) (va : Value) (vb : Value) (m : Nat) (us1 : Nat → Value), az = ⟨[iK sz, .slice ao0 l.length cap0, uD, uD, us1 4, vP p 0, vP rp 0, va, iK er, vb, iK er, us1 11, us1 12, us1 13, us1 14, us1 15, us1 16, us1 17, us1 18, us1 19, us1 20, us1 21, us1 22, us1 23, us1 24, us1 25, us1 26, us1 27, us1 28, .tuple #[vP p 0, vP rp 0], iK sz, .int .u64 (((uN sz) : Nat) : Int), .int .u64 ((n : Nat) : Int), nK n, nK (n * 64), .slice (some ⟨gb, 0, none⟩) (n * 64) (n * 64), .tuple #[vP p 0, vP rp 0], vP p 0, vP rp 0, vP p 0, vF, vF, vT, vF, vF, .tuple #[va0, iK er0], vP p 0, .tuple #[va0, iK er0], va0, iK er0, .tuple #[vb0, iK er0], vP rp 0, .tuple #[vb0, iK er0], vb0, iK er0, us1 55, us1 56, us1 57, us1 58, us1 59, us1 60, us1 61, us1 62, us1 63, us1 64, us1 65, us1 66, us1 67, us1 68, us1 69, us1 70, us1 71, us1 72, us1 73, us1 74, us1 75, us1 76, us1 77, us1 78, us1 79, us1 80, us1 81, us1 82, us1 83, us1 84, us1 85, us1 86, us1 87, us1 88, us1 89, us1 90, us1 91, us1 92, us1 93, us1 94, us1 95, us1 96, us1 97, us1 98, us1 99, us1 100, us1 101, us1 102, us1 103, us1 104, us1 105, us1 106, us1 107, us1 108, us1 109, us1 110, us1 111, us1 112, us1 113, us1 114, us1 115, us1 116, us1 117, us1 118, us1 119, us1 120, us1 121, us1 122, us1 123, us1 124, us1 125, us1 126, us1 127, us1 128, us1 129, us1 130, us1 131, us1 132, us1 133, us1 134, us1 135, us1 136, us1 137, us1 138, us1 139, us1 140, us1 141, us1 142, us1 143, us1 144, us1 145, us1 146, us1 147, us1 148, us1 149, us1 150, us1 151, us1 152, us1 153, us1 154, us1 155, us1 156, us1 157, us1 158, us1 159, us1 160, us1 161, us1 162, us1 163, us1 164, us1 165, us1 166, us1 167, us1 168, us1 169, us1 170, us1 171, us1 172, us1 173, us1 174, us1 175, us1 176, us1 177, us1 178, us1 179, us1 180, us1 181, us1 182, us1 183, us1 184, us1 185, us1 186, us1 187, us1 188, us1 189, us1 190, us1 191, us1 192, us1 193, us1 194, us1 195, us1 196, us1 197, us1 198, us1 199, us1 200, us1 201, us1 202, us1 203, us1 204, us1 205, us1 206, us1 207, us1 208, us1 209, us1 210, us1 211, us1 212, us1 213, us1 214, us1 215, us1 216, us1 217, us1 218, us1 219, us1 220, us1 221, us1 222, us1 223, us1 224, us1 225, us1 226, us1 227, us1 228, us1 229, us1 230, us1 231, us1 232, us1 233, us1 234, us1 235, us1 236, us1 237, us1 238, us1 239, us1 240, us1 241, us1 242, us1 243, us1 244, us1 245, us1 246, us1 247, us1 248, us1 249, us1 250, us1 251, us1 252, us1 253, us1 254, us1 255, us1 256, us1 257, us1 258, us1 259, us1 260, us1 261, us1 262, us1 263, us1 264, us1 265, us1 266, us1 267, us1 268, us1 269, us1 270, us1 271, us1 272, us1 273, us1 274, us1 275, us1 276, us1 277, us1 278, us1 279, us1 280, us1 281, us1 282, us1 283, us1 284, us1 285, us1 286, us1 287, us1 288, uD, uD, uD, uD, uD, uD, uD, uD, uD, uD, uD, uD, uD, uD, uD, uD, uD, uD, uD, uD, uD].toArray, []⟩ ∧ Gro w wv5 ∧ Two w.heap.size wv5 p sg rp ro rc n L pw pw h dw Lx c er m va vb) ?_ ?_
  clear GG
  rintro az wv5 ⟨L, pw, h, dw, Lx, c, er, va, vb, m, us1, rfl, GG, HT⟩
  have GV := Gro.refl wv5
  refine qE ?_
  obtain ⟨dn, dq, HD, HQ, hd⟩ := (HT.gro GV).dq
  obtain ⟨bb, hnA, hnB⟩ := HT.nils
  refine jQ (A := ?Ax1) 20 [(0, 289), (1, 290), (2, 291), (3, 292), (4, 293), (5, 294), (6, 295), (7, 296), (8, 297), (9, 298), (10, 299), (11, 300), (12, 301), (13, 302), (14, 303), (15, 304), (16, 305), (17, 306), (18, 307), (19, 308)] [.val (iK er), .val (iK er), .val (vT), .val (vT), .val (va), .val (.bool bb), .val (vb), .val (.bool bb), .val (vT), .val (vT), .val (vT), .val (vP p 0), bytE wv5.heap.size L, .val (.string (bas L)), .val (vP rp 0), .val (vP rp 0), .val (vP rp 0), .val (.slice ro (n * 64) rc), .val (.string (bas L)), .val (vT)] follows (by kernel_rfl) rfl ?hAx1 (ja ?_ (ja ?_ (ja ?_ (ja ?_ (ja ?_ (ja ?_ (ja ?_ (ja ?_ (ja ?_ (ja ?_ (ja ?_ (ja ?_ (ja ?_ (ja ?_ (ja ?_ (ja ?_ (ja ?_ (ja ?_ (ja ?_ (ja ?_ jD)))))))))))))))))))) ?_
  case hAx1 =>
    intro ptrs
    simp only [full, foldSlots, filledE, postE, List.foldl_cons, List.foldl_nil, List.getD_cons_zero, List.getD_cons_succ, zu, yi, List.set_cons_zero, List.set_cons_succ]
    exact rfl
  exact fun _ _ _ _ => jf _ rfl rfl rfl
  exact fun _ _ _ _ => jf _ rfl rfl rfl
  exact fun _ _ _ _ => jb rfl (jw 31 .i64 _ _ _ rfl underlying31 er er rfl rfl true (decide_eq_true rfl) _)
  exact fun _ _ _ _ => jf _ rfl rfl rfl
  exact fun _ _ _ _ => jf _ rfl rfl rfl
  exact fun _ _ _ _ => jb rfl (hnA _ _ _ rfl rfl rfl)
  exact fun _ _ _ _ => jf _ rfl rfl rfl
  exact fun _ _ _ _ => jb rfl (hnB _ _ _ rfl rfl rfl)
  exact fun _ _ _ _ => jb rfl (jci 4 _ _ _ rfl bb rfl rfl underlying4)
  exact fun _ _ _ _ => zw (v := vT) _ _ _ rfl rfl true rfl rfl
  exact fun _ _ _ _ => jf _ rfl rfl rfl
  exact fun _ _ _ _ => jf _ rfl rfl rfl
  intro ptrs w' hw hE
  exact zi (bytE wv5.heap.size L) rfl _ 8 call8 rfl rfl _ rfl [vP p 0] rfl ((UG _ p sg n L _ _ (HD.gro ((Gro.refl _).drew.trans hw))).mono fun e w' ⟨ao, cap, he, hg, ho⟩ => ⟨_, he, hg, ao, cap, rfl, ho.mono hw.size⟩)
  intro ptrs w' hw hE
  obtain ⟨⟨ao12, cap12, h12, o12⟩, _⟩ := hE
  exact jb (v := .string (bas L)) rfl (zA bT 9 rfl _ rfl (by exact h12) o12.nc)
  exact fun _ _ _ _ => jf _ rfl rfl rfl
  exact fun _ _ _ _ => jb rfl (jl _ rfl _ rfl)
  exact fun _ _ _ _ => jb rfl (je 47 _ 0 rfl rp 0 rfl 0 (by kernel_rfl))
  exact fun _ _ hw _ => jb rfl (ldQr (HQ.gro ((Gro.refl _).drew.trans hw)) _ rfl rfl)
  exact fun _ _ hw _ => jb rfl (zA bT 9 rfl _ rfl (by rw [(HQ.gro ((Gro.refl _).drew.trans hw)).len]; rfl) (HQ.gro ((Gro.refl _).drew.trans hw)).row.nc)
  exact fun _ _ _ _ => jb rfl (ZO _ _ _ rfl _ _ rfl rfl true (decide_eq_true rfl) _)
  intro pt1 w6 GD hxE
  simp only [List.drop_succ_cons, List.drop_zero]
  replace GV := GV.gro ((Gro.refl _).drew.trans GD)
  replace GG := GG.drew.trans GD
  obtain ⟨_, _⟩ := hxE
  clear GD
  refine mv (vT) rfl (mv (vT) rfl (nq ?_))
  refine qL (qR ?_)
  refine bodyPost_ret (results_tmp results3 _ _ _) rfl ?_
  exact ⟨rfl, GG⟩
  intro HT1
  refine qE (qE (qG (mv (.slice ao0 l.length cap0) rfl (sv (nK l.length) (js underlying22 _ rfl _ _ _ rfl _) rfl (mv (iK 0) rfl (nq ?_))))))
  refine qL (qB ?_)
  refine jO (fun mz az wv => ∃ (i : Nat) (L : List Nat) (pw : Int) (h : Hd) (dw : Bool) (rs : List (List Nat)) (Lx : List It) (c : Nat) (er : Int) (va : Value) (vb : Value) (us2 : Nat → Value), mz = l.length - i ∧ az = ⟨[iK sz, .slice ao0 l.length cap0, uD, uD, us2 4, vP p 0, vP rp 0, va, iK er, vb, iK er, us2 11, us2 12, us2 13, us2 14, us2 15, us2 16, us2 17, us2 18, us2 19, us2 20, us2 21, us2 22, us2 23, us2 24, us2 25, us2 26, us2 27, us2 28, .tuple #[vP p 0, vP rp 0], iK sz, .int .u64 (((uN sz) : Nat) : Int), .int .u64 ((n : Nat) : Int), nK n, nK (n * 64), .slice (some ⟨gb, 0, none⟩) (n * 64) (n * 64), .tuple #[vP p 0, vP rp 0], vP p 0, vP rp 0, vP p 0, vF, vF, vT, vF, vF, .tuple #[va0, iK er0], vP p 0, .tuple #[va0, iK er0], va0, iK er0, .tuple #[vb0, iK er0], vP rp 0, .tuple #[vb0, iK er0], vb0, iK er0, .slice ao0 l.length cap0, nK l.length, nK i, us2 58, us2 59, us2 60, us2 61, us2 62, us2 63, us2 64, us2 65, us2 66, us2 67, us2 68, us2 69, us2 70, us2 71, us2 72, us2 73, us2 74, us2 75, us2 76, us2 77, us2 78, us2 79, us2 80, us2 81, us2 82, us2 83, us2 84, us2 85, us2 86, us2 87, us2 88, us2 89, us2 90, us2 91, us2 92, us2 93, us2 94, us2 95, us2 96, us2 97, us2 98, us2 99, us2 100, us2 101, us2 102, us2 103, us2 104, us2 105, us2 106, us2 107, us2 108, us2 109, us2 110, us2 111, us2 112, us2 113, us2 114, us2 115, us2 116, us2 117, us2 118, us2 119, us2 120, us2 121, us2 122, us2 123, us2 124, us2 125, us2 126, us2 127, us2 128, us2 129, us2 130, us2 131, us2 132, us2 133, us2 134, us2 135, us2 136, us2 137, us2 138, us2 139, us2 140, us2 141, us2 142, us2 143, us2 144, us2 145, us2 146, us2 147, us2 148, us2 149, us2 150, us2 151, us2 152, us2 153, us2 154, us2 155, us2 156, us2 157, us2 158, us2 159, us2 160, us2 161, us2 162, us2 163, us2 164, us2 165, us2 166, us2 167, us2 168, us2 169, us2 170, us2 171, us2 172, us2 173, us2 174, us2 175, us2 176, us2 177, us2 178, us2 179, us2 180, us2 181, us2 182, us2 183, us2 184, us2 185, us2 186, us2 187, us2 188, us2 189, us2 190, us2 191, us2 192, us2 193, us2 194, us2 195, us2 196, us2 197, us2 198, us2 199, us2 200, us2 201, us2 202, us2 203, us2 204, us2 205, us2 206, us2 207, us2 208, us2 209, us2 210, us2 211, us2 212, us2 213, us2 214, us2 215, us2 216, us2 217, us2 218, us2 219, us2 220, us2 221, us2 222, us2 223, us2 224, us2 225, us2 226, us2 227, us2 228, us2 229, us2 230, us2 231, us2 232, us2 233, us2 234, us2 235, us2 236, us2 237, us2 238, us2 239, us2 240, us2 241, us2 242, us2 243, us2 244, us2 245, us2 246, us2 247, us2 248, us2 249, us2 250, us2 251, us2 252, us2 253, us2 254, us2 255, us2 256, us2 257, us2 258, us2 259, us2 260, us2 261, us2 262, us2 263, us2 264, us2 265, us2 266, us2 267, us2 268, us2 269, us2 270, us2 271, us2 272, us2 273, us2 274, us2 275, us2 276, us2 277, us2 278, us2 279, us2 280, us2 281, us2 282, us2 283, us2 284, us2 285, us2 286, us2 287, us2 288, uD, uD, uD, uD, uD, uD, uD, uD, uD, uD, uD, uD, uD, uD, uD, uD, uD, uD, uD, uD, uD].toArray, []⟩ ∧ Gro w wv ∧ Two w.heap.size wv p sg rp ro rc n L pw pw h dw Lx c er (i + 1) va vb ∧ PU n L pw h rs Lx c er (i + 1) ∧ (i ≤ l.length ∧ i ≤ 121)) ?_ _ ⟨0, L0, pw0, h0, false, rs0, Lx0, c0, er0, va0, vb0, usK ⟨GG, HT9, HP0, ⟨Nat.zero_le _, Nat.zero_le _⟩⟩⟩
  clear GG
  rintro mz az wv ⟨i, L, pw, h, dw, rs, Lx, c, er, va, vb, us2, rfl, rfl, GG, HT, HP, hi⟩
  have GV := Gro.refl wv
  refine qE ?_
  cases h1 : decide (((i : Nat) : Int) < ((l.length : Nat) : Int))
  refine qG (sv (vF) (jv 3 _ _ _ rfl ((i : Nat) : Int) ((l.length : Nat) : Int) rfl rfl false h1 _) rfl (nq ?_))
  refine qL (qE (qF rfl (wp_exit (jG (jG (zp (jC ?_)))))))
  exact HT1 _ _ ⟨L, pw, h, dw, Lx, c, er, va, vb, (i + 1), usJ ⟨GG, HT.gro GV⟩⟩
  have hlt : i < l.length := by have := of_decide_eq_true h1; omega
  refine qG (sv (vT) (jv 3 _ _ _ rfl ((i : Nat) : Int) ((l.length : Nat) : Int) rfl rfl true h1 _) rfl (nq ?_))
  refine qL (qE (qT rfl (qK (qE (qB (qE ?_))))))
  obtain ⟨q, hq⟩ : ∃ q, l.getD i zO = q := ⟨_, rfl⟩
  have hqm := kO_mem hlt hq
  have hqo := HA.all q hqm
  have hqn := HN q hqm
  have hqb := hbig q hqm
  refine qG (mv (nK i) rfl (sv (.pointer (pK kO ao0 i 0)) (za rO ((HA.gro GG)) _ _ rfl rfl i rfl (by omega)) rfl (sv (.agg (opA q)) (jcg (HA.gro GG) _ rfl i rfl hlt hq) rfl (nq ?_))))
  refine jH 12 rfl rfl 44 rfl _ zeroOp (opA zO) rfl ?_
  intro w6 g1 G eg1 kg1
  have bg1 := jh GG eg1
  have dGVg1 := GV.ne eg1
  replace GV := GV.gro G
  replace GG := GG.trans G
  clear G
  clear eg1
  refine nq ?_
  refine mv (nK i) rfl (nq ?_)
  refine jE rfl rfl 44 _ _ rfl g1 0 rfl (.agg (opA q)) rfl 44 _ kg1 (opA q) rfl (siOp' _) (opA_fit _ _) (opA_one _) (opA q) (jS _ _ (opA_sz _ _)) ?_
  intro w7 St
  replace GV := GV.st St dGVg1
  replace GG := GG.store St bg1
  replace kg1 := St.new
  clear St
  refine qL (qE (qE ?_))
  cases h2 : decide ((120 : Int) < ((i : Nat) : Int))
  have h120 := of_decide_eq_false h2
  obtain ⟨dn, dq, HD, HQ, hd⟩ := (HT.gro GV).dq
  obtain ⟨bb, hnA, hnB⟩ := HT.nils
  refine jQ (A := ?Ax2) 24 [(0, 62), (1, 63), (2, 64), (3, 65), (4, 66), (5, 67), (6, 68), (7, 69), (8, 70), (9, 71), (10, 72), (11, 73), (12, 74), (13, 75), (14, 76), (15, 77), (16, 78), (17, 79), (18, 80), (19, 81), (20, 82), (21, 83), (22, 84), (23, 85)] [.val (nK i), .val (vF), .val (vF), .val (iK er), .val (iK er), .val (vF), .val (vF), .val (vF), .val (va), .val (.bool bb), .val (vb), .val (.bool bb), .val (vF), .val (vF), .val (vF), .val (vP p 0), bytE w7.heap.size L, .val (.string (bas L)), .val (vP rp 0), .val (vP rp 0), .val (vP rp 0), .val (.slice ro (n * 64) rc), .val (.string (bas L)), .val (vF)] follows (by kernel_rfl) rfl ?hAx2 (ja ?_ (ja ?_ (ja ?_ (ja ?_ (ja ?_ (ja ?_ (ja ?_ (ja ?_ (ja ?_ (ja ?_ (ja ?_ (ja ?_ (ja ?_ (ja ?_ (ja ?_ (ja ?_ (ja ?_ (ja ?_ (ja ?_ (ja ?_ (ja ?_ (ja ?_ (ja ?_ (ja ?_ jD)))))))))))))))))))))))) ?_
  case hAx2 =>
    intro ptrs
    simp only [full, foldSlots, filledE, postE, List.foldl_cons, List.foldl_nil, List.getD_cons_zero, List.getD_cons_succ, zu, yi, List.set_cons_zero, List.set_cons_succ]
    exact rfl
  exact fun _ _ _ _ => jf _ rfl rfl rfl
  exact fun _ _ _ _ => jb rfl (jy 3 _ _ _ rfl ((i : Nat) : Int) 120 rfl rfl false h2 _)
  exact fun _ _ _ _ => jf _ rfl rfl rfl
  exact fun _ _ _ _ => jf _ rfl rfl rfl
  exact fun _ _ _ _ => jf _ rfl rfl rfl
  exact fun _ _ _ _ => jb rfl (jj 31 .i64 _ _ _ rfl underlying31 er er rfl rfl false (decide_eq_true rfl) _)
  exact fun _ _ _ _ => zw (v := vF) _ _ _ rfl rfl false rfl rfl
  exact fun _ _ _ _ => jf _ rfl rfl rfl
  exact fun _ _ _ _ => jf _ rfl rfl rfl
  exact fun _ _ _ _ => jb rfl (hnA _ _ _ rfl rfl rfl)
  exact fun _ _ _ _ => jf _ rfl rfl rfl
  exact fun _ _ _ _ => jb rfl (hnB _ _ _ rfl rfl rfl)
  exact fun _ _ _ _ => jb rfl (Jj 4 _ _ _ rfl bb rfl rfl underlying4)
  exact fun _ _ _ _ => zw (v := vF) _ _ _ rfl rfl false rfl rfl
  exact fun _ _ _ _ => jf _ rfl rfl rfl
  exact fun _ _ _ _ => jf _ rfl rfl rfl
  intro ptrs w' hw hE
  exact zi (bytE w7.heap.size L) rfl _ 8 call8 rfl rfl _ rfl [vP p 0] rfl ((UG _ p sg n L _ _ (HD.gro ((Gro.refl _).drew.trans hw))).mono fun e w' ⟨ao, cap, he, hg, ho⟩ => ⟨_, he, hg, ao, cap, rfl, ho.mono hw.size⟩)
  intro ptrs w' hw hE
  obtain ⟨⟨ao16, cap16, h16, o16⟩, _⟩ := hE
  exact jb (v := .string (bas L)) rfl (zA bT 9 rfl _ rfl (by exact h16) o16.nc)
  exact fun _ _ _ _ => jf _ rfl rfl rfl
  exact fun _ _ _ _ => jb rfl (jl _ rfl _ rfl)
  exact fun _ _ _ _ => jb rfl (je 47 _ 0 rfl rp 0 rfl 0 (by kernel_rfl))
  exact fun _ _ hw _ => jb rfl (ldQr (HQ.gro ((Gro.refl _).drew.trans hw)) _ rfl rfl)
  exact fun _ _ hw _ => jb rfl (zA bT 9 rfl _ rfl (by rw [(HQ.gro ((Gro.refl _).drew.trans hw)).len]; rfl) (HQ.gro ((Gro.refl _).drew.trans hw)).row.nc)
  exact fun _ _ _ _ => jb rfl (uZ _ _ _ rfl _ _ rfl rfl false (decide_eq_true rfl) _)
  intro pt2 w8 GD hxE
  simp only [List.drop_succ_cons, List.drop_zero]
  replace kg1 := GD.has kg1
  replace GV := GV.gro ((Gro.refl _).drew.trans GD)
  replace GG := GG.drew.trans GD
  obtain ⟨_, _⟩ := hxE
  clear GD
  refine mv (vF) rfl (nq ?_)
  refine qL (qF rfl (qK (qE (qE ?_))))
  cases h3 : decide (q.kind = 3)
  have hk3 := of_decide_eq_false h3
  refine qG (sv (vP g1 0) (je 44 _ 0 rfl g1 0 rfl 0 (by kernel_rfl)) rfl (sv (iK q.kind) (ldOpk _ rfl g1 rfl (kg1)) rfl (sv (vF) (jw 3 .i64 _ _ _ rfl underlying3 q.kind 3 rfl rfl false h3 _) rfl (nq ?_))))
  refine qL (qF rfl (qK (qE (qE ?_))))
  have HT0 := HT.gro GV
  rcases HT with ⟨hne, rfl, rfl, _⟩ | ⟨rfl, U, vp, lp, mb, vq, mp, dnA, dnB, M, ao, cap, R, C, rfl, rfl, H⟩
  skip
  refine jg ?_
  intro OPS hY
  have y2 := hY 2 102 rfl
  have y7 := hY 7 107 rfl
  clear hY
  refine mv (.pointer none) rfl (sv (vT) (ZP 30 _ _ _ rfl rfl rfl underlying30 _) rfl (mv (vT) rfl (jk 103 rfl rfl y2 rfl ?_)))
  refine nq ?_
  refine jk 104 rfl rfl y2 rfl (jk 105 rfl rfl y2 rfl (mv (vT) rfl (mv (vT) rfl ?_)))
  refine nq ?_
  refine jk 108 rfl rfl y7 rfl (jk 109 rfl rfl y7 rfl (jk 110 rfl rfl y7 rfl (mv (vT) rfl ?_)))
  refine nq ?_
  refine qL (qT rfl (qE ?_))
  obtain ⟨dn, dq, HD, HQ, hd⟩ := HT0.dq
  obtain ⟨er2, L2, pw2, h2, rs2, Ly, c2, HP2, OA1, OB1⟩ := Jx n (by omega) L pw h rs Lx c _ (i + 1) HP (by omega) HD.byte
  clear HT0 GV kg1
  refine qG (mv (vP p 0) rfl (nq ?_))
  have w0s := GG.size
  refine jq 114 rfl rfl _ 6 call6 rfl rfl _ rfl [vP p 0] rfl (OA1 (p :: sg :: rp :: blk ro) _ p sg dn HD (QF HD HQ) (by simp) (by simp) (by omega) (by omega)) (by rintro _ _ ⟨_, _, he, _, _, _, _⟩; exact ⟨_, he⟩) ?_
  rintro v w9 ⟨va2, da, he, G, hA, d1, d2⟩
  cases he
  have HQa := HQ.keepD HD G
  have szA := G.size
  replace GG := G.gro GG (fun k hk => by simp only [List.mem_cons, List.not_mem_nil, or_false] at hk; omega)
  clear HD HQ G
  refine nq ?_
  refine mv (.tuple #[va2, iK er2]) rfl (mv (va2) rfl (mv (iK er2) rfl (mv (va2) rfl ?_)))
  refine nq ?_
  refine mv (iK er2) rfl (nq ?_)
  refine qL (qE (qG (mv (vP rp 0) rfl (nq ?_))))
  refine jq 119 rfl rfl _ 7 call7 rfl rfl _ rfl [vP rp 0] rfl (OB1 _ rp _ ro rc dq HQa (by omega) (by omega)) (by rintro _ _ ⟨_, _, he, _, _, _, _⟩; exact ⟨_, he⟩) ?_
  rintro v w10 ⟨vb2, db, he, G, hB, d3, d4⟩
  cases he
  have HT9 := YP (m := (i + 1 + 1)) hA HQa G hB w0s szA ⟨by omega, by omega, by omega, by omega⟩
  replace GG := G.gro GG (q_ge HQa brp)
  clear hA HQa hB G
  refine nq ?_
  refine mv (.tuple #[vb2, iK er2]) rfl (mv (vb2) rfl (mv (iK er2) rfl (mv (vb2) rfl ?_)))
  refine nq ?_
  refine mv (iK er2) rfl (nq ?_)
  refine qL (wp_exit (jG (zp (jC (qG (sv (nK (i + 1)) (jV 3 _ _ _ rfl ((i : Nat) : Int) 1 ((i + 1 : Nat) : Int) rfl rfl (by omega) (by omega) (by omega) _) rfl (mv (nK (i + 1)) rfl (nq ?_))))))))
  refine qL ?_
  exact ⟨_, by omega, i + 1, L2, pw2, h2, false, rs2, Ly, c2, er2, va2, vb2, usK ⟨GG, HT9, HP2, ⟨by omega, by omega⟩⟩⟩
  skip
  rcases (by omega : q.kind < 0 ∨ 3 < q.kind ∨ (q.kind = 0 ∨ q.kind = 1 ∨ q.kind = 2)) with hkk | hkk | hkk
  have t5 : decide (q.kind < 0) = true := decide_eq_true (by omega)
  refine jg ?_
  intro OPS hY
  have y2 := hY 2 102 rfl
  have y7 := hY 7 107 rfl
  clear hY
  refine mv (vP vp 0) rfl (sv (vF) (jT 30 _ _ _ rfl _ rfl rfl underlying30 _) rfl (mv (vF) rfl (jd 103 rfl rfl y2 rfl (vP g1 0) (je 44 _ 0 rfl g1 0 rfl 0 (by kernel_rfl)) ?_)))
  refine nq ?_
  refine jd 104 rfl rfl y2 rfl (iK q.kind) (ldOpk _ rfl g1 rfl (kg1)) (jd 105 rfl rfl y2 rfl (vT) (jv 3 _ _ _ rfl q.kind 0 rfl rfl true t5 _) (mv (vT) rfl (mv (vT) rfl ?_)))
  refine nq ?_
  refine jk 108 rfl rfl y7 rfl (jk 109 rfl rfl y7 rfl (jk 110 rfl rfl y7 rfl (mv (vT) rfl ?_)))
  refine nq ?_
  refine qL (qT rfl (qE ?_))
  obtain ⟨dn, dq, HD, HQ, hd⟩ := HT0.dq
  obtain ⟨er2, L2, pw2, h2, rs2, Ly, c2, HP2, OA1, OB1⟩ := Jx n (by omega) L pw h rs Lx c _ (i + 1) HP (by omega) HD.byte
  clear HT0 GV kg1
  refine qG (mv (vP p 0) rfl (nq ?_))
  have w0s := GG.size
  refine jq 114 rfl rfl _ 6 call6 rfl rfl _ rfl [vP p 0] rfl (OA1 (p :: sg :: rp :: blk ro) _ p sg dn HD (QF HD HQ) (by simp) (by simp) (by omega) (by omega)) (by rintro _ _ ⟨_, _, he, _, _, _, _⟩; exact ⟨_, he⟩) ?_
  rintro v w9 ⟨va2, da, he, G, hA, d1, d2⟩
  cases he
  have HQa := HQ.keepD HD G
  have szA := G.size
  replace GG := G.gro GG (fun k hk => by simp only [List.mem_cons, List.not_mem_nil, or_false] at hk; omega)
  clear HD HQ G
  refine nq ?_
  refine mv (.tuple #[va2, iK er2]) rfl (mv (va2) rfl (mv (iK er2) rfl (mv (va2) rfl ?_)))
  refine nq ?_
  refine mv (iK er2) rfl (nq ?_)
  refine qL (qE (qG (mv (vP rp 0) rfl (nq ?_))))
  refine jq 119 rfl rfl _ 7 call7 rfl rfl _ rfl [vP rp 0] rfl (OB1 _ rp _ ro rc dq HQa (by omega) (by omega)) (by rintro _ _ ⟨_, _, he, _, _, _, _⟩; exact ⟨_, he⟩) ?_
  rintro v w10 ⟨vb2, db, he, G, hB, d3, d4⟩
  cases he
  have HT9 := YP (m := (i + 1 + 1)) hA HQa G hB w0s szA ⟨by omega, by omega, by omega, by omega⟩
  replace GG := G.gro GG (q_ge HQa brp)
  clear hA HQa hB G
  refine nq ?_
  refine mv (.tuple #[vb2, iK er2]) rfl (mv (vb2) rfl (mv (iK er2) rfl (mv (vb2) rfl ?_)))
  refine nq ?_
  refine mv (iK er2) rfl (nq ?_)
  refine qL (wp_exit (jG (zp (jC (qG (sv (nK (i + 1)) (jV 3 _ _ _ rfl ((i : Nat) : Int) 1 ((i + 1 : Nat) : Int) rfl rfl (by omega) (by omega) (by omega) _) rfl (mv (nK (i + 1)) rfl (nq ?_))))))))
  refine qL ?_
  exact ⟨_, by omega, i + 1, L2, pw2, h2, false, rs2, Ly, c2, er2, va2, vb2, usK ⟨GG, HT9, HP2, ⟨by omega, by omega⟩⟩⟩
  have t5 : decide (q.kind < 0) = false := decide_eq_false (by omega)
  have t6 : decide (3 < q.kind) = true := decide_eq_true (by omega)
  refine jg ?_
  intro OPS hY
  have y2 := hY 2 102 rfl
  have y7 := hY 7 107 rfl
  clear hY
  refine mv (vP vp 0) rfl (sv (vF) (jT 30 _ _ _ rfl _ rfl rfl underlying30 _) rfl (mv (vF) rfl (jd 103 rfl rfl y2 rfl (vP g1 0) (je 44 _ 0 rfl g1 0 rfl 0 (by kernel_rfl)) ?_)))
  refine nq ?_
  refine jd 104 rfl rfl y2 rfl (iK q.kind) (ldOpk _ rfl g1 rfl (kg1)) (jd 105 rfl rfl y2 rfl (vF) (jv 3 _ _ _ rfl q.kind 0 rfl rfl false t5 _) (mv (vF) rfl (mv (vF) rfl ?_)))
  refine nq ?_
  refine jd 108 rfl rfl y7 rfl (vP g1 0) (je 44 _ 0 rfl g1 0 rfl 0 (by kernel_rfl)) (jd 109 rfl rfl y7 rfl (iK q.kind) (ldOpk _ rfl g1 rfl (kg1)) (jd 110 rfl rfl y7 rfl (vT) (jy 3 _ _ _ rfl q.kind 3 rfl rfl true t6 _) (mv (vT) rfl ?_)))
  refine nq ?_
  refine qL (qT rfl (qE ?_))
  obtain ⟨dn, dq, HD, HQ, hd⟩ := HT0.dq
  obtain ⟨er2, L2, pw2, h2, rs2, Ly, c2, HP2, OA1, OB1⟩ := Jx n (by omega) L pw h rs Lx c _ (i + 1) HP (by omega) HD.byte
  clear HT0 GV kg1
  refine qG (mv (vP p 0) rfl (nq ?_))
  have w0s := GG.size
  refine jq 114 rfl rfl _ 6 call6 rfl rfl _ rfl [vP p 0] rfl (OA1 (p :: sg :: rp :: blk ro) _ p sg dn HD (QF HD HQ) (by simp) (by simp) (by omega) (by omega)) (by rintro _ _ ⟨_, _, he, _, _, _, _⟩; exact ⟨_, he⟩) ?_
  rintro v w9 ⟨va2, da, he, G, hA, d1, d2⟩
  cases he
  have HQa := HQ.keepD HD G
  have szA := G.size
  replace GG := G.gro GG (fun k hk => by simp only [List.mem_cons, List.not_mem_nil, or_false] at hk; omega)
  clear HD HQ G
  refine nq ?_
  refine mv (.tuple #[va2, iK er2]) rfl (mv (va2) rfl (mv (iK er2) rfl (mv (va2) rfl ?_)))
  refine nq ?_
  refine mv (iK er2) rfl (nq ?_)
  refine qL (qE (qG (mv (vP rp 0) rfl (nq ?_))))
  refine jq 119 rfl rfl _ 7 call7 rfl rfl _ rfl [vP rp 0] rfl (OB1 _ rp _ ro rc dq HQa (by omega) (by omega)) (by rintro _ _ ⟨_, _, he, _, _, _, _⟩; exact ⟨_, he⟩) ?_
  rintro v w10 ⟨vb2, db, he, G, hB, d3, d4⟩
  cases he
  have HT9 := YP (m := (i + 1 + 1)) hA HQa G hB w0s szA ⟨by omega, by omega, by omega, by omega⟩
  replace GG := G.gro GG (q_ge HQa brp)
  clear hA HQa hB G
  refine nq ?_
  refine mv (.tuple #[vb2, iK er2]) rfl (mv (vb2) rfl (mv (iK er2) rfl (mv (vb2) rfl ?_)))
  refine nq ?_
  refine mv (iK er2) rfl (nq ?_)
  refine qL (wp_exit (jG (zp (jC (qG (sv (nK (i + 1)) (jV 3 _ _ _ rfl ((i : Nat) : Int) 1 ((i + 1 : Nat) : Int) rfl rfl (by omega) (by omega) (by omega) _) rfl (mv (nK (i + 1)) rfl (nq ?_))))))))
  refine qL ?_
  exact ⟨_, by omega, i + 1, L2, pw2, h2, false, rs2, Ly, c2, er2, va2, vb2, usK ⟨GG, HT9, HP2, ⟨by omega, by omega⟩⟩⟩
  have t5 : decide (q.kind < 0) = false := decide_eq_false (by omega)
  have t6 : decide (3 < q.kind) = false := decide_eq_false (by omega)
  refine jg ?_
  intro OPS hY
  have y2 := hY 2 102 rfl
  have y7 := hY 7 107 rfl
  clear hY
  refine mv (vP vp 0) rfl (sv (vF) (jT 30 _ _ _ rfl _ rfl rfl underlying30 _) rfl (mv (vF) rfl (jd 103 rfl rfl y2 rfl (vP g1 0) (je 44 _ 0 rfl g1 0 rfl 0 (by kernel_rfl)) ?_)))
  refine nq ?_
  refine jd 104 rfl rfl y2 rfl (iK q.kind) (ldOpk _ rfl g1 rfl (kg1)) (jd 105 rfl rfl y2 rfl (vF) (jv 3 _ _ _ rfl q.kind 0 rfl rfl false t5 _) (mv (vF) rfl (mv (vF) rfl ?_)))
  refine nq ?_
  refine jd 108 rfl rfl y7 rfl (vP g1 0) (je 44 _ 0 rfl g1 0 rfl 0 (by kernel_rfl)) (jd 109 rfl rfl y7 rfl (iK q.kind) (ldOpk _ rfl g1 rfl (kg1)) (jd 110 rfl rfl y7 rfl (vF) (jy 3 _ _ _ rfl q.kind 3 rfl rfl false t6 _) (mv (vF) rfl ?_)))
  refine nq ?_
  refine qL (qF rfl (qK (qE ?_)))
  have H0 := H.gro GV
  clear H HT0 GV
  have hd0 := H0.d
  have hg0 := H0.ge
  obtain ⟨KS, hKS⟩ : ∃ KS, w8.heap.size = KS := ⟨_, rfl⟩
  have hKw : w.heap.size ≤ KS := hKS ▸ GG.size
  have hro0 : ∀ k ∈ blk ro, k < KS := hKS ▸ H0.roL
  have hU0 : ∀ k ∈ U, k < KS := hKS ▸ H0.vk.lt
  have hge3 := H0.vd.dsk.ge3 brp hg0.2.2.2.2.1
  have GK := Gro.refl w8
  refine qG (sv (vP g1 2) (je 44 _ 2 rfl g1 0 rfl 2 (by kernel_rfl)) rfl (sv (iA q.x) (ldOpx _ rfl g1 rfl (kg1)) rfl (nq ?_)))
  refine jq 124 rfl rfl _ 10 call10 rfl rfl _ rfl [iA q.x] rfl (Qt _ q.x (hqn.gro GG) (by omega)) (by rintro _ _ ⟨_, _, he, _, _⟩; exact ⟨_, he⟩) ?_
  rintro v w9 ⟨xo, xc, he, G, HX⟩
  cases he
  rw [hKS] at HX
  replace kg1 := G.has kg1
  replace GK := GK.gro G
  replace GG := GG.trans G
  clear G
  refine nq ?_
  refine jH 13 rfl rfl 42 rfl _ zeroIt (itA zM) rfl ?_
  intro w10 g2 G eg2 kg2
  have bg2 := jh GG eg2
  have dg1g2 := jn kg1 eg2
  have dGKg2 := GK.ne eg2
  have dHXg2 := HX.ne eg2
  replace kg1 := G.has kg1
  replace GK := GK.gro G
  replace HX := HX.gro G
  replace GG := GG.trans G
  clear G
  clear eg2
  refine nq ?_
  refine stI (q.x.re xo xc) rfl rfl rfl kg2 rfl ?_
  intro w11 St
  replace kg1 := St.has (by omega) kg1
  replace GK := GK.st St dGKg2
  replace HX := HX.st St dHXg2
  replace GG := GG.store St bg2
  replace kg2 := St.new
  clear St
  refine qL ?_
  refine YN (fun az wv3 => ∃ (L2 : List Nat) (pw2 : Int) (h2 : Hd) (dw2 : Bool) (rs2 : List (List Nat)) (Ly : List It) (M2 : List (Nat × IM)) (ao2 : Option Addr) (cap2 : Nat) (R2 : List IM) (da : Int) (db : Int) (us3 : Nat → Value), az = ⟨[iK sz, .slice ao0 l.length cap0, uD, uD, us3 4, vP p 0, vP rp 0, vP vp 0, iK 0, vP vq 0, iK 0, nK i, vP g1 0, vP g2 0, us3 14, us3 15, us3 16, us3 17, us3 18, us3 19, us3 20, us3 21, us3 22, us3 23, us3 24, us3 25, us3 26, us3 27, us2 28, .tuple #[vP p 0, vP rp 0], iK sz, .int .u64 (((uN sz) : Nat) : Int), .int .u64 ((n : Nat) : Int), nK n, nK (n * 64), .slice (some ⟨gb, 0, none⟩) (n * 64) (n * 64), .tuple #[vP p 0, vP rp 0], vP p 0, vP rp 0, vP p 0, vF, vF, vT, vF, vF, .tuple #[va0, iK er0], vP p 0, .tuple #[va0, iK er0], va0, iK er0, .tuple #[vb0, iK er0], vP rp 0, .tuple #[vb0, iK er0], vb0, iK er0, .slice ao0 l.length cap0, nK l.length, nK i, vT, nK i, .pointer (pK kO ao0 i 0), .agg (opA q), nK i, vF, vF, iK 0, iK 0, vF, vF, vF, vP vp 0, .bool bb, vP vq 0, .bool bb, vF, vF, vF, vP p 0, pt2 16, .string (bas L), vP rp 0, vP rp 0, vP rp 0, .slice ro (n * 64) rc, .string (bas L), vF, vF, vP g1 0, iK q.kind, vF, us2 90, us2 91, us2 92, us2 93, us2 94, us2 95, us2 96, us2 97, us2 98, us2 99, vP vp 0, vF, vF, vP g1 0, iK q.kind, vF, vF, vF, vP g1 0, iK q.kind, vF, vF, us2 112, us2 113, us2 114, us2 115, us2 116, us2 117, us2 118, us2 119, us2 120, us2 121, vP g1 2, iA q.x, iA (q.x.re xo xc), us3 125, us3 126, us3 127, us3 128, us3 129, us3 130, us3 131, us3 132, us3 133, us3 134, us3 135, us3 136, us3 137, us3 138, us3 139, us3 140, us3 141, us3 142, us3 143, us3 144, us3 145, us3 146, us3 147, us3 148, us3 149, us3 150, us3 151, us3 152, us3 153, us3 154, us3 155, us3 156, us3 157, us3 158, us3 159, us3 160, us3 161, us3 162, us3 163, us3 164, us3 165, us3 166, us3 167, us3 168, us3 169, us3 170, us3 171, us3 172, us3 173, us3 174, us3 175, us3 176, us3 177, us3 178, us3 179, us3 180, us3 181, us3 182, us3 183, us3 184, us3 185, us3 186, us3 187, us3 188, us3 189, us3 190, us3 191, us3 192, us3 193, us3 194, us3 195, us3 196, us3 197, us3 198, us3 199, us3 200, us3 201, us3 202, us3 203, us3 204, us3 205, us3 206, us3 207, us3 208, us3 209, us3 210, us3 211, us3 212, us3 213, us3 214, us3 215, us3 216, us3 217, us3 218, us3 219, us3 220, us3 221, us3 222, us3 223, us3 224, us3 225, us3 226, us3 227, us3 228, us3 229, us3 230, us3 231, us3 232, us3 233, us3 234, us3 235, us3 236, us3 237, us3 238, us3 239, us2 240, us2 241, us2 242, us2 243, us2 244, us2 245, us2 246, us2 247, us2 248, us2 249, us2 250, us2 251, us2 252, us2 253, us2 254, us2 255, us2 256, us2 257, us2 258, us2 259, us2 260, us2 261, us2 262, us2 263, us2 264, us2 265, us2 266, us2 267, us2 268, us2 269, us2 270, us2 271, us2 272, us2 273, us2 274, us2 275, us2 276, us2 277, us2 278, us2 279, us2 280, us2 281, us2 282, us2 283, us2 284, us2 285, us2 286, us2 287, us2 288, uD, uD, uD, uD, uD, uD, uD, uD, uD, uD, uD, uD, uD, uD, uD, uD, uD, uD, uD, uD, uD].toArray, []⟩ ∧ Gro w wv3 ∧ wv3.heap[g1]? = some (.cells (opA q) 44 (0, 0)) ∧ wv3.heap[g2]? = some (.cells (itA (q.x.re xo xc)) 42 (0, 0)) ∧ OB wv3 5 .u8 KS xo xc q.x.val ∧ TwoO w.heap.size U wv3 vp lp p sg mb vq mp rp ro rc n L2 pw2 pw2 da db h2 dw2 Ly c M2 ao2 cap2 R2 C (i + 1 + 1) ∧ PU n L2 pw2 h2 rs2 Ly c 0 (i + 1 + 1) ∧ NoR (blk xo) ro M2 R2) ?_ ?_
  clear GG kg1 kg2 HX
  rintro az wv3 ⟨L2, pw2, h2, dw2, rs2, Ly, M2, ao2, cap2, R2, da, db, us3, rfl, GG, kg1, kg2, HX, H2, HP2, hNx⟩
  have GB := Gro.refl wv3
  refine qE (qE (qG (sv (iA (q.x.re xo xc)) (ldIt0 _ rfl g2 rfl (kg2)) rfl (sv (vP g1 2) (je 44 _ 2 rfl g1 0 rfl 2 (by kernel_rfl)) rfl (sv (iA q.x) (ldOpx _ rfl g1 rfl (kg1)) rfl (nq ?_))))))
  refine jr 243 rfl rfl _ 13 call13 rfl rfl _ rfl [iA (q.x.re xo xc), iA q.x] rfl (Ve (q.x.re xo xc) q.x (hqo.x.re _ _) hqo.x _ HX.nc (hqn.gro GG) true (fun _ => rfl) (fun hn => absurd rfl hn)) ?_
  intro w12 G
  replace kg1 := G.has kg1
  replace kg2 := G.has kg2
  replace HX := HX.gro G
  replace GB := GB.gro G
  replace GG := GG.trans G
  clear G
  refine nq ?_
  refine sv (vF) (jZ _ _ rfl true rfl) rfl (nq ?_)
  refine qL (qF rfl (qK (qE (qE (qG (sv (vP g2 33) (je 42 _ 2 rfl g2 0 rfl 33 (by kernel_rfl)) rfl (sv (.slice (q.x.re xo xc).ao (q.x.re xo xc).val.length (q.x.re xo xc).cap) (ldItr _ rfl g2 rfl (kg2)) rfl (sv (iK (((q.x.re xo xc).val.length : Nat) : Int)) (js underlying27 _ rfl _ _ _ rfl _) rfl (mv (iK 0) rfl ?_)))))))))
  refine nq ?_
  refine qL (qB ?_)
  refine jO (fun mz az wv4 => ∃ (k : Nat) (lj : List Nat) (us4 : Nat → Value), mz = (q.x.re xo xc).val.length - k ∧ az = ⟨[iK sz, .slice ao0 l.length cap0, uD, uD, us3 4, vP p 0, vP rp 0, vP vp 0, iK 0, vP vq 0, iK 0, nK i, vP g1 0, vP g2 0, us3 14, us3 15, us3 16, us3 17, us3 18, us3 19, us3 20, us3 21, us3 22, us3 23, us3 24, us3 25, us3 26, us3 27, us4 28, .tuple #[vP p 0, vP rp 0], iK sz, .int .u64 (((uN sz) : Nat) : Int), .int .u64 ((n : Nat) : Int), nK n, nK (n * 64), .slice (some ⟨gb, 0, none⟩) (n * 64) (n * 64), .tuple #[vP p 0, vP rp 0], vP p 0, vP rp 0, vP p 0, vF, vF, vT, vF, vF, .tuple #[va0, iK er0], vP p 0, .tuple #[va0, iK er0], va0, iK er0, .tuple #[vb0, iK er0], vP rp 0, .tuple #[vb0, iK er0], vb0, iK er0, .slice ao0 l.length cap0, nK l.length, nK i, vT, nK i, .pointer (pK kO ao0 i 0), .agg (opA q), nK i, vF, vF, iK 0, iK 0, vF, vF, vF, vP vp 0, .bool bb, vP vq 0, .bool bb, vF, vF, vF, vP p 0, pt2 16, .string (bas L), vP rp 0, vP rp 0, vP rp 0, .slice ro (n * 64) rc, .string (bas L), vF, vF, vP g1 0, iK q.kind, vF, us2 90, us2 91, us2 92, us2 93, us2 94, us2 95, us2 96, us2 97, us2 98, us2 99, vP vp 0, vF, vF, vP g1 0, iK q.kind, vF, vF, vF, vP g1 0, iK q.kind, vF, vF, us2 112, us2 113, us2 114, us2 115, us2 116, us2 117, us2 118, us2 119, us2 120, us2 121, vP g1 2, iA q.x, iA (q.x.re xo xc), us3 125, us3 126, us3 127, us3 128, us3 129, us3 130, us3 131, us3 132, us3 133, us3 134, us3 135, us3 136, us3 137, us3 138, us3 139, us3 140, us3 141, us3 142, us3 143, us3 144, us3 145, us3 146, us3 147, us3 148, us3 149, us3 150, us3 151, us3 152, us3 153, us3 154, us3 155, us3 156, us3 157, us3 158, us3 159, us3 160, us3 161, us3 162, us3 163, us3 164, us3 165, us3 166, us3 167, us3 168, us3 169, us3 170, us3 171, us3 172, us3 173, us3 174, us3 175, us3 176, us3 177, us3 178, us3 179, us3 180, us3 181, us3 182, us3 183, us3 184, us3 185, us3 186, us3 187, us3 188, us3 189, us3 190, us3 191, us3 192, us3 193, us3 194, us3 195, us3 196, us3 197, us3 198, us3 199, us3 200, us3 201, us3 202, us3 203, us3 204, us3 205, us3 206, us3 207, us3 208, us3 209, us3 210, us3 211, us3 212, us3 213, us3 214, us3 215, us3 216, us3 217, us3 218, us3 219, us3 220, us3 221, us3 222, us3 223, us3 224, us3 225, us3 226, us3 227, us3 228, us3 229, us3 230, us3 231, us3 232, us3 233, us3 234, us3 235, us3 236, us3 237, us3 238, us3 239, iA (q.x.re xo xc), vP g1 2, iA q.x, vT, vF, vP g2 33, .slice (q.x.re xo xc).ao (q.x.re xo xc).val.length (q.x.re xo xc).cap, iK (((q.x.re xo xc).val.length : Nat) : Int), nK k, us4 249, us4 250, us4 251, us4 252, us4 253, us4 254, us4 255, us4 256, us4 257, us4 258, us2 259, us2 260, us2 261, us2 262, us2 263, us2 264, us2 265, us2 266, us2 267, us2 268, us2 269, us2 270, us2 271, us2 272, us2 273, us2 274, us2 275, us2 276, us2 277, us2 278, us2 279, us2 280, us2 281, us2 282, us2 283, us2 284, us2 285, us2 286, us2 287, us2 288, uD, uD, uD, uD, uD, uD, uD, uD, uD, uD, uD, uD, uD, uD, uD, uD, uD, uD, uD, uD, uD].toArray, []⟩ ∧ k ≤ (q.x.re xo xc).val.length ∧ lj.length = (q.x.re xo xc).val.length ∧ GroS (blk (q.x.re xo xc).ao) w12 wv4 ∧ OB wv4 5 .u8 KS (q.x.re xo xc).ao (q.x.re xo xc).cap lj ∧ wv4.heap[g2]? = some (.cells (itA (q.x.re xo xc)) 42 (0, 0))) ?_ _ ⟨0, _, usK ⟨Nat.zero_le _, rfl, GroS.of (Gro.refl _), HX, kg2⟩⟩
  clear kg2
  rintro mz az wv4 ⟨k, lj, us4, rfl, rfl, hkl, hli, GI, HI, kg2⟩
  refine qE ?_
  cases t10 : decide (((k : Nat) : Int) < (((q.x.re xo xc).val.length : Nat) : Int))
  have hS5 := jdn HX
  have H3 := (H2.gro GB).inc GI hNx hS5
  replace GG := GI.gro GG (fun k hk => by have := (vh HX k hk).1; omega)
  clear H2 HX HI GI GB kg1 kg2
  have GB := Gro.refl wv4
  refine qG (sv (vF) (jv 3 _ _ _ rfl ((k : Nat) : Int) (((q.x.re xo xc).val.length : Nat) : Int) rfl rfl false t10 _) rfl (nq ?_))
  refine qL (qE (qF rfl (wp_exit (jG (jG (zp (jC (qE ?_))))))))
  have H5 := H3.gro GB
  obtain ⟨hn3, hh2, hsk2, _⟩ := HP2.op rfl
  have hfew := (HP2.good hn3).few (by omega) hh2
  refine jQ (A := ?Ax3) 28 [(0, 259), (1, 260), (2, 261), (3, 262), (4, 263), (5, 264), (6, 265), (7, 266), (8, 267), (9, 268), (10, 269), (11, 270), (12, 271), (13, 272), (14, 273), (15, 274), (16, 275), (17, 276), (18, 277), (19, 278), (20, 279), (21, 280), (22, 281), (23, 282), (24, 283), (25, 284), (26, 285), (27, 286)] [.val (vP vp 0), itsE wv4.heap.size Ly, .val (vP vq 0), .val (vP vq 0), .val (vP vq 1), .val (.slice ao2 R2.length cap2), .val (vT), .val (vF), .val (vF), .val (vP vp 0), .val (nK c), .val (vP vq 0), .val (vP vq 0), .val (vP vq 2), .val (nK c), .val (vF), .val (vF), .val (vF), .val (vP vp 0), .val (.bool dw2), .val (vP vq 0), .val (vP vq 0), .val (vP vq 0), .val (vP mp 0), .val (vP mp 0), .val (vP mp 4), .val (.bool dw2), .val (vF)] follows (by kernel_rfl) rfl ?hAx3 (ja ?_ (ja ?_ (ja ?_ (ja ?_ (ja ?_ (ja ?_ (ja ?_ (ja ?_ (ja ?_ (ja ?_ (ja ?_ (ja ?_ (ja ?_ (ja ?_ (ja ?_ (ja ?_ (ja ?_ (ja ?_ (ja ?_ (ja ?_ (ja ?_ (ja ?_ (ja ?_ (ja ?_ (ja ?_ (ja ?_ (ja ?_ (ja ?_ jD)))))))))))))))))))))))))))) ?_
  case hAx3 =>
    intro ptrs
    simp only [full, foldSlots, filledE, postE, List.foldl_cons, List.foldl_nil, List.getD_cons_zero, List.getD_cons_succ, zu, jaw, List.set_cons_zero, List.set_cons_succ]
    exact rfl
  exact fun _ _ _ _ => jf _ rfl rfl rfl
  intro ptrs w' hw hE
  exact zi (itsE wv4.heap.size Ly) rfl _ 19 call19 rfl rfl _ rfl [vP vp 0] rfl ((all_any _ _ vp lp p sg mb n L2 _ _ h2 dw2 _ M2 (H5.vk.gro ((Gro.refl _).drew.trans hw)) Ly H5.rel hsk2 hfew).mono fun e w' ⟨ao, cap, Z, he, hg, ho, hb, _, hZ⟩ => ⟨_, he, hg, ao, cap, Z, rfl, ho.mono hw.size, hb.mono hw.size, hZ⟩)
  exact fun _ _ _ _ => jf _ rfl rfl rfl
  exact fun _ _ _ _ => jb rfl (jl _ rfl _ rfl)
  exact fun _ _ _ _ => jb rfl (je 62 _ 1 rfl vq 0 rfl 1 (by kernel_rfl))
  exact fun _ _ hw _ => jb rfl (ldRvr _ rfl vq rfl (hw.has H5.vd.box))
  intro ptrs w' hw hE
  obtain ⟨⟨ao1, cap1, Z1, h1, o1, b1, e1⟩, _, _⟩ := hE
  exact zi (.val (vT)) rfl _ 18 call18 rfl rfl _ rfl [.slice ao1 Z1.length cap1, .slice ao2 R2.length cap2] (congrArg (fun a => [a, Value.slice ao2 R2.length cap2]) h1) ((VN _ ao1 ao2 cap1 cap2 Z1 R2 o1.re (H5.vd.row.gro ((Gro.refl _).drew.trans hw)).re b1.nc (H5.vd.byt.gro ((Gro.refl _).drew.trans hw)).nc (by have := congrArg List.length e1; rw [List.length_map] at this; omega) true (fun _ => rfl) (fun hn => absurd (jbr e1 H5.its H5.vd.n0) hn)).mono fun e w' ⟨he, hg⟩ => ⟨_, he, hg, rfl⟩)
  exact fun _ _ _ _ => jb rfl (jZ _ _ rfl true rfl)
  exact fun _ _ _ _ => jf _ rfl rfl rfl
  exact fun _ _ _ _ => jf _ rfl rfl rfl
  intro ptrs w' hw hE
  exact zi (.val (nK c)) rfl _ 20 call20 rfl rfl _ rfl [vP vp 0] rfl ((Vj _ vp lp mb _ (H5.vk.gro ((Gro.refl _).drew.trans hw)).vb.box).mono fun e w' ⟨he, hg⟩ => ⟨_, he, hg, rfl⟩)
  exact fun _ _ _ _ => jf _ rfl rfl rfl
  exact fun _ _ _ _ => jb rfl (jl _ rfl _ rfl)
  exact fun _ _ _ _ => jb rfl (je 62 _ 2 rfl vq 0 rfl 2 (by kernel_rfl))
  exact fun _ _ hw _ => jb rfl (ldRvi _ rfl vq rfl (hw.has H5.vd.box))
  exact fun _ _ _ _ => jb rfl (jj 2 .i64 _ _ _ rfl underlying2 ((c : Nat) : Int) ((c : Nat) : Int) rfl rfl false (decide_eq_true rfl) _)
  exact fun _ _ _ _ => zw (v := vF) _ _ _ rfl rfl false rfl rfl
  exact fun _ _ _ _ => jf _ rfl rfl rfl
  exact fun _ _ _ _ => jf _ rfl rfl rfl
  intro ptrs w' hw hE
  exact zi (.val (.bool dw2)) rfl _ 21 call21 rfl rfl _ rfl [vP vp 0] rfl ((Yo U _ vp lp p sg mb n L2 pw2 da h2 dw2 _ M2 (H5.vk.gro ((Gro.refl _).drew.trans hw))).mono fun e w' ⟨he, hg⟩ => ⟨_, he, hg, rfl⟩)
  exact fun _ _ _ _ => jf _ rfl rfl rfl
  exact fun _ _ _ _ => jb rfl (jl _ rfl _ rfl)
  exact fun _ _ _ _ => jb rfl (je 62 _ 0 rfl vq 0 rfl 0 (by kernel_rfl))
  exact fun _ _ hw _ => jb rfl (ldRvl _ rfl vq rfl (hw.has H5.vd.box))
  exact fun _ _ _ _ => jb rfl (jl _ rfl _ rfl)
  exact fun _ _ _ _ => jb rfl (je 66 _ 4 rfl mp 0 rfl 4 (by kernel_rfl))
  exact fun _ _ hw _ => jb rfl (ldMKd (H5.vd.log.gro ((Gro.refl _).drew.trans hw)) _ rfl rfl)
  exact fun _ _ _ _ => jb rfl (Jj 4 _ _ _ rfl dw2 rfl rfl underlying4)
  intro pt3 w13 GD hxE
  simp only [List.drop_succ_cons, List.drop_zero]
  replace GB := GB.gro ((Gro.refl _).drew.trans GD)
  replace GG := GG.drew.trans GD
  obtain ⟨_, _⟩ := hxE
  clear GD
  refine mv (vF) rfl (nq ?_)
  refine qL (qF rfl (wp_skip (zb (jC (qG (sv (nK (i + 1)) (jV 3 _ _ _ rfl ((i : Nat) : Int) 1 ((i + 1 : Nat) : Int) rfl rfl (by omega) (by omega) (by omega) _) rfl (mv (nK (i + 1)) rfl (nq ?_))))))))
  refine qL ?_
  exact ⟨_, by omega, i + 1, L2, pw2, h2, dw2, rs2, Ly, c, 0, _, _, usK ⟨GG, .inr ⟨rfl, U, vp, lp, mb, vq, mp, da, db, M2, ao2, cap2, R2, C, rfl, rfl, H3.gro GB⟩, HP2, ⟨by omega, by omega⟩⟩⟩
  have hkt : k < (q.x.re xo xc).val.length := by have := of_decide_eq_true t10; omega
  refine qG (sv (vT) (jv 3 _ _ _ rfl ((k : Nat) : Int) (((q.x.re xo xc).val.length : Nat) : Int) rfl rfl true t10 _) rfl (nq ?_))
  refine qL (qE (qT rfl (qK (qE (qB (qE (qG (mv (nK k) rfl (mv (nK k) rfl (nq ?_))))))))))
  refine qL (qG (sv (vP g2 33) (je 42 _ 2 rfl g2 0 rfl 33 (by kernel_rfl)) rfl (sv (.slice (q.x.re xo xc).ao (q.x.re xo xc).val.length (q.x.re xo xc).cap) (ldItr _ rfl g2 rfl (kg2)) rfl (mv (nK k) rfl (nq ?_)))))
  obtain ⟨gi, cur, hgi, hBi, ki, hci, hmi, hsi, hti⟩ := HI.blk (j := k) (by omega)
  simp only [maxLen] at hmi
  refine sv (vP gi k) (bat _ _ rfl gi (q.x.re xo xc).val.length (q.x.re xo xc).cap k (by exact congrArg (fun a => Value.slice a (q.x.re xo xc).val.length (q.x.re xo xc).cap) hgi) rfl (by omega) _) rfl (sv (.int .u8 ((lj.getD k 0 : Nat) : Int)) (zj bT _ rfl ⟨gi, k, none⟩ rfl _ _ (HI.cellv hgi (by omega))) rfl (sv (.int .u8 ((inc8 (lj.getD k 0) : Nat) : Int)) (ZM _ _ _ rfl (lj.getD k 0) rfl rfl _) rfl (sv (vP gi k) (bat _ _ rfl gi (q.x.re xo xc).val.length (q.x.re xo xc).cap k (by exact congrArg (fun a => Value.slice a (q.x.re xo xc).val.length (q.x.re xo xc).cap) hgi) rfl (by omega) _) rfl ?_)))
  refine nq ?_
  refine jE rfl rfl 5 _ _ rfl gi k rfl (.int .u8 ((inc8 (lj.getD k 0) : Nat) : Int)) rfl 5 _ ki #[.int .u8 ((inc8 (lj.getD k 0) : Nat) : Int)] rfl si5 (by simp only [List.size_toArray, List.length_cons, List.length_nil]; omega) (one1 _) _ rfl ?_
  intro w13 St
  replace kg2 := St.has (jB kg2 ki (by decide)) kg2
  replace GI := GI.st St (.inr (mem_blk.2 ⟨_, hgi, rfl⟩))
  replace HI := HI.put hgi ki (by omega) (inc8 (lj.getD k 0)) (Vk _) St
  clear St
  refine qN (zb (jC (qG (sv (nK (k + 1)) (jV 3 _ _ _ rfl ((k : Nat) : Int) 1 ((k + 1 : Nat) : Int) rfl rfl (by omega) (by omega) (by omega) _) rfl (mv (nK (k + 1)) rfl (nq ?_))))))
  refine qL ?_
  exact ⟨_, by omega, k + 1, _, usK ⟨by omega, by rw [List.length_set]; exact hli, GI, HI, kg2⟩⟩
  intro HT3
  refine qE (qE (qG (sv (vP g1 0) (je 44 _ 0 rfl g1 0 rfl 0 (by kernel_rfl)) rfl (sv (iK q.kind) (ldOpk _ rfl g1 rfl (kg1)) rfl (nq ?_)))))
  refine qL (qB (qE ?_))
  rcases hkk with hkk | hkk | hkk
  skip
  have t7 : decide (q.kind = 0) = true := decide_eq_true (by omega)
  obtain ⟨err, s1, L2, pw2, h2, dw2, rs2, Ly, HP2, CA, CB⟩ := put_ab n L pw h dw rs Lx c (i + 1) HP (by omega) (by omega) q.x.key q.x.who q.x.val hqo.x.key hqo.x.who hqn.lt256
  refine qG (sv (vT) (jw 3 .i64 _ _ _ rfl underlying3 q.kind 0 rfl rfl true t7 _) rfl (mv (vT) rfl (nq ?_)))
  refine qL (qT rfl (qE (qG (mv (vP vp 0) rfl (sv (vP g2 0) (je 42 _ 0 rfl g2 0 rfl 0 (by kernel_rfl)) rfl (sv (eA (q.x.re xo xc).key) (ldItk _ rfl g2 rfl (kg2)) rfl (sv (vP g2 33) (je 42 _ 2 rfl g2 0 rfl 33 (by kernel_rfl)) rfl ?_)))))))
  refine nq ?_
  refine sv (.slice (q.x.re xo xc).ao (q.x.re xo xc).val.length (q.x.re xo xc).cap) (ldItr _ rfl g2 rfl (kg2)) rfl (sv (vP g2 16) (je 42 _ 1 rfl g2 0 rfl 16 (by kernel_rfl)) rfl (sv (vP g2 17) (je 40 _ 1 rfl g2 16 rfl 17 (by kernel_rfl)) rfl (sv (eA (q.x.re xo xc).who) (ldItw _ rfl g2 rfl (kg2)) rfl ?_)))
  refine nq ?_
  have H8 := H0.gro GK
  have hxlt := fun k hk => (vh HX k hk).2
  have HX8 := HX
  have w8s := GK.size
  rw [hKS] at w8s
  refine jq 176 rfl rfl _ 11 call11 rfl rfl _ rfl [vP vp 0, eA (q.x.re xo xc).key, .slice (q.x.re xo xc).ao (q.x.re xo xc).val.length (q.x.re xo xc).cap, eA (q.x.re xo xc).who] rfl (CA U _ vp lp p sg mb dnA M xo xc H8.vk H0.rel (HX.bs hU0) (by omega) (by omega)) (by rintro _ _ ⟨_, _, _, _, he, _, _, _, _, _, _⟩; exact ⟨_, he⟩) ?_
  rintro v w12 ⟨Ca, da, M2, y1, he, AA, hBd, hCa, HY, hyo, hys⟩
  cases he
  replace kg1 := AA.gro.has kg1 (H8.vk.nin kg1 (by decide))
  replace kg2 := AA.gro.has kg2 (H8.vk.nin kg2 (by decide))
  replace HX := H8.vk.keepB AA.gro HX
  replace GG := AA.gro.gro GG (fun k hk => by simp only [List.mem_cons, List.not_mem_nil, or_false] at hk; omega)
  have GA := Gro.refl w12
  clear GK
  refine nq ?_
  refine mv (.tuple #[iA y1, iK err]) rfl (mv (iA y1) rfl (mv (iK err) rfl (nq ?_)))
  refine jH 14 rfl rfl 42 rfl _ zeroIt (itA zM) rfl ?_
  intro w13 g3 G eg3 kg3
  have bg3 := jh GG eg3
  have dg1g3 := jn kg1 eg3
  have dg2g3 := jn kg2 eg3
  have dHXg3 := HX.ne eg3
  have dHYg3 := HY.ne eg3
  have dGAg3 := GA.ne eg3
  replace kg1 := G.has kg1
  replace kg2 := G.has kg2
  replace HX := HX.gro G
  replace HY := HY.gro G
  replace GA := GA.gro G
  replace GG := GG.trans G
  clear G
  clear eg3
  refine nq ?_
  refine stI y1 rfl rfl rfl kg3 rfl ?_
  intro w14 St
  replace kg1 := St.has (by omega) kg1
  replace kg2 := St.has (by omega) kg2
  replace HX := HX.st St dHXg3
  replace HY := HY.st St dHYg3
  replace GA := GA.st St dGAg3
  replace GG := GG.store St bg3
  replace kg3 := St.new
  clear St
  refine mv (iK err) rfl (nq ?_)
  refine qL (qE (qG (mv (vP vq 0) rfl (sv (vP g1 2) (je 44 _ 2 rfl g1 0 rfl 2 (by kernel_rfl)) rfl (sv (vP g1 2) (je 42 _ 0 rfl g1 2 rfl 2 (by kernel_rfl)) rfl (sv (eA q.x.key) (ldOpy _ rfl g1 rfl (kg1)) rfl ?_))))))
  refine nq ?_
  refine sv (vP g1 2) (je 44 _ 2 rfl g1 0 rfl 2 (by kernel_rfl)) rfl (sv (vP g1 35) (je 42 _ 2 rfl g1 2 rfl 35 (by kernel_rfl)) rfl (sv (.slice q.x.ao q.x.val.length q.x.cap) (ldOpr _ rfl g1 rfl (kg1)) rfl (sv (vP g1 2) (je 44 _ 2 rfl g1 0 rfl 2 (by kernel_rfl)) rfl ?_)))
  refine nq ?_
  refine sv (vP g1 18) (je 42 _ 1 rfl g1 2 rfl 18 (by kernel_rfl)) rfl (sv (vP g1 19) (je 40 _ 1 rfl g1 18 rfl 19 (by kernel_rfl)) rfl (sv (eA q.x.who) (ldOpw _ rfl g1 rfl (kg1)) rfl (nq ?_)))
  obtain ⟨HVD, hCC⟩ := H8.vdA AA.gro GA
  have w9s := GA.size
  have w9t := AA.gro.size
  refine jq 191 rfl rfl _ 12 call12 rfl rfl _ rfl [vP vq 0, eA q.x.key, .slice q.x.ao q.x.val.length q.x.cap, eA q.x.who] rfl (CB C _ vq mp rp _ ro rc dnB ao cap R q.x.ao q.x.cap HVD hCC H0.its ⟨hqn.gro GG, fun ad ha h0 hk => by (have := hqn.lt ad ha h0; have := hge3 _ hk; omega)⟩ (by omega) (by omega)) (by rintro _ _ ⟨_, _, _, _, _, he, _, _, _, _⟩; exact ⟨_, he⟩) ?_
  rintro v w15 ⟨db, ao2, cap2, R2, y2, he, AB, HN2, hyo2, hys2⟩
  cases he
  have H2 := H8.call AA GA AB
  have hNx := H0.noX (hKS ▸ HX8) AA.new AB.new (by omega)
  have hNy := H0.noY (by omega) hBd HY AB.new (Nat.le_refl _)
  replace kg1 := AB.gro.has kg1 (HVD.nin4 kg1 (by decide))
  replace kg2 := AB.gro.has kg2 (HVD.nin4 kg2 (by decide))
  replace kg3 := AB.gro.has kg3 (HVD.nin4 kg3 (by decide))
  replace HX := HVD.keepB4 AB.gro HX hro0
  replace HY := HVD.keepB4 AB.gro HY (fun k hk => by have := hro0 k hk; omega)
  replace GG := AB.gro.gro GG (fun k hk => (List.mem_cons.1 hk).elim (fun e => by omega) (fun hk => hge3 k hk))
  have GB := Gro.refl w15
  clear GA AA AB HVD H8 HX8
  refine nq ?_
  refine mv (.tuple #[iA y2, iK err]) rfl (mv (iA y2) rfl (mv (iK err) rfl (nq ?_)))
  refine jH 16 rfl rfl 42 rfl _ zeroIt (itA zM) rfl ?_
  intro w16 g4 G eg4 kg4
  have bg4 := jh GG eg4
  have dg1g4 := jn kg1 eg4
  have dg2g4 := jn kg2 eg4
  have dg3g4 := jn kg3 eg4
  have dHXg4 := HX.ne eg4
  have dGBg4 := GB.ne eg4
  have dHYg4 := HY.ne eg4
  have dHN2g4 := HN2.ne eg4
  replace kg1 := G.has kg1
  replace kg2 := G.has kg2
  replace kg3 := G.has kg3
  replace HX := HX.gro G
  replace GB := GB.gro G
  replace HY := HY.gro G
  replace HN2 := HN2.gro G
  replace GG := GG.trans G
  clear G
  clear eg4
  refine nq ?_
  refine stI y2 rfl rfl rfl kg4 rfl ?_
  intro w17 St
  replace kg1 := St.has (by omega) kg1
  replace kg2 := St.has (by omega) kg2
  replace kg3 := St.has (by omega) kg3
  replace HX := HX.st St dHXg4
  replace GB := GB.st St dGBg4
  replace HY := HY.st St dHYg4
  replace HN2 := HN2.st St dHN2g4
  replace GG := GG.store St bg4
  replace kg4 := St.new
  clear St
  refine mv (iK err) rfl (nq ?_)
  refine qL (qE (qE ?_))
  refine jg ?_
  intro OPS hY
  have y4 := hY 4 198 rfl
  clear hY
  refine sv (iA y1) (ldIt0 _ rfl g3 rfl (kg3)) rfl (sv (iA y2) (ldIt0 _ rfl g4 rfl (kg4)) rfl (nq ?_))
  refine jr 196 rfl rfl _ 13 call13 rfl rfl _ rfl [iA y1, iA y2] rfl (Ve y1 y2 hyo hyo2 _ HY.nc HN2 true (fun _ => rfl) (fun hn => absurd (hys.trans hys2.symm) hn)) ?_
  intro w18 G
  replace kg1 := G.has kg1
  replace kg2 := G.has kg2
  replace kg3 := G.has kg3
  replace kg4 := G.has kg4
  replace HX := HX.gro G
  replace GB := GB.gro G
  replace HY := HY.gro G
  replace HN2 := HN2.gro G
  replace GG := GG.trans G
  clear G
  refine nq ?_
  refine sv (vF) (jZ _ _ rfl true rfl) rfl (mv (vF) rfl (jd 199 rfl rfl y4 rfl (iK err) (rfl) (jd 200 rfl rfl y4 rfl (iK err) (rfl) ?_)))
  refine nq ?_
  refine jd 201 rfl rfl y4 rfl (vF) (jj 31 .i64 _ _ _ rfl underlying31 err err rfl rfl false (decide_eq_true rfl) _) (mv (vF) rfl (nq ?_))
  refine qL (qF rfl (qK (qE (qG (sv (vP g3 33) (je 42 _ 2 rfl g3 0 rfl 33 (by kernel_rfl)) rfl (sv (.slice y1.ao y1.val.length y1.cap) (ldItr _ rfl g3 rfl (kg3)) rfl (sv (nK y1.val.length) (js underlying27 _ rfl _ _ _ rfl _) rfl (mv (iK 0) rfl ?_))))))))
  refine nq ?_
  refine qL (qB ?_)
  refine jO (fun mz az wv2 => ∃ (k : Nat) (li : List Nat) (us4 : Nat → Value), mz = y1.val.length - k ∧ az = ⟨[iK sz, .slice ao0 l.length cap0, uD, uD, us2 4, vP p 0, vP rp 0, vP vp 0, iK 0, vP vq 0, iK 0, nK i, vP g1 0, vP g2 0, vP g3 0, iK err, vP g4 0, iK err, us4 18, us2 19, us2 20, us2 21, us2 22, us2 23, us2 24, us2 25, us2 26, us2 27, us2 28, .tuple #[vP p 0, vP rp 0], iK sz, .int .u64 (((uN sz) : Nat) : Int), .int .u64 ((n : Nat) : Int), nK n, nK (n * 64), .slice (some ⟨gb, 0, none⟩) (n * 64) (n * 64), .tuple #[vP p 0, vP rp 0], vP p 0, vP rp 0, vP p 0, vF, vF, vT, vF, vF, .tuple #[va0, iK er0], vP p 0, .tuple #[va0, iK er0], va0, iK er0, .tuple #[vb0, iK er0], vP rp 0, .tuple #[vb0, iK er0], vb0, iK er0, .slice ao0 l.length cap0, nK l.length, nK i, vT, nK i, .pointer (pK kO ao0 i 0), .agg (opA q), nK i, vF, vF, iK 0, iK 0, vF, vF, vF, vP vp 0, .bool bb, vP vq 0, .bool bb, vF, vF, vF, vP p 0, pt2 16, .string (bas L), vP rp 0, vP rp 0, vP rp 0, .slice ro (n * 64) rc, .string (bas L), vF, vF, vP g1 0, iK q.kind, vF, us2 90, us2 91, us2 92, us2 93, us2 94, us2 95, us2 96, us2 97, us2 98, us2 99, vP vp 0, vF, vF, vP g1 0, iK q.kind, vF, vF, vF, vP g1 0, iK q.kind, vF, vF, us2 112, us2 113, us2 114, us2 115, us2 116, us2 117, us2 118, us2 119, us2 120, us2 121, vP g1 2, iA q.x, iA (q.x.re xo xc), vP g1 0, iK q.kind, us2 127, us2 128, us2 129, us2 130, us2 131, us2 132, us2 133, us2 134, us2 135, us2 136, us2 137, us2 138, us2 139, us2 140, us2 141, us2 142, us2 143, us2 144, us2 145, us2 146, us2 147, us2 148, us2 149, us2 150, us2 151, us2 152, us2 153, us2 154, us2 155, us2 156, us2 157, us2 158, us2 159, us2 160, us2 161, us2 162, us2 163, us2 164, vT, vT, .tuple #[iA y1, iK err], vP vp 0, vP g2 0, eA (q.x.re xo xc).key, vP g2 33, .slice (q.x.re xo xc).ao (q.x.re xo xc).val.length (q.x.re xo xc).cap, vP g2 16, vP g2 17, eA (q.x.re xo xc).who, .tuple #[iA y1, iK err], iA y1, iK err, .tuple #[iA y2, iK err], vP vq 0, vP g1 2, vP g1 2, eA q.x.key, vP g1 2, vP g1 35, .slice q.x.ao q.x.val.length q.x.cap, vP g1 2, vP g1 18, vP g1 19, eA q.x.who, .tuple #[iA y2, iK err], iA y2, iK err, iA y1, iA y2, vT, vF, vF, iK err, iK err, vF, vF, vP g3 33, .slice y1.ao y1.val.length y1.cap, nK y1.val.length, nK k, us4 207, us4 208, us4 209, us4 210, us4 211, us4 212, us4 213, us4 214, us4 215, us4 216, us2 217, us2 218, us2 219, us2 220, us2 221, us2 222, us2 223, us2 224, us2 225, us2 226, us2 227, us2 228, us2 229, us2 230, us2 231, us2 232, us2 233, us2 234, us2 235, us2 236, us2 237, us2 238, us2 239, us2 240, us2 241, us2 242, us2 243, us2 244, us2 245, us2 246, us2 247, us2 248, us2 249, us2 250, us2 251, us2 252, us2 253, us2 254, us2 255, us2 256, us2 257, us2 258, us2 259, us2 260, us2 261, us2 262, us2 263, us2 264, us2 265, us2 266, us2 267, us2 268, us2 269, us2 270, us2 271, us2 272, us2 273, us2 274, us2 275, us2 276, us2 277, us2 278, us2 279, us2 280, us2 281, us2 282, us2 283, us2 284, us2 285, us2 286, us2 287, us2 288, uD, uD, uD, uD, uD, uD, uD, uD, uD, uD, uD, uD, uD, uD, uD, uD, uD, uD, uD, uD, uD].toArray, []⟩ ∧ k ≤ y1.val.length ∧ li.length = y1.val.length ∧ GroS (blk y1.ao) w18 wv2 ∧ OB wv2 5 .u8 Ca y1.ao y1.cap li ∧ wv2.heap[g3]? = some (.cells (itA y1) 42 (0, 0))) ?_ _ ⟨0, _, usK ⟨Nat.zero_le _, rfl, GroS.of (Gro.refl _), HY, kg3⟩⟩
  clear kg3
  rintro mz az wv2 ⟨k, li, us4, rfl, rfl, hkl, hli, GI, HI, kg3⟩
  refine qE ?_
  cases t9 : decide (((k : Nat) : Int) < ((y1.val.length : Nat) : Int))
  have hS5 := jdn HY
  have H3 := (H2.gro GB).inc GI hNy hS5
  replace kg1 := GI.has kg1 (n5S hS5 kg1 (by decide))
  replace kg2 := GI.has kg2 (n5S hS5 kg2 (by decide))
  replace HX := HX.gros GI (fun ad ha hm => by have := hxlt _ (mem_blk.2 ⟨ad, ha, rfl⟩); have := (vh HY _ hm).1; omega)
  replace GG := GI.gro GG (fun k hk => by have := (vh HY k hk).1; omega)
  clear H2 HY HI GI GB
  have H2 := H3
  clear H3
  refine qG (sv (vF) (jv 3 _ _ _ rfl ((k : Nat) : Int) ((y1.val.length : Nat) : Int) rfl rfl false t9 _) rfl (nq ?_))
  refine qL (qE (qF rfl (wp_exit (jG (jG (zp (zb (jC ?_))))))))
  exact HT3 _ _ ⟨L2, pw2, h2, dw2, rs2, Ly, M2, ao2, cap2, R2, da, db, usJ ⟨GG, kg1, kg2, HX, H2, HP2, hNx⟩⟩
  have hkt : k < y1.val.length := by have := of_decide_eq_true t9; omega
  refine qG (sv (vT) (jv 3 _ _ _ rfl ((k : Nat) : Int) ((y1.val.length : Nat) : Int) rfl rfl true t9 _) rfl (nq ?_))
  refine qL (qE (qT rfl (qK (qE (qB (qE (qG (mv (nK k) rfl (mv (nK k) rfl (nq ?_))))))))))
  refine qL (qG (sv (vP g3 33) (je 42 _ 2 rfl g3 0 rfl 33 (by kernel_rfl)) rfl (sv (.slice y1.ao y1.val.length y1.cap) (ldItr _ rfl g3 rfl (kg3)) rfl (mv (nK k) rfl (nq ?_)))))
  obtain ⟨gi, cur, hgi, hBi, ki, hci, hmi, hsi, hti⟩ := HI.blk (j := k) (by omega)
  simp only [maxLen] at hmi
  refine sv (vP gi k) (bat _ _ rfl gi y1.val.length y1.cap k (by exact congrArg (fun a => Value.slice a y1.val.length y1.cap) hgi) rfl (by omega) _) rfl (sv (.int .u8 ((li.getD k 0 : Nat) : Int)) (zj bT _ rfl ⟨gi, k, none⟩ rfl _ _ (HI.cellv hgi (by omega))) rfl (sv (.int .u8 ((inc8 (li.getD k 0) : Nat) : Int)) (ZM _ _ _ rfl (li.getD k 0) rfl rfl _) rfl (sv (vP gi k) (bat _ _ rfl gi y1.val.length y1.cap k (by exact congrArg (fun a => Value.slice a y1.val.length y1.cap) hgi) rfl (by omega) _) rfl ?_)))
  refine nq ?_
  refine jE rfl rfl 5 _ _ rfl gi k rfl (.int .u8 ((inc8 (li.getD k 0) : Nat) : Int)) rfl 5 _ ki #[.int .u8 ((inc8 (li.getD k 0) : Nat) : Int)] rfl si5 (by simp only [List.size_toArray, List.length_cons, List.length_nil]; omega) (one1 _) _ rfl ?_
  intro w19 St
  replace kg3 := St.has (jB kg3 ki (by decide)) kg3
  replace GI := GI.st St (.inr (mem_blk.2 ⟨_, hgi, rfl⟩))
  replace HI := HI.put hgi ki (by omega) (inc8 (li.getD k 0)) (Vk _) St
  clear St
  refine qN (zb (jC (qG (sv (nK (k + 1)) (jV 3 _ _ _ rfl ((k : Nat) : Int) 1 ((k + 1 : Nat) : Int) rfl rfl (by omega) (by omega) (by omega) _) rfl (mv (nK (k + 1)) rfl (nq ?_))))))
  refine qL ?_
  exact ⟨_, by omega, k + 1, _, usK ⟨by omega, by rw [List.length_set]; exact hli, GI, HI, kg3⟩⟩
  skip
  have t7 : decide (q.kind = 0) = false := decide_eq_false (by omega)
  have t8 : decide (q.kind = 1) = true := decide_eq_true (by omega)
  obtain ⟨b, err, L2, pw2, h2, dw2, rs2, Ly, HP2, CA, CB⟩ := jdt n L pw h dw rs Lx c (i + 1) HP (by omega) (by omega) q.x hqo.x hqn.lt256
  refine qG (sv (vF) (jw 3 .i64 _ _ _ rfl underlying3 q.kind 0 rfl rfl false t7 _) rfl (mv (vF) rfl (nq ?_)))
  refine qL (qF rfl (qE (qG (sv (vT) (jw 3 .i64 _ _ _ rfl underlying3 q.kind 1 rfl rfl true t8 _) rfl (mv (vT) rfl (nq ?_))))))
  refine qL (qT rfl (qE (qG (mv (vP vp 0) rfl (sv (iA (q.x.re xo xc)) (ldIt0 _ rfl g2 rfl (kg2)) rfl (nq ?_))))))
  have H8 := H0.gro GK
  have hxlt := fun k hk => (vh HX k hk).2
  have HX8 := HX
  have w8s := GK.size
  rw [hKS] at w8s
  refine jq 222 rfl rfl _ 14 call14 rfl rfl _ rfl [vP vp 0, iA (q.x.re xo xc)] rfl (CA U _ vp lp p sg mb dnA M xo xc H8.vk H0.rel (HX.bs hU0) (by omega) (by omega)) (by rintro _ _ ⟨_, _, _, _, he, _, _, _, _, _, _⟩; exact ⟨_, he⟩) ?_
  rintro v w12 ⟨Ca, da, M2, y1, he, AA, hBd, hCa, HY, hyo, hys⟩
  cases he
  replace kg1 := AA.gro.has kg1 (H8.vk.nin kg1 (by decide))
  replace kg2 := AA.gro.has kg2 (H8.vk.nin kg2 (by decide))
  replace HX := H8.vk.keepB AA.gro HX
  replace GG := AA.gro.gro GG (fun k hk => by simp only [List.mem_cons, List.not_mem_nil, or_false] at hk; omega)
  have GA := Gro.refl w12
  clear GK
  refine nq ?_
  refine mv (.tuple #[.bool b, iK err]) rfl (mv (.bool b) rfl (mv (iK err) rfl (mv (.bool b) rfl ?_)))
  refine nq ?_
  refine mv (iK err) rfl (nq ?_)
  refine qL (qE (qG (mv (vP vq 0) rfl (sv (vP g1 2) (je 44 _ 2 rfl g1 0 rfl 2 (by kernel_rfl)) rfl (sv (iA q.x) (ldOpx _ rfl g1 rfl (kg1)) rfl (nq ?_))))))
  obtain ⟨HVD, hCC⟩ := H8.vdA AA.gro GA
  have w9s := GA.size
  have w9t := AA.gro.size
  refine jq 229 rfl rfl _ 15 call15 rfl rfl _ rfl [vP vq 0, iA q.x] rfl (CB C _ vq mp rp _ ro rc dnB ao cap R q.x.ao q.x.cap HVD hCC H0.its ⟨hqn.gro GG, fun ad ha h0 hk => by (have := hqn.lt ad ha h0; have := hge3 _ hk; omega)⟩ (by omega) (by omega)) (by rintro _ _ ⟨_, _, _, _, _, he, _, _, _, _⟩; exact ⟨_, he⟩) ?_
  rintro v w13 ⟨db, ao2, cap2, R2, y2, he, AB, HN2, hyo2, hys2⟩
  cases he
  have H2 := H8.call AA GA AB
  have hNx := H0.noX (hKS ▸ HX8) AA.new AB.new (by omega)
  replace kg1 := AB.gro.has kg1 (HVD.nin4 kg1 (by decide))
  replace kg2 := AB.gro.has kg2 (HVD.nin4 kg2 (by decide))
  replace HX := HVD.keepB4 AB.gro HX hro0
  replace GG := AB.gro.gro GG (fun k hk => (List.mem_cons.1 hk).elim (fun e => by omega) (fun hk => hge3 k hk))
  have GB := Gro.refl w13
  clear GA AA AB HVD H8 HX8 HY
  refine nq ?_
  refine mv (.tuple #[.bool b, iK err]) rfl (mv (.bool b) rfl (mv (iK err) rfl (mv (.bool b) rfl ?_)))
  refine nq ?_
  refine mv (iK err) rfl (nq ?_)
  refine qL (qE ?_)
  refine jg ?_
  intro OPS hY
  have y3 := hY 3 235 rfl
  clear hY
  refine mv (.bool b) rfl (mv (.bool b) rfl (sv (vF) (Jj 4 _ _ _ rfl b rfl rfl underlying4) rfl (mv (vF) rfl ?_)))
  refine nq ?_
  refine jd 236 rfl rfl y3 rfl (iK err) (rfl) (jd 237 rfl rfl y3 rfl (iK err) (rfl) (jd 238 rfl rfl y3 rfl (vF) (jj 31 .i64 _ _ _ rfl underlying31 err err rfl rfl false (decide_eq_true rfl) _) (mv (vF) rfl ?_)))
  refine nq ?_
  refine qL (qF rfl (wp_skip (zb (jC ?_))))
  exact HT3 _ _ ⟨L2, pw2, h2, dw2, rs2, Ly, M2, ao2, cap2, R2, da, db, usJ ⟨GG, kg1, kg2, HX, H2.gro GB, HP2, hNx⟩⟩
  skip
  have t7 : decide (q.kind = 0) = false := decide_eq_false (by omega)
  have t8 : decide (q.kind = 1) = false := decide_eq_false (by omega)
  obtain ⟨b, s1, CA, CB⟩ := get_ab n L pw h dw rs Lx c (i + 1) HP (by omega) (by omega) q.x.key hqo.x.key
  refine qG (sv (vF) (jw 3 .i64 _ _ _ rfl underlying3 q.kind 0 rfl rfl false t7 _) rfl (mv (vF) rfl (nq ?_)))
  refine qL (qF rfl (qE (qG (sv (vF) (jw 3 .i64 _ _ _ rfl underlying3 q.kind 1 rfl rfl false t8 _) rfl (mv (vF) rfl (nq ?_))))))
  refine qL (qF rfl (qE (qG (mv (vP vp 0) rfl (sv (vP g2 0) (je 42 _ 0 rfl g2 0 rfl 0 (by kernel_rfl)) rfl (sv (eA (q.x.re xo xc).key) (ldItk _ rfl g2 rfl (kg2)) rfl (nq ?_)))))))
  have H8 := H0.gro GK
  have hxlt := fun k hk => (vh HX k hk).2
  have HX8 := HX
  have w8s := GK.size
  rw [hKS] at w8s
  refine jq 131 rfl rfl _ 16 call16 rfl rfl _ rfl [vP vp 0, eA (q.x.re xo xc).key] rfl (CA U _ vp lp p sg mb dnA M none 0 H8.vk H0.rel ⟨NC.nil _ _, fun _ h => by (cases h)⟩ (by omega) (by omega)) (by rintro _ _ ⟨_, _, _, _, he, _, _, _, _, _, _⟩; exact ⟨_, he⟩) ?_
  rintro v w12 ⟨Ca, da, M2, y1, he, AA, hBd, hCa, HY, hyo, hys⟩
  cases he
  replace kg1 := AA.gro.has kg1 (H8.vk.nin kg1 (by decide))
  replace kg2 := AA.gro.has kg2 (H8.vk.nin kg2 (by decide))
  replace HX := H8.vk.keepB AA.gro HX
  replace GG := AA.gro.gro GG (fun k hk => by simp only [List.mem_cons, List.not_mem_nil, or_false] at hk; omega)
  have GA := Gro.refl w12
  clear GK
  refine nq ?_
  refine mv (.tuple #[iA y1, .bool b]) rfl (mv (iA y1) rfl (mv (.bool b) rfl (nq ?_)))
  refine jH 23 rfl rfl 42 rfl _ zeroIt (itA zM) rfl ?_
  intro w13 g3 G eg3 kg3
  have bg3 := jh GG eg3
  have dg1g3 := jn kg1 eg3
  have dg2g3 := jn kg2 eg3
  have dHXg3 := HX.ne eg3
  have dHYg3 := HY.ne eg3
  have dGAg3 := GA.ne eg3
  replace kg1 := G.has kg1
  replace kg2 := G.has kg2
  replace HX := HX.gro G
  replace HY := HY.gro G
  replace GA := GA.gro G
  replace GG := GG.trans G
  clear G
  clear eg3
  refine nq ?_
  refine stI y1 rfl rfl rfl kg3 rfl ?_
  intro w14 St
  replace kg1 := St.has (by omega) kg1
  replace kg2 := St.has (by omega) kg2
  replace HX := HX.st St dHXg3
  replace HY := HY.st St dHYg3
  replace GA := GA.st St dGAg3
  replace GG := GG.store St bg3
  replace kg3 := St.new
  clear St
  refine mv (.bool b) rfl (nq ?_)
  refine qL (qE (qG (mv (vP vq 0) rfl (sv (vP g1 2) (je 44 _ 2 rfl g1 0 rfl 2 (by kernel_rfl)) rfl (sv (vP g1 2) (je 42 _ 0 rfl g1 2 rfl 2 (by kernel_rfl)) rfl (sv (eA q.x.key) (ldOpy _ rfl g1 rfl (kg1)) rfl ?_))))))
  refine nq ?_
  obtain ⟨HVD, hCC⟩ := H8.vdA AA.gro GA
  have w9s := GA.size
  have w9t := AA.gro.size
  refine jq 139 rfl rfl _ 17 call17 rfl rfl _ rfl [vP vq 0, eA q.x.key] rfl (CB C _ vq mp rp _ ro rc dnB ao cap R none 0 HVD hCC H0.its ⟨NC.nil _ _, fun _ h => by (cases h)⟩ (by omega) (by omega)) (by rintro _ _ ⟨_, _, _, _, _, he, _, _, _, _⟩; exact ⟨_, he⟩) ?_
  rintro v w15 ⟨db, ao2, cap2, R2, y2, he, AB, HN2, hyo2, hys2⟩
  cases he
  have H2 := H8.call AA GA AB
  have hNx := H0.noX (hKS ▸ HX8) AA.new AB.new (by omega)
  have hNy := H0.noY (by omega) hBd HY AB.new (Nat.le_refl _)
  replace kg1 := AB.gro.has kg1 (HVD.nin4 kg1 (by decide))
  replace kg2 := AB.gro.has kg2 (HVD.nin4 kg2 (by decide))
  replace kg3 := AB.gro.has kg3 (HVD.nin4 kg3 (by decide))
  replace HX := HVD.keepB4 AB.gro HX hro0
  replace HY := HVD.keepB4 AB.gro HY (fun k hk => by have := hro0 k hk; omega)
  replace GG := AB.gro.gro GG (fun k hk => (List.mem_cons.1 hk).elim (fun e => by omega) (fun hk => hge3 k hk))
  have GB := Gro.refl w15
  clear GA AA AB HVD H8 HX8
  refine nq ?_
  refine mv (.tuple #[iA y2, .bool b]) rfl (mv (iA y2) rfl (mv (.bool b) rfl (nq ?_)))
  refine jH 25 rfl rfl 42 rfl _ zeroIt (itA zM) rfl ?_
  intro w16 g4 G eg4 kg4
  have bg4 := jh GG eg4
  have dg1g4 := jn kg1 eg4
  have dg2g4 := jn kg2 eg4
  have dg3g4 := jn kg3 eg4
  have dHXg4 := HX.ne eg4
  have dGBg4 := GB.ne eg4
  have dHYg4 := HY.ne eg4
  have dHN2g4 := HN2.ne eg4
  replace kg1 := G.has kg1
  replace kg2 := G.has kg2
  replace kg3 := G.has kg3
  replace HX := HX.gro G
  replace GB := GB.gro G
  replace HY := HY.gro G
  replace HN2 := HN2.gro G
  replace GG := GG.trans G
  clear G
  clear eg4
  refine nq ?_
  refine stI y2 rfl rfl rfl kg4 rfl ?_
  intro w17 St
  replace kg1 := St.has (by omega) kg1
  replace kg2 := St.has (by omega) kg2
  replace kg3 := St.has (by omega) kg3
  replace HX := HX.st St dHXg4
  replace GB := GB.st St dGBg4
  replace HY := HY.st St dHYg4
  replace HN2 := HN2.st St dHN2g4
  replace GG := GG.store St bg4
  replace kg4 := St.new
  clear St
  refine mv (.bool b) rfl (nq ?_)
  refine qL (qE (qE ?_))
  refine jg ?_
  intro OPS hY
  have y4 := hY 4 146 rfl
  clear hY
  refine sv (iA y1) (ldIt0 _ rfl g3 rfl (kg3)) rfl (sv (iA y2) (ldIt0 _ rfl g4 rfl (kg4)) rfl (nq ?_))
  refine jr 144 rfl rfl _ 13 call13 rfl rfl _ rfl [iA y1, iA y2] rfl (Ve y1 y2 hyo hyo2 _ HY.nc HN2 true (fun _ => rfl) (fun hn => absurd (hys.trans hys2.symm) hn)) ?_
  intro w18 G
  replace kg1 := G.has kg1
  replace kg2 := G.has kg2
  replace kg3 := G.has kg3
  replace kg4 := G.has kg4
  replace HX := HX.gro G
  replace GB := GB.gro G
  replace HY := HY.gro G
  replace HN2 := HN2.gro G
  replace GG := GG.trans G
  clear G
  refine nq ?_
  refine sv (vF) (jZ _ _ rfl true rfl) rfl (mv (vF) rfl (jd 147 rfl rfl y4 rfl (.bool b) (rfl) (jd 148 rfl rfl y4 rfl (.bool b) (rfl) ?_)))
  refine nq ?_
  refine jd 149 rfl rfl y4 rfl (vF) (Jj 4 _ _ _ rfl b rfl rfl underlying4) (mv (vF) rfl (nq ?_))
  refine qL (qF rfl (qK (qE (qG (sv (vP g3 33) (je 42 _ 2 rfl g3 0 rfl 33 (by kernel_rfl)) rfl (sv (.slice y1.ao y1.val.length y1.cap) (ldItr _ rfl g3 rfl (kg3)) rfl (sv (nK y1.val.length) (js underlying27 _ rfl _ _ _ rfl _) rfl (mv (iK 0) rfl ?_))))))))
  refine nq ?_
  refine qL (qB ?_)
  refine jO (fun mz az wv2 => ∃ (k : Nat) (li : List Nat) (us4 : Nat → Value), mz = y1.val.length - k ∧ az = ⟨[iK sz, .slice ao0 l.length cap0, uD, uD, us2 4, vP p 0, vP rp 0, vP vp 0, iK 0, vP vq 0, iK 0, nK i, vP g1 0, vP g2 0, us2 14, us2 15, us2 16, us2 17, us2 18, us2 19, us2 20, us2 21, us2 22, vP g3 0, .bool b, vP g4 0, .bool b, us4 27, us2 28, .tuple #[vP p 0, vP rp 0], iK sz, .int .u64 (((uN sz) : Nat) : Int), .int .u64 ((n : Nat) : Int), nK n, nK (n * 64), .slice (some ⟨gb, 0, none⟩) (n * 64) (n * 64), .tuple #[vP p 0, vP rp 0], vP p 0, vP rp 0, vP p 0, vF, vF, vT, vF, vF, .tuple #[va0, iK er0], vP p 0, .tuple #[va0, iK er0], va0, iK er0, .tuple #[vb0, iK er0], vP rp 0, .tuple #[vb0, iK er0], vb0, iK er0, .slice ao0 l.length cap0, nK l.length, nK i, vT, nK i, .pointer (pK kO ao0 i 0), .agg (opA q), nK i, vF, vF, iK 0, iK 0, vF, vF, vF, vP vp 0, .bool bb, vP vq 0, .bool bb, vF, vF, vF, vP p 0, pt2 16, .string (bas L), vP rp 0, vP rp 0, vP rp 0, .slice ro (n * 64) rc, .string (bas L), vF, vF, vP g1 0, iK q.kind, vF, us2 90, us2 91, us2 92, us2 93, us2 94, us2 95, us2 96, us2 97, us2 98, us2 99, vP vp 0, vF, vF, vP g1 0, iK q.kind, vF, vF, vF, vP g1 0, iK q.kind, vF, vF, us2 112, us2 113, us2 114, us2 115, us2 116, us2 117, us2 118, us2 119, us2 120, us2 121, vP g1 2, iA q.x, iA (q.x.re xo xc), vP g1 0, iK q.kind, .tuple #[iA y1, .bool b], vP vp 0, vP g2 0, eA (q.x.re xo xc).key, .tuple #[iA y1, .bool b], iA y1, .bool b, .tuple #[iA y2, .bool b], vP vq 0, vP g1 2, vP g1 2, eA q.x.key, .tuple #[iA y2, .bool b], iA y2, .bool b, iA y1, iA y2, vT, vF, vF, .bool b, .bool b, vF, vF, vP g3 33, .slice y1.ao y1.val.length y1.cap, nK y1.val.length, nK k, us4 155, us4 156, us4 157, us4 158, us4 159, us4 160, us4 161, us4 162, us4 163, us4 164, vF, vF, us2 167, us2 168, us2 169, us2 170, us2 171, us2 172, us2 173, us2 174, us2 175, us2 176, us2 177, us2 178, us2 179, us2 180, us2 181, us2 182, us2 183, us2 184, us2 185, us2 186, us2 187, us2 188, us2 189, us2 190, us2 191, us2 192, us2 193, us2 194, us2 195, us2 196, us2 197, us2 198, us2 199, us2 200, us2 201, us2 202, us2 203, us2 204, us2 205, us2 206, us2 207, us2 208, us2 209, us2 210, us2 211, us2 212, us2 213, us2 214, us2 215, us2 216, vF, vF, us2 219, us2 220, us2 221, us2 222, us2 223, us2 224, us2 225, us2 226, us2 227, us2 228, us2 229, us2 230, us2 231, us2 232, us2 233, us2 234, us2 235, us2 236, us2 237, us2 238, us2 239, us2 240, us2 241, us2 242, us2 243, us2 244, us2 245, us2 246, us2 247, us2 248, us2 249, us2 250, us2 251, us2 252, us2 253, us2 254, us2 255, us2 256, us2 257, us2 258, us2 259, us2 260, us2 261, us2 262, us2 263, us2 264, us2 265, us2 266, us2 267, us2 268, us2 269, us2 270, us2 271, us2 272, us2 273, us2 274, us2 275, us2 276, us2 277, us2 278, us2 279, us2 280, us2 281, us2 282, us2 283, us2 284, us2 285, us2 286, us2 287, us2 288, uD, uD, uD, uD, uD, uD, uD, uD, uD, uD, uD, uD, uD, uD, uD, uD, uD, uD, uD, uD, uD].toArray, []⟩ ∧ k ≤ y1.val.length ∧ li.length = y1.val.length ∧ GroS (blk y1.ao) w18 wv2 ∧ OB wv2 5 .u8 Ca y1.ao y1.cap li ∧ wv2.heap[g3]? = some (.cells (itA y1) 42 (0, 0))) ?_ _ ⟨0, _, usK ⟨Nat.zero_le _, rfl, GroS.of (Gro.refl _), HY, kg3⟩⟩
  clear kg3
  rintro mz az wv2 ⟨k, li, us4, rfl, rfl, hkl, hli, GI, HI, kg3⟩
  refine qE ?_
  cases t9 : decide (((k : Nat) : Int) < ((y1.val.length : Nat) : Int))
  have hS5 := jdn HY
  have H3 := (H2.gro GB).inc GI hNy hS5
  replace kg1 := GI.has kg1 (n5S hS5 kg1 (by decide))
  replace kg2 := GI.has kg2 (n5S hS5 kg2 (by decide))
  replace HX := HX.gros GI (fun ad ha hm => by have := hxlt _ (mem_blk.2 ⟨ad, ha, rfl⟩); have := (vh HY _ hm).1; omega)
  replace GG := GI.gro GG (fun k hk => by have := (vh HY k hk).1; omega)
  clear H2 HY HI GI GB
  have H2 := H3
  clear H3
  refine qG (sv (vF) (jv 3 _ _ _ rfl ((k : Nat) : Int) ((y1.val.length : Nat) : Int) rfl rfl false t9 _) rfl (nq ?_))
  refine qL (qE (qF rfl (wp_exit (jG (jG (zp (zb (jC ?_))))))))
  exact HT3 _ _ ⟨L, pw, h, dw, rs, Lx, M2, ao2, cap2, R2, da, db, usJ ⟨GG, kg1, kg2, HX, H2, HP.up, hNx⟩⟩
  have hkt : k < y1.val.length := by have := of_decide_eq_true t9; omega
  refine qG (sv (vT) (jv 3 _ _ _ rfl ((k : Nat) : Int) ((y1.val.length : Nat) : Int) rfl rfl true t9 _) rfl (nq ?_))
  refine qL (qE (qT rfl (qK (qE (qB (qE (qG (mv (nK k) rfl (mv (nK k) rfl (nq ?_))))))))))
  refine qL (qG (sv (vP g3 33) (je 42 _ 2 rfl g3 0 rfl 33 (by kernel_rfl)) rfl (sv (.slice y1.ao y1.val.length y1.cap) (ldItr _ rfl g3 rfl (kg3)) rfl (mv (nK k) rfl (nq ?_)))))
  obtain ⟨gi, cur, hgi, hBi, ki, hci, hmi, hsi, hti⟩ := HI.blk (j := k) (by omega)
  simp only [maxLen] at hmi
  refine sv (vP gi k) (bat _ _ rfl gi y1.val.length y1.cap k (by exact congrArg (fun a => Value.slice a y1.val.length y1.cap) hgi) rfl (by omega) _) rfl (sv (.int .u8 ((li.getD k 0 : Nat) : Int)) (zj bT _ rfl ⟨gi, k, none⟩ rfl _ _ (HI.cellv hgi (by omega))) rfl (sv (.int .u8 ((inc8 (li.getD k 0) : Nat) : Int)) (ZM _ _ _ rfl (li.getD k 0) rfl rfl _) rfl (sv (vP gi k) (bat _ _ rfl gi y1.val.length y1.cap k (by exact congrArg (fun a => Value.slice a y1.val.length y1.cap) hgi) rfl (by omega) _) rfl ?_)))
  refine nq ?_
  refine jE rfl rfl 5 _ _ rfl gi k rfl (.int .u8 ((inc8 (li.getD k 0) : Nat) : Int)) rfl 5 _ ki #[.int .u8 ((inc8 (li.getD k 0) : Nat) : Int)] rfl si5 (by simp only [List.size_toArray, List.length_cons, List.length_nil]; omega) (one1 _) _ rfl ?_
  intro w19 St
  replace kg3 := St.has (jB kg3 ki (by decide)) kg3
  replace GI := GI.st St (.inr (mem_blk.2 ⟨_, hgi, rfl⟩))
  replace HI := HI.put hgi ki (by omega) (inc8 (li.getD k 0)) (Vk _) St
  clear St
  refine qN (zb (jC (qG (sv (nK (k + 1)) (jV 3 _ _ _ rfl ((k : Nat) : Int) 1 ((k + 1 : Nat) : Int) rfl rfl (by omega) (by omega) (by omega) _) rfl (mv (nK (k + 1)) rfl (nq ?_))))))
  refine qL ?_
  exact ⟨_, by omega, k + 1, _, usK ⟨by omega, by rw [List.length_set]; exact hli, GI, HI, kg3⟩⟩
  refine qG (sv (vP g1 0) (je 44 _ 0 rfl g1 0 rfl 0 (by kernel_rfl)) rfl (sv (iK q.kind) (ldOpk _ rfl g1 rfl (kg1)) rfl (sv (vT) (jw 3 .i64 _ _ _ rfl underlying3 q.kind 3 rfl rfl true h3 _) rfl (nq ?_))))
  refine qL (qT rfl (qE (qG (mv (vP p 0) rfl (sv (vP g1 1) (je 44 _ 1 rfl g1 0 rfl 1 (by kernel_rfl)) rfl (sv (iK q.n) (ldOpn _ rfl g1 rfl (kg1)) rfl (nq ?_)))))))
  obtain ⟨dn, dq, HD, HQ, hd⟩ := (HT.gro GV).dq
  refine jq 93 rfl rfl _ 9 call9 rfl rfl _ rfl [vP p 0, iK q.n] rfl ((HT.gro GV).powA q.n) (by rintro _ _ ⟨he, _, _⟩; exact ⟨_, he⟩) ?_
  rintro v w9 ⟨he, G, HT2⟩
  cases he
  replace kg1 := G.has kg1 (fun hm => jB kg1 HD.box (by decide) (List.mem_singleton.1 hm))
  replace GG := G.gro GG (fun k hk => by rw [List.mem_singleton.1 hk]; exact bp)
  clear GV HD HQ hd dn dq G
  refine nq ?_
  refine qL (qE (qG (mv (vP rp 0) rfl (sv (vP g1 1) (je 44 _ 1 rfl g1 0 rfl 1 (by kernel_rfl)) rfl (sv (iK q.n) (ldOpn _ rfl g1 rfl (kg1)) rfl (sv (iK (max q.n (-1))) (JM _ _ _ rfl q.n (-1) _ rfl rfl rfl _) rfl ?_))))))
  refine nq ?_
  refine sv (vP rp 0) (jl _ rfl _ rfl) rfl (sv (vP rp 1) (je 47 _ 1 rfl rp 0 rfl 1 (by kernel_rfl)) rfl (nq ?_))
  obtain ⟨dn, dq, HD, HQ, hd⟩ := HT2.dq
  refine jE rfl rfl 3 _ _ rfl rp 1 rfl (iK (max q.n (-1))) rfl 47 _ HQ.box #[iK (max q.n (-1))] rfl si3 (Nat.le_of_ble_eq_true rfl) (by kernel_rfl) (c47 ⟨ro, n * 64, rc⟩ (max q.n (-1)) dq) (by kernel_rfl) ?_
  intro w10 St
  have HT3 := HT2.powB HQ ⟨hd.2.2.1, hd.2.2.2⟩ St
  replace GG := GG.store St brp
  clear St HD HQ kg1 HT2
  refine qL (wp_exit (jG (zp (jC (qG (sv (nK (i + 1)) (jV 3 _ _ _ rfl ((i : Nat) : Int) 1 ((i + 1 : Nat) : Int) rfl rfl (by omega) (by omega) (by omega) _) rfl (mv (nK (i + 1)) rfl (nq ?_))))))))
  refine qL ?_
  exact ⟨_, by omega, i + 1, L, (max q.n (-1)), h, dw, rs, Lx, c, er, va, vb, usK ⟨GG, HT3.up, HP.pow (okP.set hqo.n.2), ⟨by omega, by omega⟩⟩⟩
  refine exQ 24 [(0, 62), (1, 63), (2, 64), (3, 65), (4, 66), (5, 67), (6, 68), (7, 69), (8, 70), (9, 71), (10, 72), (11, 73), (12, 74), (13, 75), (14, 76), (15, 77), (16, 78), (17, 79), (18, 80), (19, 81), (20, 82), (21, 83), (22, 84), (23, 85)] [.val (nK i), .val (vT), .val (vT), .val uD, .val uD, .val uD, .val (vT), .val (vT), .val uD, .val uD, .val uD, .val uD, .val uD, .val (vT), .val (vT), .val uD, .val uD, .val uD, .val uD, .val uD, .val uD, .val uD, .val uD, .val uD] follows (by kernel_rfl) rfl (ja ?_ (ja ?_ (ja ?_ (ja ?_ (ja ?_ (ja ?_ (ja ?_ (ja ?_ (ja ?_ (ja ?_ (ja ?_ (ja ?_ (ja ?_ (ja ?_ (ja ?_ (ja ?_ (ja ?_ (ja ?_ (ja ?_ (ja ?_ (ja ?_ (ja ?_ (ja ?_ (ja ?_ jD)))))))))))))))))))))))) ?_
  exact fun _ _ _ _ => jf _ rfl rfl rfl
  exact fun _ _ _ _ => jb rfl (jy 3 _ _ _ rfl ((i : Nat) : Int) 120 rfl rfl true h2 _)
  exact fun _ _ _ _ => jf _ rfl rfl rfl
  exact fun _ _ _ _ => jA rfl
  exact fun _ _ _ _ => jA rfl
  exact fun _ _ _ _ => jA rfl
  exact fun _ _ _ _ => zw (v := vT) _ _ _ rfl rfl true rfl rfl
  exact fun _ _ _ _ => jf _ rfl rfl rfl
  exact fun _ _ _ _ => jA rfl
  exact fun _ _ _ _ => jA rfl
  exact fun _ _ _ _ => jA rfl
  exact fun _ _ _ _ => jA rfl
  exact fun _ _ _ _ => jA rfl
  exact fun _ _ _ _ => zw (v := vT) _ _ _ rfl rfl true rfl rfl
  exact fun _ _ _ _ => jf _ rfl rfl rfl
  exact fun _ _ _ _ => jA rfl
  exact fun _ _ _ _ => jA rfl
  exact fun _ _ _ _ => jA rfl
  exact fun _ _ _ _ => jA rfl
  exact fun _ _ _ _ => jA rfl
  exact fun _ _ _ _ => jA rfl
  exact fun _ _ _ _ => jA rfl
  exact fun _ _ _ _ => jA rfl
  exact fun _ _ _ _ => jA rfl
  intro pt4 w8 GD hxE
  simp only [List.drop_succ_cons, List.drop_zero]
  replace kg1 := GD.has kg1
  replace GV := GV.gro ((Gro.refl _).drew.trans GD)
  replace GG := GG.drew.trans GD
  clear GD
  refine mv (vT) rfl (nq ?_)
  refine qL (qT rfl (wp_exit (jG ?_)))
  refine blk_xn (by decide) ?_
  refine jG (jG (zp (jC ?_)))
  exact HT1 _ _ ⟨L, pw, h, dw, Lx, c, er, va, vb, (i + 1), usJ ⟨GG, HT.gro GV⟩⟩
end Go.Proofs.YtgfnjekpafempaaGreat
