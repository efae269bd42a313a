/- Disk: all bytes; a disk of bytes. -/
import Derived.Test.YtgfnjekpafempaaGD3
import Derived.Test.YtgfnjekpafempaaGAb
namespace Go.Proofs.Ytgfnjekpafempaa
set_option maxHeartbeats 4000000
set_option maxRecDepth 100000
open Go.RowKit
theorem Ue {L : List Nat} {n j : Nat} (h : L.length = n * 64) (hj : j < n) : wr (L.take (j * 64) ++ zs (n * 64 - j * 64)) (j * 64) (secL L j) = L.take ((j + 1) * 64) ++ zs (n * 64 - (j + 1) * 64) := by
  have h1 : (L.take (j * 64)).length = j * 64 := by rw [List.length_take]; omega
  have h2 := zW h hj
  rw [wr, h2, List.take_left' h1]
  have h3 : j * 64 + 64 = (L.take (j * 64)).length + 64 := by rw [h1]
  rw [h3, List.drop_length_add_append]
  have h4 : (zs (n * 64 - j * 64)).drop 64 = zs (n * 64 - (j + 1) * 64) := by
    simp only [zs, List.drop_replicate]
    congr 1
    omega
  rw [h4]
  congr 1
  rw [Nat.add_mul, Nat.one_mul, List.take_add, secL]
theorem Yy (n : Nat) (L : List Nat) : zs (n * 64) = L.take (0 * 64) ++ zs (n * 64 - 0 * 64) := by simp
theorem Uf {L : List Nat} {n : Nat} (h : L.length = n * 64) : L.take (n * 64) ++ zs (n * 64 - n * 64) = L := by
  rw [Nat.sub_self, List.take_of_length_le (by omega)]
  simp [zs]
theorem UJ {L : List Nat} {n j : Nat} (h : L.length = n * 64) (hj : j ≤ n) : (L.take (j * 64) ++ zs (n * 64 - j * 64)).length = n * 64 := by
  rw [List.length_append, zt, List.length_take]
  omega
theorem Vs {L : List Nat} {n j : Nat} (h : L.length = n * 64) (hj : j < n) : wr (L.take (j * 64) ++ zs (n * 64 - j * 64)) (j * 64) ((L.drop (j * 64)).take 64) = L.take ((j + 1) * 64) ++ zs (n * 64 - (j + 1) * 64) := Ue h hj
theorem ub {P : Program} {o : Oper} {A : Act} (x y : Operand) (t2 : TypeId) (ho : o.op = .binOp .rem 3 x y t2) (a b r : Int) (hx : A.eval x = .int .i64 a) (hy : A.eval y = .int .i64 b) (hb : b ≠ 0) (hr : a.tmod b = r) (_h1 : -9223372036854775808 ≤ r) (_h2 : r < 9223372036854775808) (w : World) : (execOp A.eval o).run P w = .ok (.value (.int .i64 r)) w := by
  subst hr
  refine jD .rem 3 x y t2 ho _ _ _ hx hy (by simp [eqGuard]) ?_
  simp [binOp, Op.intDiv, hb]
theorem VX {o : Oper} {A : Act} (x y : Operand) (ho : o.op = .slice 30 x (some y) none none) (g n i : Nat) (hx : A.eval x = .slice (some ⟨g, 0, none⟩) n n) (hy : A.eval y = .int .i64 (i : Int)) (hi : i < n) (w : World) :
    (execOp A.eval o).run Try.prog w = .ok (.value (.slice (some ⟨g, i, none⟩) (n - i) (n - i))) w := by
  rw [uR bT x y ho (some ⟨g, 0, none⟩) n n i hx hy (by omega) w, if_neg (by omega), Option.map_some, zQ, Nat.zero_add]
theorem Kg (w : World) (p sg n : Nat) (L : List Nat) (pw dn : Int) (H : DK w p sg n L pw dn) : Calls Try.prog 15 #[vP p 0] w fun e w' => ∃ g, e = .returned (.slice (some ⟨g, 0, none⟩) (n * 64) (n * 64)) ∧ Gro w w' ∧ w.heap.size ≤ g ∧ w'.heap[g]? = some (.cells (bv L) 5 (0, 0)) := by
  refine js Try.func15 rfl Try.ntmps15 [vP p 0] [vP p 0, uD, uD, uD, uD, uD, uD, uD, uD, uD, uD, uD, uD, uD, uD, uD, uD, uD, uD, uD, uD, uD, uD, uD, uD, uD, uD, uD] rfl ?_
  have GG := Gro.refl w
  have kp := H.box
  have ksg := H.sec
  have hne := H.ne
  refine qS ?_
  refine ja 2 rfl rfl (.slice none 0 0) (rfl) ?_
  refine nr ?_; intro U h; simp only [z0, z1] at h; subst h
  refine qA ?_
  refine ja 5 rfl rfl (vP p 0) (rfl) ?_
  refine nr ?_; intro U h; simp only [z0, z1] at h; subst h
  refine jy 6 rfl rfl _ 43 Try.call43 rfl rfl _ rfl [vP p 0] rfl (va w p sg n L pw dn (H.gro GG)) ?_
  intro w1 G
  replace kp := G.has kp
  replace ksg := G.has ksg
  replace GG := GG.trans G
  clear G
  refine nr ?_; intro U h; simp only [z0, z1] at h; subst h
  refine ja 7 rfl rfl (nK (n * 64)) (zb _ _ _ rfl ((n : Nat) : Int) 64 _ rfl rfl (by omega) (by have := H.le; omega) (by have := H.le; omega) _) ?_
  refine nr ?_; intro U h; simp only [z0, z1] at h; subst h
  refine Ze bT 8 rfl rfl _ _ rfl (n * 64) rfl rfl (by have := H.le; omega) (by have := H.le; simp only [maxLen]; omega) ?_
  intro w2 g G eg kg
  have bg := jk GG eg
  have dpg := jH kp eg
  have dsgg := jH ksg eg
  replace kp := G.has kp
  replace ksg := G.has ksg
  replace GG := GG.trans G
  clear G eg
  refine nr ?_; intro U h; simp only [z0, z1] at h; subst h
  refine ja 3 rfl rfl (.slice (some ⟨g, 0, none⟩) (n * 64) (n * 64)) (rfl) ?_
  refine nr ?_; intro U h; simp only [z0, z1] at h; subst h
  refine qL (qE (qS ?_))
  refine ja 9 rfl rfl (vP p 0) (rfl) ?_
  refine nr ?_; intro U h; simp only [z0, z1] at h; subst h
  refine jy 10 rfl rfl _ 43 Try.call43 rfl rfl _ rfl [vP p 0] rfl (va w2 p sg n L pw dn (H.gro GG)) ?_
  intro w3 G
  replace kp := G.has kp
  replace ksg := G.has ksg
  replace kg := G.has kg
  replace GG := GG.trans G
  clear G
  refine nr ?_; intro U h; simp only [z0, z1] at h; subst h
  refine ja 11 rfl rfl (iK 0) (rfl) ?_
  refine nr ?_; intro U h; simp only [z0, z1] at h; subst h
  refine qL (qB ?_)
  refine jV (fun m a wv => ∃ (j : Nat) (u4 u12 u13 u14 u15 u16 u17 u18 u19 u20 u21 u22 u23 u24 u25 u26 : Value), m = n - j ∧ a = ⟨[vP p 0, uD, .slice none 0 0, .slice (some ⟨g, 0, none⟩) (n * 64) (n * 64), u4, vP p 0, nK n, nK (n * 64), .slice (some ⟨g, 0, none⟩) (n * 64) (n * 64), vP p 0, nK n, nK j, u12, u13, u14, u15, u16, u17, u18, u19, u20, u21, u22, u23, u24, u25, u26, uD].toArray, []⟩ ∧ j ≤ n ∧ Gro w wv ∧ wv.heap[p]? = some (.cells (c101 ⟨some ⟨sg, 0, none⟩, n, n⟩ pw dn) 101 (0, 0)) ∧ wv.heap[sg]? = some (.cells (bv L) 98 (0, 0)) ∧ wv.heap[g]? = some (.cells (bv (L.take (j * 64) ++ zs (n * 64 - j * 64))) 5 (0, 0))) ?_ _ ⟨0, uD, uD, uD, uD, uD, uD, uD, uD, uD, uD, uD, uD, uD, uD, uD, uD, rfl, rfl, Nat.zero_le _, GG, kp, ksg, by rw [← Yy]; exact kg⟩
  clear kp ksg kg GG
  rintro m a wv ⟨j, u4, u12, u13, u14, u15, u16, u17, u18, u19, u20, u21, u22, u23, u24, u25, u26, rfl, rfl, hj, GG, kp, ksg, kg⟩
  refine qS ?_
  obtain ⟨p1, hp1⟩ : ∃ p, decide (((j : Nat) : Int) < ((n : Nat) : Int)) = p := ⟨_, rfl⟩
  refine ja 12 rfl rfl (.bool p1) (jE 3 _ _ _ rfl ((j : Nat) : Int) ((n : Nat) : Int) rfl rfl p1 hp1 _) ?_
  refine nr ?_; intro U h; simp only [z0, z1] at h; subst h
  cases p1
  have hjn : j = n := by have := of_decide_eq_false hp1; omega
  refine qL (qE (qF rfl (wp_exit (jL (jL (zC (jG (qS ?_))))))))
  refine ja 27 rfl rfl (.slice (some ⟨g, 0, none⟩) (n * 64) (n * 64)) (rfl) ?_
  refine ja 2 rfl rfl (.slice (some ⟨g, 0, none⟩) (n * 64) (n * 64)) (rfl) ?_
  refine nr ?_; intro U h; simp only [z0, z1] at h; subst h
  refine qL (qR ?_)
  refine bodyPost_ret (results_tmp Try.results15 _ _ _) rfl ?_
  subst hjn
  rw [Uf H.len] at kg
  exact ⟨g, rfl, GG, bg, kg⟩
  have hjn : j < n := by have := of_decide_eq_true hp1; omega
  refine qL (qE (qT rfl (qK (qE (qB (qS ?_))))))
  refine ja 13 rfl rfl (nK j) (rfl) ?_
  refine ja 4 rfl rfl (nK j) (rfl) ?_
  refine nr ?_; intro U h; simp only [z0, z1] at h; subst h
  refine qL ?_
  refine jl (A := ?A) 11 [(0, 14), (1, 15), (2, 16), (3, 17), (4, 18), (5, 19), (6, 20), (7, 21), (8, 22), (9, 23), (10, 24)] [.val (.slice (some ⟨g, 0, none⟩) (n * 64) (n * 64)), .val (nK j), .val (nK (j * 64)), .val (.slice (some ⟨g, j * 64, none⟩) (n * 64 - j * 64) (n * 64 - j * 64)), .val (vP p 0), .val (vP p 0), .val (vP p 0), .val (.slice (some ⟨sg, 0, none⟩) n n), .val (nK j), .val (.pointer (some ⟨sg, j * 64, none⟩)), .val (.slice (some ⟨sg, j * 64, none⟩) 64 64)] follows (by kernel_rfl) rfl ?hA (jb ?o0 (jb ?o1 (jb ?o2 (jb ?o3 (jb ?o4 (jb ?o5 (jb ?o6 (jb ?o7 (jb ?o8 (jb ?o9 (jb ?o10 jF))))))))))) ?rest
  case hA =>
    intro ptrs
    simp only [full, foldSlots, filledE, postE, List.foldl_cons, List.foldl_nil, List.getD_cons_zero, List.getD_cons_succ, jI, List.set_cons_zero, List.set_cons_succ]
    exact rfl
  case o0 => exact fun _ _ _ _ => jg (v := .slice (some ⟨g, 0, none⟩) (n * 64) (n * 64)) _ rfl rfl rfl
  case o1 => exact fun _ _ _ _ => jg (v := nK j) _ rfl rfl rfl
  case o2 => exact fun _ _ hw _ => jd (v := nK (j * 64)) rfl (zb _ _ _ rfl ((j : Nat) : Int) 64 _ rfl rfl (by omega) (by have := H.le; omega) (by have := H.le; omega) _)
  case o3 => exact fun _ _ hw _ => jd (v := .slice (some ⟨g, j * 64, none⟩) (n * 64 - j * 64) (n * 64 - j * 64)) rfl (VX _ _ rfl g (n * 64) (j * 64) rfl rfl (by omega) _)
  case o4 => exact fun _ _ _ _ => jg (v := vP p 0) _ rfl rfl rfl
  case o5 => exact fun _ _ hw _ => jd (v := vP p 0) rfl (jn _ rfl _ rfl)
  case o6 => exact fun _ _ hw _ => jd (v := vP p 0) rfl (jf 101 _ 0 rfl _ _ rfl _ (by kernel_rfl))
  case o7 => exact fun _ _ hw _ => jd (v := .slice (some ⟨sg, 0, none⟩) n n) rfl (jq 99 _ rfl p 0 rfl 101 _ (hw.has kp) (na99 _) _ rfl)
  case o8 => exact fun _ _ _ _ => jg (v := nK j) _ rfl rfl rfl
  case o9 => exact fun _ _ hw _ => jd (v := .pointer (some ⟨sg, j * 64, none⟩)) rfl (vf _ _ rfl sg n n j rfl rfl hjn _)
  case o10 => exact fun _ _ hw _ => jd (v := .slice (some ⟨sg, j * 64, none⟩) 64 64) rfl (vg _ rfl _ _ rfl _)
  intro ptrs w4 GD hxE
  simp only [List.drop_succ_cons, List.drop_zero]
  replace kp := GD.has kp
  replace ksg := GD.has ksg
  replace kg := GD.has kg
  replace GG := GG.drew.trans GD
  clear GD
  refine uC bT 25 rfl rfl _ _ rfl g (j * 64) (n * 64 - j * 64) (n * 64 - j * 64) rfl kg rfl (zW H.len hjn) (Zp ksg (zY H.len hjn) (Nat.le_refl _) H.byte) (List.take_of_length_le (by rw [zW H.len hjn]; omega)) (by rw [UJ H.len hj]; omega) ?_
  intro w5 St
  replace kp := St.has (by omega) kp
  replace ksg := St.has (by omega) ksg
  replace GG := GG.store St bg
  replace kg := St.new
  clear St
  rw [Ue H.len hjn] at kg
  refine nr ?_; intro U h; simp only [z0, z1] at h; subst h
  refine qN (zh (jG (qG ?_)))
  refine ja 26 rfl rfl (nK (j + 1)) (jp _ _ _ rfl ((j : Nat) : Int) 1 _ rfl rfl (by omega) (by have := H.le; omega) (by have := H.le; omega) _) ?_
  refine ja 11 rfl rfl (nK (j + 1)) (rfl) ?_
  refine nr ?_; intro U h; simp only [z0, z1] at h; subst h
  refine qL ?_
  exact ⟨_, (by omega : n - (j + 1) < n - j), j + 1, nK j, vT, nK j, .slice (some ⟨g, 0, none⟩) (n * 64) (n * 64), nK j, nK (j * 64), .slice (some ⟨g, j * 64, none⟩) (n * 64 - j * 64) (n * 64 - j * 64), vP p 0, vP p 0, vP p 0, .slice (some ⟨sg, 0, none⟩) n n, nK j, .pointer (some ⟨sg, j * 64, none⟩), .slice (some ⟨sg, j * 64, none⟩) 64 64, iK (((secL L j).length : Nat) : Int), nK (j + 1), rfl, rfl, hjn, GG, kp, ksg, kg⟩
theorem of_ok (w : World) (ao : Option Addr) (cap : Nat) (l : List Nat) (HB : NC w .u8 ao cap l) (n : Nat) (hln : l.length = n * 64) (hn : n ≤ 4096) : Calls Try.prog 36 #[.slice ao l.length cap] w fun e w' => ∃ p sg, e = .returned (.tuple #[vP p 0, iK 0]) ∧ Gro w w' ∧ w.heap.size ≤ p ∧ w.heap.size ≤ sg ∧ DK w' p sg n l (-1) 0 := by
  refine js Try.func36 rfl Try.ntmps36 [.slice ao l.length cap] [.slice ao l.length cap, uD, uD, uD, uD, uD, uD, uD, uD, uD, uD, uD, uD, uD, uD, uD, uD, uD, uD, uD, uD, uD, uD, uD, uD, uD, uD, uD, uD, uD, uD, uD, uD, uD, uD, uD, uD, uD, uD, uD, uD, uD] rfl ?_
  have GG := Gro.refl w
  have HN := HB
  have hl : l.length < 9223372036854775808 := by omega
  refine qS ?_
  refine ja 2 rfl rfl (.pointer none) (rfl) ?_
  refine ja 3 rfl rfl (iK 0) (rfl) ?_
  refine nr ?_; intro U h; simp only [z0, z1] at h; subst h
  refine qA ?_
  refine ja 7 rfl rfl (.slice ao l.length cap) (rfl) ?_
  refine ja 8 rfl rfl (nK l.length) (jA Try.underlying30 _ rfl _ _ _ rfl _) ?_
  refine ja 9 rfl rfl (nK n) (zp _ _ _ rfl ((l.length : Nat) : Int) 64 _ rfl rfl (by decide) ((tdivN _ 64).trans (by omega)) (by omega) (by omega) _) ?_
  refine ja 4 rfl rfl (nK n) (rfl) ?_
  refine nr ?_; intro U h; simp only [z0, z1] at h; subst h
  refine qL (qE (qE ?_))
  refine jj ?_
  intro OPS hY
  have y4 := hY 4 14 rfl
  clear hY
  refine ja 10 rfl rfl (.slice ao l.length cap) (rfl) ?_
  refine ja 11 rfl rfl (nK l.length) (jA Try.underlying30 _ rfl _ _ _ rfl _) ?_
  refine ja 12 rfl rfl (iK ((l.length % 64 : Nat) : Int)) (ub _ _ _ rfl ((l.length : Nat) : Int) 64 _ rfl rfl (by decide) (tmodN _ 64) (by omega) (by omega) _) ?_
  refine ja 13 rfl rfl (vF) (jh 3 .i64 _ _ _ rfl Try.underlying3 ((l.length % 64 : Nat) : Int) 0 rfl rfl false (by first | exact decide_eq_true (by omega) | exact decide_eq_false (by omega)) _) ?_
  refine ja 14 rfl rfl (vF) (rfl) ?_
  refine je 15 rfl rfl y4 rfl (nK n) (rfl) ?_
  refine je 16 rfl rfl y4 rfl (vF) (jJ 3 _ _ _ rfl ((n : Nat) : Int) 4096 rfl rfl false (decide_eq_false (by omega)) _) ?_
  refine ja 17 rfl rfl (vF) (rfl) ?_
  refine nr ?_; intro U h; simp only [z0, z1] at h; subst h
  refine qL (qF rfl (qK (qS ?_)))
  refine ja 18 rfl rfl (nK n) (rfl) ?_
  refine nr ?_; intro U h; simp only [z0, z1] at h; subst h
  have HC := UH w ((n : Nat) : Int)
  rw [clN_nat n hn] at HC
  refine jx 19 rfl rfl _ 23 Try.call23 rfl rfl _ rfl [nK n] rfl HC (fun _ _ ⟨_, _, he, _⟩ => ⟨_, he⟩) ?_
  rintro v w1 ⟨p, sg, he, G, bp, bsg, HD⟩
  cases he
  clear HC
  replace bp := Nat.le_trans GG.size bp
  replace bsg := Nat.le_trans GG.size bsg
  replace HN := HN.gro G
  replace GG := GG.trans G
  clear G
  refine nr ?_; intro U h; simp only [z0, z1] at h; subst h
  have kp := HD.box
  have ksg := HD.sec
  have hne := HD.ne
  clear HD
  refine ja 5 rfl rfl (vP p 0) (rfl) ?_
  refine nr ?_; intro U h; simp only [z0, z1] at h; subst h
  refine qL (qE (qS ?_))
  refine ja 20 rfl rfl (vP p 0) (rfl) ?_
  refine ja 21 rfl rfl (vP p 0) (jn _ rfl _ rfl) ?_
  refine ja 22 rfl rfl (vP p 0) (jf 101 _ 0 rfl _ _ rfl _ (by kernel_rfl)) ?_
  refine ja 23 rfl rfl (.slice (some ⟨sg, 0, none⟩) n n) (jq 99 _ rfl p 0 rfl 101 _ kp (na99 _) _ rfl) ?_
  refine ja 24 rfl rfl (nK n) (jA Try.underlying99 _ rfl _ _ _ rfl _) ?_
  refine ja 25 rfl rfl (iK 0) (rfl) ?_
  refine nr ?_; intro U h; simp only [z0, z1] at h; subst h
  refine qL (qB ?_)
  refine jV (fun m a wv => ∃ (j : Nat) (u6 u26 u27 u28 u29 u30 u31 u32 u33 u34 u35 u36 u37 u38 u39 u40 : Value), m = n - j ∧ a = ⟨[.slice ao l.length cap, uD, .pointer none, iK 0, nK n, vP p 0, u6, .slice ao l.length cap, nK l.length, nK n, .slice ao l.length cap, nK l.length, iK ((l.length % 64 : Nat) : Int), vF, vF, nK n, vF, vF, nK n, vP p 0, vP p 0, vP p 0, vP p 0, .slice (some ⟨sg, 0, none⟩) n n, nK n, nK j, u26, u27, u28, u29, u30, u31, u32, u33, u34, u35, u36, u37, u38, u39, u40, uD].toArray, []⟩ ∧ j ≤ n ∧ Gro w wv ∧ wv.heap[p]? = some (.cells (c101 ⟨some ⟨sg, 0, none⟩, n, n⟩ (-1) 0) 101 (0, 0)) ∧ wv.heap[sg]? = some (.cells (bv (l.take (j * 64) ++ zs (n * 64 - j * 64))) 98 (0, 0))) ?_ _ ⟨0, uD, uD, uD, uD, uD, uD, uD, uD, uD, uD, uD, uD, uD, uD, uD, uD, rfl, rfl, Nat.zero_le _, GG, kp, by rw [← Yy]; exact ksg⟩
  clear kp ksg GG
  rintro m a wv ⟨j, u6, u26, u27, u28, u29, u30, u31, u32, u33, u34, u35, u36, u37, u38, u39, u40, rfl, rfl, hj, GG, kp, ksg⟩
  clear HN
  have HN := HB.gro GG
  refine qS ?_
  obtain ⟨p1, hp1⟩ : ∃ p, decide (((j : Nat) : Int) < ((n : Nat) : Int)) = p := ⟨_, rfl⟩
  refine ja 26 rfl rfl (.bool p1) (jE 3 _ _ _ rfl ((j : Nat) : Int) ((n : Nat) : Int) rfl rfl p1 hp1 _) ?_
  refine nr ?_; intro U h; simp only [z0, z1] at h; subst h
  cases p1
  have hjn : j = n := by have := of_decide_eq_false hp1; omega
  refine qL (qE (qF rfl (wp_exit (jL (jL (zC (jG (qS ?_))))))))
  refine ja 41 rfl rfl (vP p 0) (rfl) ?_
  refine ja 2 rfl rfl (vP p 0) (rfl) ?_
  refine ja 3 rfl rfl (iK 0) (rfl) ?_
  refine nr ?_; intro U h; simp only [z0, z1] at h; subst h
  refine qL (qR ?_)
  refine bodyPost_ret (results_tmp2 Try.results36 _ _ _) rfl ?_
  subst hjn
  rw [Uf hln] at ksg
  exact ⟨p, sg, rfl, GG, bp, bsg, kp, ksg, hln, hn, HB.lt256, hne⟩
  have hjn : j < n := by have := of_decide_eq_true hp1; omega
  refine qL (qE (qT rfl (qK (qE (qB (qS ?_))))))
  refine ja 27 rfl rfl (nK j) (rfl) ?_
  refine ja 6 rfl rfl (nK j) (rfl) ?_
  refine nr ?_; intro U h; simp only [z0, z1] at h; subst h
  refine qL ?_
  refine jl (A := ?A) 11 [(0, 28), (1, 29), (2, 30), (3, 31), (4, 32), (5, 33), (6, 34), (7, 35), (8, 36), (9, 37), (10, 38)] [.val (vP p 0), .val (vP p 0), .val (vP p 0), .val (.slice (some ⟨sg, 0, none⟩) n n), .val (nK j), .val (.pointer (some ⟨sg, j * 64, none⟩)), .val (.slice (some ⟨sg, j * 64, none⟩) 64 64), .val (.slice ao l.length cap), .val (nK j), .val (nK (j * 64)), .val (.slice (if cap = j * 64 then ao else ao.map (·.add (j * 64))) (l.length - j * 64) (cap - j * 64))] follows (by kernel_rfl) rfl ?hA (jb ?o0 (jb ?o1 (jb ?o2 (jb ?o3 (jb ?o4 (jb ?o5 (jb ?o6 (jb ?o7 (jb ?o8 (jb ?o9 (jb ?o10 jF))))))))))) ?rest
  case hA =>
    intro ptrs
    simp only [full, foldSlots, filledE, postE, List.foldl_cons, List.foldl_nil, List.getD_cons_zero, List.getD_cons_succ, jI, List.set_cons_zero, List.set_cons_succ]
    exact rfl
  case o0 => exact fun _ _ _ _ => jg (v := vP p 0) _ rfl rfl rfl
  case o1 => exact fun _ _ hw _ => jd (v := vP p 0) rfl (jn _ rfl _ rfl)
  case o2 => exact fun _ _ hw _ => jd (v := vP p 0) rfl (jf 101 _ 0 rfl _ _ rfl _ (by kernel_rfl))
  case o3 => exact fun _ _ hw _ => jd (v := .slice (some ⟨sg, 0, none⟩) n n) rfl (jq 99 _ rfl p 0 rfl 101 _ (hw.has kp) (na99 _) _ rfl)
  case o4 => exact fun _ _ _ _ => jg (v := nK j) _ rfl rfl rfl
  case o5 => exact fun _ _ hw _ => jd (v := .pointer (some ⟨sg, j * 64, none⟩)) rfl (vf _ _ rfl sg n n j rfl rfl hjn _)
  case o6 => exact fun _ _ hw _ => jd (v := .slice (some ⟨sg, j * 64, none⟩) 64 64) rfl (vg _ rfl _ _ rfl _)
  case o7 => exact fun _ _ _ _ => jg (v := .slice ao l.length cap) _ rfl rfl rfl
  case o8 => exact fun _ _ _ _ => jg (v := nK j) _ rfl rfl rfl
  case o9 => exact fun _ _ hw _ => jd (v := nK (j * 64)) rfl (zb _ _ _ rfl ((j : Nat) : Int) 64 _ rfl rfl (by omega) (by omega) (by omega) _)
  case o10 => exact fun _ _ hw _ => jd (v := .slice (if cap = j * 64 then ao else ao.map (·.add (j * 64))) (l.length - j * 64) (cap - j * 64)) rfl (uR bT _ _ rfl ao l.length cap (j * 64) rfl rfl (by omega) _)
  intro ptrs w2 GD hxE
  simp only [List.drop_succ_cons, List.drop_zero]
  replace kp := GD.has kp
  replace ksg := GD.has ksg
  replace HN := HN.gro ((Gro.refl _).drew.trans GD)
  replace GG := GG.drew.trans GD
  clear GD
  refine uC bT 39 rfl rfl _ _ rfl sg (j * 64) 64 64 rfl ksg rfl (List.length_drop) (HN.drop (j * 64) (by omega)) rfl (by rw [UJ hln (Nat.le_of_lt hjn)]; omega) ?_
  intro w3 St
  replace kp := St.has (by omega) kp
  replace HN := HB.gro GG
  replace GG := GG.store St bsg
  replace ksg := St.new
  clear St
  rw [Vs hln hjn] at ksg
  refine nr ?_; intro U h; simp only [z0, z1] at h; subst h
  refine qN (zh (jG (qG ?_)))
  refine ja 40 rfl rfl (nK (j + 1)) (jp _ _ _ rfl ((j : Nat) : Int) 1 _ rfl rfl (by omega) (by omega) (by omega) _) ?_
  refine ja 25 rfl rfl (nK (j + 1)) (rfl) ?_
  refine nr ?_; intro U h; simp only [z0, z1] at h; subst h
  refine qL ?_
  exact ⟨_, (by omega : n - (j + 1) < n - j), j + 1, nK j, vT, nK j, vP p 0, vP p 0, vP p 0, .slice (some ⟨sg, 0, none⟩) n n, nK j, .pointer (some ⟨sg, j * 64, none⟩), .slice (some ⟨sg, j * 64, none⟩) 64 64, .slice ao l.length cap, nK j, nK (j * 64), .slice (if cap = j * 64 then ao else ao.map (·.add (j * 64))) (l.length - j * 64) (cap - j * 64), iK (((secL l j).length : Nat) : Int), nK (j + 1), rfl, rfl, hjn, GG, kp, ksg⟩
end Go.Proofs.Ytgfnjekpafempaa
