import Derived.Test.YtgfnjekpafempaaGreatBD3
import Derived.Test.YtgfnjekpafempaaGreatBAb
namespace Go.Proofs.YtgfnjekpafempaaGreat
open Go.Proofs.Tryz
set_option maxHeartbeats 4000000
set_option maxRecDepth 100000
open Go.RowKit
theorem Qz {L : List Nat} {n j : Nat} (h : L.length = n * 64) (hj : j < n) : wr (L.take (j * 64) ++ zs (n * 64 - j * 64)) (j * 64) (secL L j) = L.take ((j + 1) * 64) ++ zs (n * 64 - (j + 1) * 64) := by
  have h1 : (L.take (j * 64)).length = j * 64 := by rw [List.length_take]; omega
  have h2 := zZ h hj
  rw [wr, h2, List.take_left' h1]
  have h3 : j * 64 + 64 = (L.take (j * 64)).length + 64 := by rw [h1]
  rw [h3, List.drop_length_add_append]
  have h4 : (zs (n * 64 - j * 64)).drop 64 = zs (n * 64 - (j + 1) * 64) := by
    simp only [zs, List.drop_replicate]
    congr 1
    omega
  rw [h4]
  congr 1
  rw [Nat.add_mul, Nat.one_mul, List.take_add, secL]
theorem VA (n : Nat) (L : List Nat) : zs (n * 64) = L.take (0 * 64) ++ zs (n * 64 - 0 * 64) := by simp
theorem QA {L : List Nat} {n : Nat} (h : L.length = n * 64) : L.take (n * 64) ++ zs (n * 64 - n * 64) = L := by
  rw [Nat.sub_self, List.take_of_length_le (by omega)]
  simp [zs]
theorem Ka {L : List Nat} {n j : Nat} (h : L.length = n * 64) (hj : j ≤ n) : (L.take (j * 64) ++ zs (n * 64 - j * 64)).length = n * 64 := by
  rw [List.length_append, zo, List.length_take]
  omega
theorem UJ {L : List Nat} {n j : Nat} (h : L.length = n * 64) (hj : j < n) : wr (L.take (j * 64) ++ zs (n * 64 - j * 64)) (j * 64) ((L.drop (j * 64)).take 64) = L.take ((j + 1) * 64) ++ zs (n * 64 - (j + 1) * 64) := Qz h hj
theorem ut {P : Program} {o : Oper} {A : Act} (x y : Operand) (t2 : TypeId) (ho : o.op = .binOp .rem 3 x y t2) (a b r : Int) (hx : A.eval x = .int .i64 a) (hy : A.eval y = .int .i64 b) (hb : b ≠ 0) (hr : a.tmod b = r) (_h1 : -9223372036854775808 ≤ r) (_h2 : r < 9223372036854775808) (w : World) : (execOp A.eval o).run P w = .ok (.value (.int .i64 r)) w := by
  subst hr
  refine jF .rem 3 x y t2 ho _ _ _ hx hy (by simp [eqGuard]) ?_
  simp [binOp, Op.intDiv, hb]
theorem Qs {o : Oper} {A : Act} (x y : Operand) (ho : o.op = .slice 27 x (some y) none none) (g n i : Nat) (hx : A.eval x = .slice (some ⟨g, 0, none⟩) n n) (hy : A.eval y = .int .i64 (i : Int)) (hi : i < n) (w : World) :
    (execOp A.eval o).run Tryz.prog w = .ok (.value (.slice (some ⟨g, i, none⟩) (n - i) (n - i))) w := by
  rw [Jn bT x y ho (some ⟨g, 0, none⟩) n n i hx hy (by omega) w, if_neg (by omega), Option.map_some, zQ, Nat.zero_add]
theorem jbd (w : World) (p sg n : Nat) (L : List Nat) (pw dn : Int) (H : DK w p sg n L pw dn) : Calls Tryz.prog 8 #[vP p 0] w fun e w' => ∃ g, e = .returned (.slice (some ⟨g, 0, none⟩) (n * 64) (n * 64)) ∧ Gro w w' ∧ w.heap.size ≤ g ∧ w'.heap[g]? = some (.cells (bv L) 5 (0, 0)) := by
  refine eN func8 rfl ntmps8 [vP p 0] ?_
  have GG := Gro.refl w
  have kp := H.box
  have ksg := H.sec
  have hne := H.ne
  refine qE (qG (mv (.slice none 0 0) rfl (nq ?_)))
  refine qL (qE (qG (mv (vP p 0) rfl (nq ?_))))
  refine jr 6 rfl rfl _ 33 call33 rfl rfl _ rfl [vP p 0] rfl (yT w p sg n L pw dn (H.gro GG)) ?_
  intro w1 G
  replace kp := G.has kp
  replace ksg := G.has ksg
  replace GG := GG.trans G
  clear G
  refine nq ?_
  refine sv (nK (n * 64)) (zd _ _ _ rfl ((n : Nat) : Int) 64 _ rfl rfl (by omega) (by have := H.le; omega) (by have := H.le; omega) _) rfl (nq ?_)
  refine ZI bT 8 rfl rfl _ _ rfl (n * 64) rfl rfl (by have := H.le; omega) (by have := H.le; simp only [maxLen]; omega) ?_
  intro w2 g G eg kg
  have bg := jh GG eg
  have dpg := jn kp eg
  have dsgg := jn ksg eg
  replace kp := G.has kp
  replace ksg := G.has ksg
  replace GG := GG.trans G
  clear G eg
  refine nq ?_
  refine mv (.slice (some ⟨g, 0, none⟩) (n * 64) (n * 64)) rfl (nq ?_)
  refine qL (qE (qE (qG (mv (vP p 0) rfl (nq ?_)))))
  refine jr 10 rfl rfl _ 33 call33 rfl rfl _ rfl [vP p 0] rfl (yT w2 p sg n L pw dn (H.gro GG)) ?_
  intro w3 G
  replace kp := G.has kp
  replace ksg := G.has ksg
  replace kg := G.has kg
  replace GG := GG.trans G
  clear G
  refine nq ?_
  refine mv (iK 0) rfl (nq ?_)
  refine qL (qB ?_)
  refine jO (fun m a wv => ∃ (j : Nat) (u4 u12 u13 u14 u15 u16 u17 u18 u19 u20 u21 u22 u23 u24 u25 u26 : Value), m = n - j ∧ a = ⟨[vP p 0, uD, .slice none 0 0, .slice (some ⟨g, 0, none⟩) (n * 64) (n * 64), u4, vP p 0, nK n, nK (n * 64), .slice (some ⟨g, 0, none⟩) (n * 64) (n * 64), vP p 0, nK n, nK j, u12, u13, u14, u15, u16, u17, u18, u19, u20, u21, u22, u23, u24, u25, u26, uD].toArray, []⟩ ∧ j ≤ n ∧ Gro w wv ∧ wv.heap[p]? = some (.cells (c92 ⟨some ⟨sg, 0, none⟩, n, n⟩ pw dn) 92 (0, 0)) ∧ wv.heap[sg]? = some (.cells (bv L) 89 (0, 0)) ∧ wv.heap[g]? = some (.cells (bv (L.take (j * 64) ++ zs (n * 64 - j * 64))) 5 (0, 0))) ?_ _ ⟨0, uD, uD, uD, uD, uD, uD, uD, uD, uD, uD, uD, uD, uD, uD, uD, uD, rfl, rfl, Nat.zero_le _, GG, kp, ksg, by rw [← VA]; exact kg⟩
  clear kp ksg kg GG
  rintro m a wv ⟨j, u4, u12, u13, u14, u15, u16, u17, u18, u19, u20, u21, u22, u23, u24, u25, u26, rfl, rfl, hj, GG, kp, ksg, kg⟩
  refine qS ?_
  obtain ⟨p1, hp1⟩ : ∃ p, decide (((j : Nat) : Int) < ((n : Nat) : Int)) = p := ⟨_, rfl⟩
  refine sv (.bool p1) (jv 3 _ _ _ rfl ((j : Nat) : Int) ((n : Nat) : Int) rfl rfl p1 hp1 _) rfl (nq ?_)
  cases p1
  have hjn : j = n := by have := of_decide_eq_false hp1; omega
  refine qL (qE (qF rfl (wp_exit (jG (jG (zp (jC (qE (qG (mv (.slice (some ⟨g, 0, none⟩) (n * 64) (n * 64)) rfl (mv (.slice (some ⟨g, 0, none⟩) (n * 64) (n * 64)) rfl (nq ?_))))))))))))
  refine qL (qR ?_)
  refine bodyPost_ret (results_tmp results8 _ _ _) rfl ?_
  subst hjn
  rw [QA H.len] at kg
  exact ⟨g, rfl, GG, bg, kg⟩
  have hjn : j < n := by have := of_decide_eq_true hp1; omega
  refine qL (qE (qT rfl (qK (qE (qB (qE (qG (mv (nK j) rfl (mv (nK j) rfl (nq ?_))))))))))
  refine qL ?_
  refine jQ (A := ?A) 11 [(0, 14), (1, 15), (2, 16), (3, 17), (4, 18), (5, 19), (6, 20), (7, 21), (8, 22), (9, 23), (10, 24)] [.val (.slice (some ⟨g, 0, none⟩) (n * 64) (n * 64)), .val (nK j), .val (nK (j * 64)), .val (.slice (some ⟨g, j * 64, none⟩) (n * 64 - j * 64) (n * 64 - j * 64)), .val (vP p 0), .val (vP p 0), .val (vP p 0), .val (.slice (some ⟨sg, 0, none⟩) n n), .val (nK j), .val (.pointer (some ⟨sg, j * 64, none⟩)), .val (.slice (some ⟨sg, j * 64, none⟩) 64 64)] follows (by kernel_rfl) rfl ?hA (ja ?o0 (ja ?o1 (ja ?o2 (ja ?o3 (ja ?o4 (ja ?o5 (ja ?o6 (ja ?o7 (ja ?o8 (ja ?o9 (ja ?o10 jD))))))))))) ?rest
  case hA =>
    intro ptrs
    simp only [full, foldSlots, filledE, postE, List.foldl_cons, List.foldl_nil, List.getD_cons_zero, List.getD_cons_succ, zu, List.set_cons_zero, List.set_cons_succ]
    exact rfl
  case o0 => exact fun _ _ _ _ => jf (v := .slice (some ⟨g, 0, none⟩) (n * 64) (n * 64)) _ rfl rfl rfl
  case o1 => exact fun _ _ _ _ => jf (v := nK j) _ rfl rfl rfl
  case o2 => exact fun _ _ hw _ => jb (v := nK (j * 64)) rfl (zd _ _ _ rfl ((j : Nat) : Int) 64 _ rfl rfl (by omega) (by have := H.le; omega) (by have := H.le; omega) _)
  case o3 => exact fun _ _ hw _ => jb (v := .slice (some ⟨g, j * 64, none⟩) (n * 64 - j * 64) (n * 64 - j * 64)) rfl (Qs _ _ rfl g (n * 64) (j * 64) rfl rfl (by omega) _)
  case o4 => exact fun _ _ _ _ => jf (v := vP p 0) _ rfl rfl rfl
  case o5 => exact fun _ _ hw _ => jb (v := vP p 0) rfl (jl _ rfl _ rfl)
  case o6 => exact fun _ _ hw _ => jb (v := vP p 0) rfl (je 92 _ 0 rfl _ _ rfl _ (by kernel_rfl))
  case o7 => exact fun _ _ hw _ => jb (v := .slice (some ⟨sg, 0, none⟩) n n) rfl (jo 90 _ rfl p 0 rfl 92 _ (hw.has kp) (na90 _) _ rfl)
  case o8 => exact fun _ _ _ _ => jf (v := nK j) _ rfl rfl rfl
  case o9 => exact fun _ _ hw _ => jb (v := .pointer (some ⟨sg, j * 64, none⟩)) rfl (vx _ _ rfl sg n n j rfl rfl hjn _)
  case o10 => exact fun _ _ hw _ => jb (v := .slice (some ⟨sg, j * 64, none⟩) 64 64) rfl (vy _ rfl _ _ rfl _)
  intro ptrs w4 GD hxE
  simp only [List.drop_succ_cons, List.drop_zero]
  replace kp := GD.has kp
  replace ksg := GD.has ksg
  replace kg := GD.has kg
  replace GG := GG.drew.trans GD
  clear GD
  refine uY bT 25 rfl rfl _ _ rfl g (j * 64) (n * 64 - j * 64) (n * 64 - j * 64) rfl kg rfl (zZ H.len hjn) (ZV ksg (yb H.len hjn) (Nat.le_refl _) H.byte) (List.take_of_length_le (by rw [zZ H.len hjn]; omega)) (by rw [Ka H.len hj]; omega) ?_
  intro w5 St
  replace kp := St.has (by omega) kp
  replace ksg := St.has (by omega) ksg
  replace GG := GG.store St bg
  replace kg := St.new
  clear St
  rw [Qz H.len hjn] at kg
  refine nq ?_
  refine qN (zb (jC (qG (sv (nK (j + 1)) (jp _ _ _ rfl ((j : Nat) : Int) 1 _ rfl rfl (by omega) (by have := H.le; omega) (by have := H.le; omega) _) rfl (mv (nK (j + 1)) rfl (nq ?_))))))
  refine qL ?_
  exact ⟨_, (by omega : n - (j + 1) < n - j), j + 1, nK j, vT, nK j, .slice (some ⟨g, 0, none⟩) (n * 64) (n * 64), nK j, nK (j * 64), .slice (some ⟨g, j * 64, none⟩) (n * 64 - j * 64) (n * 64 - j * 64), vP p 0, vP p 0, vP p 0, .slice (some ⟨sg, 0, none⟩) n n, nK j, .pointer (some ⟨sg, j * 64, none⟩), .slice (some ⟨sg, j * 64, none⟩) 64 64, iK (((secL L j).length : Nat) : Int), nK (j + 1), rfl, rfl, hjn, GG, kp, ksg, kg⟩
theorem of_ok (w : World) (ao : Option Addr) (cap : Nat) (l : List Nat) (HB : NC w .u8 ao cap l) (n : Nat) (hln : l.length = n * 64) (hn : n ≤ 4096) : Calls Tryz.prog 22 #[.slice ao l.length cap] w fun e w' => ∃ p sg, e = .returned (.tuple #[vP p 0, iK 0]) ∧ Gro w w' ∧ w.heap.size ≤ p ∧ w.heap.size ≤ sg ∧ DK w' p sg n l (-1) 0 := by
  refine eN func22 rfl ntmps22 [.slice ao l.length cap] ?_
  have GG := Gro.refl w
  have HN := HB
  have hl : l.length < 9223372036854775808 := by omega
  refine qE (qG (mv (.pointer none) rfl (mv (iK 0) rfl (nq ?_))))
  refine qL (qE (qG (mv (.slice ao l.length cap) rfl (sv (nK l.length) (js underlying27 _ rfl _ _ _ rfl _) rfl (sv (nK n) (zn _ _ _ rfl ((l.length : Nat) : Int) 64 _ rfl rfl (by decide) ((tdivN _ 64).trans (by omega)) (by omega) (by omega) _) rfl (mv (nK n) rfl (nq ?_)))))))
  refine qL (qE (qE ?_))
  refine jg ?_
  intro OPS hY
  have y4 := hY 4 14 rfl
  clear hY
  refine mv (.slice ao l.length cap) rfl (sv (nK l.length) (js underlying27 _ rfl _ _ _ rfl _) rfl (sv (iK ((l.length % 64 : Nat) : Int)) (ut _ _ _ rfl ((l.length : Nat) : Int) 64 _ rfl rfl (by decide) (tmodN _ 64) (by omega) (by omega) _) rfl (sv (vF) (jj 3 .i64 _ _ _ rfl underlying3 ((l.length % 64 : Nat) : Int) 0 rfl rfl false (by first | exact decide_eq_true (by omega) | exact decide_eq_false (by omega)) _) rfl (mv (vF) rfl (jd 15 rfl rfl y4 rfl (nK n) (rfl) ?_)))))
  refine nq ?_
  refine jd 16 rfl rfl y4 rfl (vF) (jy 3 _ _ _ rfl ((n : Nat) : Int) 4096 rfl rfl false (decide_eq_false (by omega)) _) (mv (vF) rfl (nq ?_))
  refine qL (qF rfl (qK (qE (qG (mv (nK n) rfl (nq ?_))))))
  have HC := QX w ((n : Nat) : Int)
  rw [clN_nat n hn] at HC
  refine jq 19 rfl rfl _ 23 call23 rfl rfl _ rfl [nK n] rfl HC (fun _ _ ⟨_, _, he, _⟩ => ⟨_, he⟩) ?_
  rintro v w1 ⟨p, sg, he, G, bp, bsg, HD⟩
  cases he
  clear HC
  replace bp := Nat.le_trans GG.size bp
  replace bsg := Nat.le_trans GG.size bsg
  replace HN := HN.gro G
  replace GG := GG.trans G
  clear G
  refine nq ?_
  have kp := HD.box
  have ksg := HD.sec
  have hne := HD.ne
  clear HD
  refine mv (vP p 0) rfl (nq ?_)
  refine qL (qE (qE (qG (mv (vP p 0) rfl (sv (vP p 0) (jl _ rfl _ rfl) rfl (sv (vP p 0) (je 92 _ 0 rfl _ _ rfl _ (by kernel_rfl)) rfl (sv (.slice (some ⟨sg, 0, none⟩) n n) (jo 90 _ rfl p 0 rfl 92 _ kp (na90 _) _ rfl) rfl (sv (nK n) (js underlying90 _ rfl _ _ _ rfl _) rfl (mv (iK 0) rfl ?_)))))))))
  refine nq ?_
  refine qL (qB ?_)
  refine jO (fun m a wv => ∃ (j : Nat) (u6 u26 u27 u28 u29 u30 u31 u32 u33 u34 u35 u36 u37 u38 u39 u40 : Value), m = n - j ∧ a = ⟨[.slice ao l.length cap, uD, .pointer none, iK 0, nK n, vP p 0, u6, .slice ao l.length cap, nK l.length, nK n, .slice ao l.length cap, nK l.length, iK ((l.length % 64 : Nat) : Int), vF, vF, nK n, vF, vF, nK n, vP p 0, vP p 0, vP p 0, vP p 0, .slice (some ⟨sg, 0, none⟩) n n, nK n, nK j, u26, u27, u28, u29, u30, u31, u32, u33, u34, u35, u36, u37, u38, u39, u40, uD].toArray, []⟩ ∧ j ≤ n ∧ Gro w wv ∧ wv.heap[p]? = some (.cells (c92 ⟨some ⟨sg, 0, none⟩, n, n⟩ (-1) 0) 92 (0, 0)) ∧ wv.heap[sg]? = some (.cells (bv (l.take (j * 64) ++ zs (n * 64 - j * 64))) 89 (0, 0))) ?_ _ ⟨0, uD, uD, uD, uD, uD, uD, uD, uD, uD, uD, uD, uD, uD, uD, uD, uD, rfl, rfl, Nat.zero_le _, GG, kp, by rw [← VA]; exact ksg⟩
  clear kp ksg GG
  rintro m a wv ⟨j, u6, u26, u27, u28, u29, u30, u31, u32, u33, u34, u35, u36, u37, u38, u39, u40, rfl, rfl, hj, GG, kp, ksg⟩
  clear HN
  have HN := HB.gro GG
  refine qS ?_
  obtain ⟨p1, hp1⟩ : ∃ p, decide (((j : Nat) : Int) < ((n : Nat) : Int)) = p := ⟨_, rfl⟩
  refine sv (.bool p1) (jv 3 _ _ _ rfl ((j : Nat) : Int) ((n : Nat) : Int) rfl rfl p1 hp1 _) rfl (nq ?_)
  cases p1
  have hjn : j = n := by have := of_decide_eq_false hp1; omega
  refine qL (qE (qF rfl (wp_exit (jG (jG (zp (jC (qE (qG (mv (vP p 0) rfl (mv (vP p 0) rfl (mv (iK 0) rfl (nq ?_)))))))))))))
  refine qL (qR ?_)
  refine bodyPost_ret (results_tmp2 results22 _ _ _) rfl ?_
  subst hjn
  rw [QA hln] at ksg
  exact ⟨p, sg, rfl, GG, bp, bsg, kp, ksg, hln, hn, HB.lt256, hne⟩
  have hjn : j < n := by have := of_decide_eq_true hp1; omega
  refine qL (qE (qT rfl (qK (qE (qB (qE (qG (mv (nK j) rfl (mv (nK j) rfl (nq ?_))))))))))
  refine qL ?_
  refine jQ (A := ?A) 11 [(0, 28), (1, 29), (2, 30), (3, 31), (4, 32), (5, 33), (6, 34), (7, 35), (8, 36), (9, 37), (10, 38)] [.val (vP p 0), .val (vP p 0), .val (vP p 0), .val (.slice (some ⟨sg, 0, none⟩) n n), .val (nK j), .val (.pointer (some ⟨sg, j * 64, none⟩)), .val (.slice (some ⟨sg, j * 64, none⟩) 64 64), .val (.slice ao l.length cap), .val (nK j), .val (nK (j * 64)), .val (.slice (if cap = j * 64 then ao else ao.map (·.add (j * 64))) (l.length - j * 64) (cap - j * 64))] follows (by kernel_rfl) rfl ?hA (ja ?o0 (ja ?o1 (ja ?o2 (ja ?o3 (ja ?o4 (ja ?o5 (ja ?o6 (ja ?o7 (ja ?o8 (ja ?o9 (ja ?o10 jD))))))))))) ?rest
  case hA =>
    intro ptrs
    simp only [full, foldSlots, filledE, postE, List.foldl_cons, List.foldl_nil, List.getD_cons_zero, List.getD_cons_succ, zu, List.set_cons_zero, List.set_cons_succ]
    exact rfl
  case o0 => exact fun _ _ _ _ => jf (v := vP p 0) _ rfl rfl rfl
  case o1 => exact fun _ _ hw _ => jb (v := vP p 0) rfl (jl _ rfl _ rfl)
  case o2 => exact fun _ _ hw _ => jb (v := vP p 0) rfl (je 92 _ 0 rfl _ _ rfl _ (by kernel_rfl))
  case o3 => exact fun _ _ hw _ => jb (v := .slice (some ⟨sg, 0, none⟩) n n) rfl (jo 90 _ rfl p 0 rfl 92 _ (hw.has kp) (na90 _) _ rfl)
  case o4 => exact fun _ _ _ _ => jf (v := nK j) _ rfl rfl rfl
  case o5 => exact fun _ _ hw _ => jb (v := .pointer (some ⟨sg, j * 64, none⟩)) rfl (vx _ _ rfl sg n n j rfl rfl hjn _)
  case o6 => exact fun _ _ hw _ => jb (v := .slice (some ⟨sg, j * 64, none⟩) 64 64) rfl (vy _ rfl _ _ rfl _)
  case o7 => exact fun _ _ _ _ => jf (v := .slice ao l.length cap) _ rfl rfl rfl
  case o8 => exact fun _ _ _ _ => jf (v := nK j) _ rfl rfl rfl
  case o9 => exact fun _ _ hw _ => jb (v := nK (j * 64)) rfl (zd _ _ _ rfl ((j : Nat) : Int) 64 _ rfl rfl (by omega) (by omega) (by omega) _)
  case o10 => exact fun _ _ hw _ => jb (v := .slice (if cap = j * 64 then ao else ao.map (·.add (j * 64))) (l.length - j * 64) (cap - j * 64)) rfl (Jn bT _ _ rfl ao l.length cap (j * 64) rfl rfl (by omega) _)
  intro ptrs w2 GD hxE
  simp only [List.drop_succ_cons, List.drop_zero]
  replace kp := GD.has kp
  replace ksg := GD.has ksg
  replace HN := HN.gro ((Gro.refl _).drew.trans GD)
  replace GG := GG.drew.trans GD
  clear GD
  refine uY bT 39 rfl rfl _ _ rfl sg (j * 64) 64 64 rfl ksg rfl (List.length_drop) (HN.drop (j * 64) (by omega)) rfl (by rw [Ka hln (Nat.le_of_lt hjn)]; omega) ?_
  intro w3 St
  replace kp := St.has (by omega) kp
  replace HN := HB.gro GG
  replace GG := GG.store St bsg
  replace ksg := St.new
  clear St
  rw [UJ hln hjn] at ksg
  refine nq ?_
  refine qN (zb (jC (qG (sv (nK (j + 1)) (jp _ _ _ rfl ((j : Nat) : Int) 1 _ rfl rfl (by omega) (by omega) (by omega) _) rfl (mv (nK (j + 1)) rfl (nq ?_))))))
  refine qL ?_
  exact ⟨_, (by omega : n - (j + 1) < n - j), j + 1, nK j, vT, nK j, vP p 0, vP p 0, vP p 0, .slice (some ⟨sg, 0, none⟩) n n, nK j, .pointer (some ⟨sg, j * 64, none⟩), .slice (some ⟨sg, j * 64, none⟩) 64 64, .slice ao l.length cap, nK j, nK (j * 64), .slice (if cap = j * 64 then ao else ao.map (·.add (j * 64))) (l.length - j * 64) (cap - j * 64), iK (((secL l j).length : Nat) : Int), nK (j + 1), rfl, rfl, hjn, GG, kp, ksg⟩
end Go.Proofs.YtgfnjekpafempaaGreat
