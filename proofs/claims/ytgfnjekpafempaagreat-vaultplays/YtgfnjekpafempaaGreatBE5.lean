import Derived.Test.YtgfnjekpafempaaGreatBE4
import Derived.Test.YtgfnjekpafempaaGreatBAb
namespace Go.Proofs.YtgfnjekpafempaaGreat
open Go.Proofs.Tryz
set_option maxHeartbeats 4000000
set_option maxRecDepth 100000
open Go.RowKit
theorem KJ {P : Program} {o : Oper} {A : Act} (t t2 : TypeId) (x y : Operand) (ho : o.op = .binOp .shr t x y t2) (n : Nat) (ky : IntKind) (hx : A.eval x = .int .i64 (n : Int)) (hy : A.eval y = .int ky 8) (w : World) : (execOp A.eval o).run P w = .ok (.value (.int .i64 ((n / 256 : Nat) : Int))) w := by
  refine jF .shr t x y t2 ho _ _ _ hx hy (by simp [eqGuard]) ?_
  have h2 : min 8 IntKind.i64.bits = 8 := rfl
  simp [binOp, Op.shift, h2]
  exact Int.fdiv_eq_ediv_of_nonneg _ (by decide)
theorem conv35m {o : Oper} {A : Act} (x : Operand) (ho : o.op = .convert 3 5 x) (n : Nat) (hx : A.eval x = .int .i64 (n : Int)) (w : World) : (execOp A.eval o).run Tryz.prog w = .ok (.value (.int .u8 ((n % 256 : Nat) : Int))) w := by
  have h : IntKind.u8.wrap (n : Int) = ((n % 256 : Nat) : Int) := by
    simp [IntKind.wrap, IntKind.bits, IntKind.signed]
  unfold execOp
  simp only [ho, hx]
  simp [go_sem, h]
theorem Ys {P : Program} {o : Oper} {A : Act} (t t2 : TypeId) (x y : Operand) (ho : o.op = .binOp .rem t x y t2) (a : Nat) (hx : A.eval x = .int .u64 (a : Int)) (hy : A.eval y = .int .u64 2) (w : World) : (execOp A.eval o).run P w = .ok (.value (.int .u64 ((a % 2 : Nat) : Int))) w := by
  refine jF .rem t x y t2 ho _ _ _ hx hy (by simp [eqGuard]) ?_
  have : (a : Int).tmod 2 = ((a % 2 : Nat) : Int) := tmodN a 2
  simp [binOp, Op.intDiv, this]
theorem jad {l : List Nat} (h : l.length = 64) : padS l = l := by
  rw [padS, h]
  simp [zs]
theorem jcr {l : List Nat} {K : Nat} (hK : l.length + 2 ≤ K) (hk : K = secN l.length * 64) : wr (((zs K).set 0 (l.length / 256)).set 1 (l.length % 256)) 2 l = recW l := by
  subst hk
  obtain ⟨m, hm⟩ : ∃ m, secN l.length * 64 = m + 2 := ⟨secN l.length * 64 - 2, by omega⟩
  have e : zs (m + 2) = 0 :: 0 :: zs m := rfl
  rw [recW, hm, e, List.set_cons_zero, List.set_cons_succ, List.set_cons_zero, wr]
  have e2 : (l.length / 256 :: l.length % 256 :: zs m).drop (2 + l.length) = zs (m - l.length) := by
    rw [Nat.add_comm, List.drop_succ_cons, List.drop_succ_cons]
    simp [zs]
  rw [e2]
  simp
theorem Zq (l : List Nat) (i x : Nat) : (l.set i x).length = l.length := List.length_set
theorem YM {L W : List Nat} {a j : Nat} (h : a * 64 + W.length ≤ L.length) (hj : (j + 1) * 64 ≤ W.length) : wr (wr L (a * 64) (W.take (j * 64))) ((a + j) * 64) ((W.drop (j * 64)).take 64) = wr L (a * 64) (W.take ((j + 1) * 64)) := by
  have l1 : (W.take (j * 64)).length = j * 64 := by rw [List.length_take]; omega
  have l2 : ((W.drop (j * 64)).take 64).length = 64 := by rw [List.length_take, List.length_drop]; omega
  have l3 : (L.take (a * 64)).length = a * 64 := by rw [List.length_take]; omega
  have e : W.take ((j + 1) * 64) = W.take (j * 64) ++ (W.drop (j * 64)).take 64 := by rw [Nat.add_mul, Nat.one_mul, List.take_add]
  have l4 : (L.take (a * 64) ++ W.take (j * 64)).length = (a + j) * 64 := by rw [List.length_append, l1, l3]; omega
  have f1 : wr L (a * 64) (W.take (j * 64)) = (L.take (a * 64) ++ W.take (j * 64)) ++ L.drop (a * 64 + j * 64) := by rw [wr, l1]
  rw [f1, wr, List.take_left' l4, l2, e, wr]
  have e5 : ((L.take (a * 64) ++ W.take (j * 64)) ++ L.drop (a * 64 + j * 64)).drop ((a + j) * 64 + 64) = L.drop (a * 64 + (W.take (j * 64) ++ (W.drop (j * 64)).take 64).length) := by
    rw [← List.drop_drop, List.drop_left' l4, List.drop_drop, List.length_append, l1, l2]
    congr 1 <;> omega
  rw [e5]
  simp
theorem YL (L : List Nat) (a : Nat) : wr L a [] = L := by simp [wr]
def PJ (pw : Int) (j : Nat) (pj : Int) : Prop := (pw = -1 ∧ pj = -1) ∨ (pj = pw - j ∧ (j : Int) ≤ pw)
theorem PJ.zero {pw : Int} (h : okP pw) : PJ pw 0 pw := by unfold PJ okP at *; omega
theorem PJ.next {pw pj : Int} {j : Nat} (h : PJ pw j pj) (h0 : pj ≠ 0) : PJ pw (j + 1) (if pj = -1 then -1 else pj - 1) := by
  unfold PJ at *
  split <;> omega
theorem PJ.may {pw pj : Int} {j : Nat} (h : PJ pw j pj) (h0 : pj ≠ 0) : pj = -1 ∨ 0 < pj := by unfold PJ at *; omega
theorem PJ.lt {pw pj : Int} {j : Nat} (h : PJ pw j pj) (hp : okP pw) : pj < 9223372036854775808 := by unfold PJ okP at *; omega
theorem PJ.ok {pw pj : Int} {j : Nat} (h : PJ pw j pj) (hp : okP pw) : okP pj := by unfold PJ okP at *; omega
def RecWP (w : World) (p sg n : Nat) (L : List Nat) (pw dn : Int) (a k : Nat) (l : List Nat) (e : Ending) (w' : World) : Prop :=
  ∃ j pj, e = .returned (.int .i64 (if j = k then 0 else 8)) ∧ GroS [p, sg] w w' ∧ j ≤ k ∧ PJ pw j pj ∧ (j = k ∨ pj = 0) ∧ DK w' p sg n (wr L (a * 64) ((recW l).take (j * 64))) pj (dn + j)
theorem UT {o : Oper} {A : Act} (x y : Operand) (ho : o.op = .index 131 x y) (a b c : Int) (hx : A.eval x = .agg #[.int .u64 a, .int .u64 b, .int .u64 c]) (j : Nat) (hj : j < 3) (hy : A.eval y = .int .i64 (j : Int)) (w : World) :
    (execOp A.eval o).run Tryz.prog w = .ok (.value (.int .u64 ([a, b, c].getD j 0))) w := by
  have h : (Instr.index 131 (.agg #[.int .u64 a, .int .u64 b, .int .u64 c]) (.int .i64 (j : Int))).run Tryz.prog w = .ok (.int .u64 ([a, b, c].getD j 0)) w := by
    rcases (by omega : j = 0 ∨ j = 1 ∨ j = 2) with rfl | rfl | rfl <;> kernel_rfl
  unfold execOp
  simp only [ho, hx, hy, Sem.run_bind, h, Result.andThen_ok, Sem.run_pure]
theorem nc_byte {w : World} {g y : Nat} (hg : w.heap[g]? = some (.cells #[.int .u8 (y : Int)] 5 (0, 0))) (hy : y < 256) : NC w .u8 (some ⟨g, 0, none⟩) 1 [y] :=
  ZV (L := [y]) (off := 0) (n := 1) (cap := 1) hg (by simp) (by decide) (by simpa using hy)
def nums (h : Hd) : List Nat := [h.g, h.u, h.c]
def preL (h : Hd) (j : Nat) : List Nat := ((nums h).take j).flatMap (beL 8)
theorem jdf {h : Hd} {j : Nat} (hj : j ≤ 3) : (preL h j).length = 8 * j := by
  match j, hj with
  | 0, _ => rfl
  | 1, _ => simp [preL, nums, jL]
  | 2, _ => simp [preL, nums, jL]
  | 3, _ => simp [preL, nums, jL]
theorem jaa {h : Hd} {j : Nat} (hj : j < 3) : preL h j ++ (beL 8 ((nums h).getD j 0)).take 8 = preL h (j + 1) := by
  rw [List.take_of_length_le (by rw [jL]; exact Nat.le_refl _)]
  match j, hj with
  | 0, _ => simp [preL, nums]
  | 1, _ => simp [preL, nums]
  | 2, _ => simp [preL, nums]
theorem jdg (h : Hd) : preL h 3 = hdL h := by simp [preL, nums, hdL]
theorem jdo {h : Hd} {j : Nat} (hj : j < 3) : ([(h.g : Int), (h.u : Int), (h.c : Int)].getD j 0) = (((nums h).getD j 0 : Nat) : Int) := by
  match j, hj with
  | 0, _ => rfl
  | 1, _ => rfl
  | 2, _ => rfl
theorem be_at {x i : Nat} (hi : i < 8) : x / 2 ^ (8 * (7 - i)) % 256 = (beL 8 x).getD i 0 := by
  rw [vn 8 x i hi, Nat.pow_mul]
theorem be_next {pre : List Nat} {x i : Nat} (hi : i < 8) : (pre ++ (beL 8 x).take i) ++ [(beL 8 x).getD i 0] = pre ++ (beL 8 x).take (i + 1) := by
  rw [yA _ 0 i (by rw [jL]; exact hi), List.append_assoc]
theorem Zj (w : World) (p sg n : Nat) (L : List Nat) (pw dn : Int) (H : DK w p sg n L pw dn) (hP : okP pw) (a k : Nat) (ao : Option Addr) (cap : Nat) (l : List Nat) (HB : BS [p, sg] w ao cap l) (hl : l.length ≤ 1024) (hk : k = secN l.length) (hkl : l.length + 2 ≤ k * 64) (hak : a + k ≤ n) (hd : 0 ≤ dn) (hd2 : dn < 9223372036854770000) : Calls Tryz.prog 51 #[vP p 0, nK a, nK k, .slice ao l.length cap] w (RecWP w p sg n L pw dn a k l) := by
  refine eN func51 rfl ntmps51 [vP p 0, nK a, nK k, .slice ao l.length cap] ?_
  have GG := GroS.refl [p, sg] w
  have hn4 := H.le
  have HD := H
  have HN := HB
  have hlp := ji H.box
  have hls := ji H.sec
  refine qE (qG (mv (iK 0) rfl (nq ?_)))
  refine qL (qE (qG (mv (nK k) rfl (sv (nK (k * 64)) (zd _ _ _ rfl ((k : Nat) : Int) 64 _ rfl rfl (by omega) (by omega) (by omega) _) rfl (nq ?_)))))
  refine ZI bT 14 rfl rfl _ _ rfl (k * 64) rfl rfl (by omega) (by simp only [maxLen]; omega) ?_
  intro w1 g G eg kg
  have bg := jN GG eg
  replace HD := HD.gro G
  replace HN := HN.gro G
  replace GG := GG.tg G
  clear G eg
  refine nq ?_
  refine mv (.slice (some ⟨g, 0, none⟩) (k * 64) (k * 64)) rfl (nq ?_)
  refine qL (qE (qG (mv (.slice (some ⟨g, 0, none⟩) (k * 64) (k * 64)) rfl (mv (.slice (some ⟨g, 0, none⟩) (k * 64) (k * 64)) rfl (mv (.slice ao l.length cap) rfl (sv (nK l.length) (js underlying27 _ rfl _ _ _ rfl _) rfl (sv (iK ((l.length / 256 : Nat) : Int)) (KJ 3 28 _ _ rfl l.length .u64 rfl rfl _) rfl (sv (.int .u8 ((l.length / 256 : Nat) : Int)) (conv35 _ rfl (l.length / 256) (by omega) rfl _) rfl ?_))))))))
  refine nq ?_
  refine mv (.slice ao l.length cap) rfl (sv (nK l.length) (js underlying27 _ rfl _ _ _ rfl _) rfl (sv (.int .u8 ((l.length % 256 : Nat) : Int)) (conv35m _ rfl l.length rfl _) rfl (sv (vP g 0) (bat _ _ rfl g (k * 64) (k * 64) 0 rfl rfl (by omega) _) rfl (nq ?_))))
  refine jE rfl rfl 5 _ _ rfl g 0 rfl (.int .u8 ((l.length / 256 : Nat) : Int)) rfl 5 _ kg #[.int .u8 ((l.length / 256 : Nat) : Int)] rfl si5 (by simp only [List.size_toArray, List.length_cons, List.length_nil, zE, zo]; omega) (one1 _) _ (Yj (zs (k * 64)) 0 (l.length / 256) (by simp only [zo]; omega)) ?_
  intro w2 St
  replace HD := HD.st St (by omega) (by omega)
  replace HN := HN.st St (fun ad ha h0 => by have := HB.nc.lt ad ha h0; omega)
  replace GG := GG.st St (.inl bg)
  replace kg := St.new
  clear St
  refine sv (vP g 1) (bat _ _ rfl g (k * 64) (k * 64) 1 rfl rfl (by omega) _) rfl (nq ?_)
  refine jE rfl rfl 5 _ _ rfl g 1 rfl (.int .u8 ((l.length % 256 : Nat) : Int)) rfl 5 _ kg #[.int .u8 ((l.length % 256 : Nat) : Int)] rfl si5 (by simp only [List.size_toArray, List.length_cons, List.length_nil, zE, Zq, zo]; omega) (one1 _) _ (Yj ((zs (k * 64)).set 0 (l.length / 256)) 1 (l.length % 256) (by simp only [Zq, zo]; omega)) ?_
  intro w3 St
  replace HD := HD.st St (by omega) (by omega)
  replace HN := HN.st St (fun ad ha h0 => by have := HB.nc.lt ad ha h0; omega)
  replace GG := GG.st St (.inl bg)
  replace kg := St.new
  clear St
  refine qL (qE (qG (mv (.slice (some ⟨g, 0, none⟩) (k * 64) (k * 64)) rfl (sv (.slice (some ⟨g, 2, none⟩) (k * 64 - 2) (k * 64 - 2)) (Qs _ _ rfl g (k * 64) 2 rfl rfl (by omega) _) rfl (mv (.slice ao l.length cap) rfl (nq ?_))))))
  refine uY bT 29 rfl rfl _ _ rfl g 2 (k * 64 - 2) (k * 64 - 2) rfl kg rfl (rfl) (HN.nc) (List.take_of_length_le (by omega)) (by rw [Zq, Zq, zo]; omega) ?_
  intro w4 St
  replace HD := HD.st St (by omega) (by omega)
  replace HN := HN.st St (fun ad ha h0 => by have := HB.nc.lt ad ha h0; omega)
  replace GG := GG.st St (.inl bg)
  replace kg := St.new
  clear St
  rw [jcr (by omega) (by rw [hk])] at kg
  refine nq ?_
  refine qL (qE (qE (qG (mv (nK k) rfl (mv (iK 0) rfl (nq ?_))))))
  refine qL (qB ?_)
  refine jO (fun mz az wv => ∃ (j : Nat) (pj : Int) (us1 : Nat → Value), mz = k - j ∧ az = ⟨[vP p 0, nK a, nK k, .slice ao l.length cap, uD, uD, uD, uD, us1 8, .slice (some ⟨g, 0, none⟩) (k * 64) (k * 64), us1 10, us1 11, nK k, nK (k * 64), .slice (some ⟨g, 0, none⟩) (k * 64) (k * 64), .slice (some ⟨g, 0, none⟩) (k * 64) (k * 64), .slice (some ⟨g, 0, none⟩) (k * 64) (k * 64), .slice ao l.length cap, nK l.length, iK ((l.length / 256 : Nat) : Int), .int .u8 ((l.length / 256 : Nat) : Int), .slice ao l.length cap, nK l.length, .int .u8 ((l.length % 256 : Nat) : Int), vP g 0, vP g 1, .slice (some ⟨g, 0, none⟩) (k * 64) (k * 64), .slice (some ⟨g, 2, none⟩) (k * 64 - 2) (k * 64 - 2), .slice ao l.length cap, nK l.length, nK k, nK j, us1 32, us1 33, us1 34, us1 35, us1 36, us1 37, us1 38, us1 39, us1 40, us1 41, us1 42, us1 43, us1 44, us1 45, us1 46, us1 47, us1 48, us1 49].toArray, []⟩ ∧ j ≤ k ∧ PJ pw j pj ∧ GroS [p, sg] w wv ∧ DK wv p sg n (wr L (a * 64) ((recW l).take (j * 64))) pj (dn + j) ∧ wv.heap[g]? = some (.cells (bv (recW l)) 5 (0, 0))) ?_ _ ⟨0, pw, usK ⟨Nat.zero_le _, PJ.zero hP, GG, (by simpa [YL] using HD), kg⟩⟩
  clear kg GG HD
  rintro mz az wv ⟨j, pj, us1, rfl, rfl, hj, hpj, GG, HD, kg⟩
  clear HN
  refine qS ?_
  obtain ⟨p1, hp1⟩ : ∃ p, decide (((j : Nat) : Int) < ((k : Nat) : Int)) = p := ⟨_, rfl⟩
  refine sv (.bool p1) (jv 3 _ _ _ rfl ((j : Nat) : Int) ((k : Nat) : Int) rfl rfl p1 hp1 _) rfl (nq ?_)
  cases p1
  have hjn : j = k := by have := of_decide_eq_false hp1; omega
  refine qL (qE (qF rfl (wp_exit (jG (jG (zp (jC (qE (qG (mv (iK 0) rfl (nq ?_)))))))))))
  refine qL (qR ?_)
  refine bodyPost_ret (results_tmp results51 _ _ _) rfl ?_
  exact ⟨j, pj, by rw [if_pos hjn]; rfl, GG, hj, hpj, .inl hjn, HD⟩
  have hjn : j < k := by have := of_decide_eq_true hp1; omega
  refine qL (qE (qT rfl (qK (qE (qB (qE (qG (mv (nK j) rfl (mv (nK j) rfl (nq ?_))))))))))
  refine qL (qE (qG (mv (vP p 0) rfl (mv (nK a) rfl (mv (nK j) rfl (sv (nK (a + j)) (jp _ _ _ rfl ((a : Nat) : Int) ((j : Nat) : Int) _ rfl rfl (by omega) (by omega) (by omega) _) rfl (mv (.slice (some ⟨g, 0, none⟩) (k * 64) (k * 64)) rfl (mv (nK j) rfl ?_))))))))
  refine nq ?_
  refine sv (nK (j * 64)) (zd _ _ _ rfl ((j : Nat) : Int) 64 _ rfl rfl (by omega) (by omega) (by omega) _) rfl (mv (nK j) rfl (sv (nK (j + 1)) (jp _ _ _ rfl ((j : Nat) : Int) 1 _ rfl rfl (by omega) (by omega) (by omega) _) rfl (sv (nK (j * 64 + 64)) (zd _ _ _ rfl ((j + 1 : Nat) : Int) 64 _ rfl rfl (by omega) (by omega) (by omega) _) rfl (sv (.slice (some ⟨g, j * 64, none⟩) 64 (k * 64 - j * 64)) (cut2_at _ _ _ rfl g (k * 64) (j * 64) 64 rfl rfl rfl (by omega) (by omega) _) rfl (nq ?_)))))
  have hcl : (((recW l).drop (j * 64)).take 64).length = 64 := by rw [List.length_take, List.length_drop, zF]; omega
  have hncw := ZV (off := j * 64) (n := 64) (cap := k * 64 - j * 64) kg (by rw [zF]; omega) (by omega) (KW HB.nc.lt256 hl)
  by_cases h0 : pj = 0
  have HX := ZC _ p sg n _ _ _ HD h0 (some ⟨g, j * 64, none⟩) (k * 64 - j * 64) (((recW l).drop (j * 64)).take 64) (a + j) (by omega) (by omega)
  rw [hcl] at HX
  refine jr 45 rfl rfl _ 72 call72 rfl rfl _ rfl [vP p 0, nK (a + j), .slice (some ⟨g, j * 64, none⟩) 64 (k * 64 - j * 64)] rfl (HX) ?_
  intro w5 G
  replace kg := G.has kg
  replace HD := HD.gro G
  replace GG := GG.tg G
  clear G
  refine nq ?_
  clear HX
  refine mv (iK 8) rfl (nq ?_)
  refine qL (qE (qG (mv (iK 8) rfl (sv (vT) (jj 31 .i64 _ _ _ rfl underlying31 _ _ rfl rfl true rfl _) rfl (nq ?_)))))
  refine qL (qT rfl (qE (qG (mv (iK 8) rfl (mv (iK 8) rfl (nq ?_))))))
  refine qL (qR (ze (jm (jm (ze (jm ?_))))))
  refine bodyPost_ret (results_tmp results51 _ _ _) rfl ?_
  exact ⟨j, pj, by rw [if_neg (by omega)]; rfl, GG, hj, hpj, .inr h0, HD⟩
  have HX := Vz _ p sg n _ _ _ HD (some ⟨g, j * 64, none⟩) (k * 64 - j * 64) (((recW l).drop (j * 64)).take 64) ⟨hncw, fun ad ha _ => by cases ha; simp; omega⟩ (a + j) (by omega) (by omega) (hpj.may h0) (hpj.lt hP) (by omega) (by omega)
  rw [hcl] at HX
  refine jq 45 rfl rfl _ 72 call72 rfl rfl _ rfl [vP p 0, nK (a + j), .slice (some ⟨g, j * 64, none⟩) 64 (k * 64 - j * 64)] rfl (HX) (fun _ _ ⟨he, _⟩ => ⟨_, he⟩) ?_
  rintro v w5 ⟨he, G, HD2⟩
  cases he
  rw [jad hcl, YM (by rw [zF, H.len]; omega) (by rw [zF]; omega), show dn + (j : Int) + 1 = dn + ((j + 1 : Nat) : Int) by omega] at HD2
  replace kg := G.has kg (by simp; omega)
  replace GG := GG.trans G
  clear G HD HX
  have HD := HD2
  clear HD2
  refine nq ?_
  refine mv (iK 0) rfl (nq ?_)
  refine qL (qE (qG (mv (iK 0) rfl (sv (vF) (jj 31 .i64 _ _ _ rfl underlying31 _ _ rfl rfl false rfl _) rfl (nq ?_)))))
  refine qL (qF rfl (wp_skip (zb (jC (qG (sv (nK (j + 1)) (jp _ _ _ rfl ((j : Nat) : Int) 1 _ rfl rfl (by omega) (by omega) (by omega) _) rfl (mv (nK (j + 1)) rfl (nq ?_))))))))
  refine qL ?_
  exact ⟨_, (by omega : k - (j + 1) < k - j), j + 1, _, usK ⟨hjn, hpj.next h0, GG, HD, kg⟩⟩
def HeadP (w : World) (p sg n : Nat) (L : List Nat) (pw dn : Int) (h : Hd) (e : Ending) (w' : World) : Prop :=
  ∃ b : Bool, e = .returned (.int .i64 (bif b then 0 else 8)) ∧ GroS [p, sg] w w' ∧ (match b with
    | true => pw ≠ 0 ∧ (0 : Nat) = 0
    | false => (0 : Nat) = 0 ∧ pw = 0) ∧ (match b with
    | true => DK w' p sg n (wr L (h.g % 2 * 64) (padS (hdL h))) (if pw = -1 then -1 else pw - 1) (dn + 1)
    | false => DK w' p sg n L pw dn)
theorem Qo {S : List Nat} {w a b : World} : Below w.heap.size a b → GroS S w a → GroS S w b := fun BB h => ⟨BB.os.trans h.os, BB.tape.trans h.tape, BB.output.trans h.output, Nat.le_trans h.size BB.size, fun k hk hn => (BB.block k hk).trans (h.old k hk hn)⟩
theorem Yn (w : World) (p sg n : Nat) (L : List Nat) (pw dn : Int) (H : DK w p sg n L pw dn) (hP : okP pw) (h : Hd) (_hg : h.g < lim) (_hu : h.u < lim) (_hc : h.c < lim) (hn : 2 ≤ n) (hd : 0 ≤ dn) (hd2 : dn < 9223372036854770000) : Calls Tryz.prog 52 #[vP p 0, .agg (c101 ((h.g : Nat) : Int) ((h.u : Nat) : Int) ((h.c : Nat) : Int))] w (HeadP w p sg n L pw dn h) := by
  refine eN func52 rfl ntmps52 [vP p 0, .agg (c101 ((h.g : Nat) : Int) ((h.u : Nat) : Int) ((h.c : Nat) : Int))] ?_
  have GG := GroS.refl [p, sg] w
  have hn4 := H.le
  have HD := H
  have hlp := ji H.box
  have hls := ji H.sec
  refine qS ?_
  refine jW 3 rfl rfl 101 _ rfl _ rfl (c101 ((h.g : Nat) : Int) ((h.u : Nat) : Int) ((h.c : Nat) : Int)) rfl ?_
  intro w1 g1 G eg1 kg1
  have bg1 := jN GG eg1
  replace HD := HD.gro G
  replace GG := GG.tg G
  clear G eg1
  refine nq ?_
  refine mv (iK 0) rfl (nq ?_)
  refine qA ?_
  refine s_mk0 bT 9 rfl rfl _ _ rfl 24 rfl rfl (by omega) (by simp only [maxLen]; omega) ?_
  intro w2 g0 G eg0 HO
  have dg1 := jn kg1 eg0
  have bg0 := jN GG eg0
  have hgs := Nat.le_of_lt (HO.ge _ rfl).2
  clear eg0
  replace kg1 := G.has kg1
  replace HD := HD.gro G
  replace GG := GG.tg G
  clear G
  refine nq ?_
  refine mv (.slice (some ⟨g0, 0, none⟩) (([] : List Nat).length) 24) rfl (nq ?_)
  refine qL (qE (qE (qG (sv (vP g1 0) (je 101 _ 0 rfl _ _ rfl _ (by kernel_rfl)) rfl (sv (.int .u64 ((h.g : Nat) : Int)) (jo 64 _ rfl g1 0 rfl 101 _ kg1 (na64 _) _ rfl) rfl (sv (vP g1 1) (je 101 _ 1 rfl _ _ rfl _ (by kernel_rfl)) rfl (sv (.int .u64 ((h.u : Nat) : Int)) (jo 64 _ rfl g1 1 rfl 101 _ kg1 (na64 _) _ rfl) rfl (sv (vP g1 2) (je 101 _ 2 rfl _ _ rfl _ (by kernel_rfl)) rfl (sv (.int .u64 ((h.c : Nat) : Int)) (jo 64 _ rfl g1 2 rfl 101 _ kg1 (na64 _) _ rfl) rfl ?_)))))))))
  refine nq ?_
  refine sv (.agg #[.int .u64 ((h.g : Nat) : Int), .int .u64 ((h.u : Nat) : Int), .int .u64 ((h.c : Nat) : Int)]) (jK 131 _ rfl [(0, .int .u64 ((h.g : Nat) : Int)), (1, .int .u64 ((h.u : Nat) : Int)), (2, .int .u64 ((h.c : Nat) : Int))] rfl _ (by kernel_rfl)) rfl (mv (iK 0) rfl (nq ?_))
  refine qL (qB ?_)
  refine jO (fun mz az wv => ∃ (j : Nat) (ao : Option Addr) (cap : Nat) (ls : List Nat) (us1 : Nat → Value), mz = 3 - j ∧ az = ⟨[vP p 0, .agg (c101 ((h.g : Nat) : Int) ((h.u : Nat) : Int) ((h.c : Nat) : Int)), uD, vP g1 0, iK 0, .slice ao ls.length cap, uD, us1 7, us1 8, .slice (some ⟨g0, 0, none⟩) (([] : List Nat).length) 24, vP g1 0, .int .u64 ((h.g : Nat) : Int), vP g1 1, .int .u64 ((h.u : Nat) : Int), vP g1 2, .int .u64 ((h.c : Nat) : Int), .agg #[.int .u64 ((h.g : Nat) : Int), .int .u64 ((h.u : Nat) : Int), .int .u64 ((h.c : Nat) : Int)], nK j, us1 18, us1 19, us1 20, us1 21, us1 22, us1 23, us1 24, us1 25, us1 26, us1 27, us1 28, us1 29, us1 30, us1 31, us1 32, us1 33, uD, uD, uD, uD, uD, uD, uD].toArray, []⟩ ∧ j ≤ 3 ∧ ls = preL h j ∧ GroS [p, sg] w wv ∧ DK wv p sg n L pw dn ∧ OB wv 5 .u8 g0 ao cap ls ∧ wv.heap[g1]? = some (.cells (c101 ((h.g : Nat) : Int) ((h.u : Nat) : Int) ((h.c : Nat) : Int)) 101 (0, 0)) ∧ g0 ≤ wv.heap.size) ?_ _ ⟨0, _, _, [], usK ⟨Nat.zero_le _, rfl, GG, HD, HO, kg1, hgs⟩⟩
  clear kg1 GG HD HO
  rintro mz az wv ⟨j, ao, cap, ls, us1, rfl, rfl, hj, hls1, GG, HD, HO, kg1, hgs⟩
  refine qS ?_
  obtain ⟨p1, hp1⟩ : ∃ p, decide (((j : Nat) : Int) < 3) = p := ⟨_, rfl⟩
  refine sv (.bool p1) (jv 3 _ _ _ rfl ((j : Nat) : Int) 3 rfl rfl p1 hp1 _) rfl (nq ?_)
  cases p1
  have hjn : j = 3 := by have := of_decide_eq_false hp1; omega
  subst hjn
  rw [jdg] at hls1
  refine qL (qE (qF rfl (wp_exit (jG (jG (zp (jC (qE (qG (mv (vP p 0) rfl (sv (vP g1 0) (je 101 _ 0 rfl _ _ rfl _ (by kernel_rfl)) rfl (sv (.int .u64 ((h.g : Nat) : Int)) (jo 64 _ rfl g1 0 rfl 101 _ kg1 (na64 _) _ rfl) rfl (sv (.int .u64 ((h.g % 2 : Nat) : Int)) (Ys 64 64 _ _ rfl h.g rfl rfl _) rfl (sv (iK ((h.g % 2 : Nat) : Int)) (conv253 _ rfl (h.g % 2) (by omega) rfl _) rfl (mv (.slice ao ls.length cap) rfl ?_)))))))))))))))
  refine nq ?_
  have h24 : ls.length = 24 := by rw [hls1]; exact JF h
  by_cases h0 : pw = 0
  refine jr 40 rfl rfl _ 72 call72 rfl rfl _ rfl [vP p 0, iK ((h.g % 2 : Nat) : Int), .slice ao ls.length cap] rfl (ZC _ p sg n _ _ _ HD h0 ao cap ls (h.g % 2) (by omega) (by omega)) ?_
  intro w3 G
  replace kg1 := G.has kg1
  replace HD := HD.gro G
  replace HO := HO.gro G
  replace GG := GG.tg G
  clear G
  refine nq ?_
  refine mv (iK 8) rfl (nq ?_)
  refine qL (qR ?_)
  refine bodyPost_ret (results_tmp results52 _ _ _) rfl ?_
  exact ⟨false, rfl, GG, ⟨rfl, h0⟩, HD⟩
  have HX := Vz _ p sg n _ _ _ HD ao cap ls ⟨HO.nc, fun ad ha _ => by have := HO.ge ad ha; simp; omega⟩ (h.g % 2) (by omega) (by omega) (by unfold okP at hP; omega) hP.2 hd (by omega)
  refine jq 40 rfl rfl _ 72 call72 rfl rfl _ rfl [vP p 0, iK ((h.g % 2 : Nat) : Int), .slice ao ls.length cap] rfl (HX) (fun _ _ ⟨he, _⟩ => ⟨_, he⟩) ?_
  rintro v w3 ⟨he, G, HD2⟩
  cases he
  rw [hls1] at HD2
  replace GG := GG.trans G
  clear G HD HX
  have HD := HD2
  clear HD2
  refine nq ?_
  refine mv (iK 0) rfl (nq ?_)
  refine qL (qR ?_)
  refine bodyPost_ret (results_tmp results52 _ _ _) rfl ?_
  exact ⟨true, rfl, GG, ⟨h0, rfl⟩, HD⟩
  have hjn : j < 3 := by have := of_decide_eq_true hp1; omega
  refine qL (qE (qT rfl (qK (qE (qB (qE (qG (sv (.int .u64 ((((nums h).getD j 0) : Nat) : Int)) ((UT _ _ rfl ((h.g : Nat) : Int) ((h.u : Nat) : Int) ((h.c : Nat) : Int) rfl j hjn rfl _).trans (by rw [jdo hjn])) rfl (mv (.int .u64 ((((nums h).getD j 0) : Nat) : Int)) rfl (nq ?_))))))))))
  refine qL (qE (qG (mv (iK 0) rfl (nq ?_))))
  refine qL (qB ?_)
  refine jO (fun mz az wv => ∃ (i : Nat) (ao : Option Addr) (cap : Nat) (ls : List Nat) (us2 : Nat → Value), mz = 8 - i ∧ az = ⟨[vP p 0, .agg (c101 ((h.g : Nat) : Int) ((h.u : Nat) : Int) ((h.c : Nat) : Int)), uD, vP g1 0, iK 0, .slice ao ls.length cap, uD, .int .u64 ((((nums h).getD j 0) : Nat) : Int), us2 8, .slice (some ⟨g0, 0, none⟩) (([] : List Nat).length) 24, vP g1 0, .int .u64 ((h.g : Nat) : Int), vP g1 1, .int .u64 ((h.u : Nat) : Int), vP g1 2, .int .u64 ((h.c : Nat) : Int), .agg #[.int .u64 ((h.g : Nat) : Int), .int .u64 ((h.u : Nat) : Int), .int .u64 ((h.c : Nat) : Int)], nK j, vT, .int .u64 ((((nums h).getD j 0) : Nat) : Int), nK i, us2 21, us2 22, us2 23, us2 24, us2 25, us2 26, us2 27, us2 28, us2 29, us2 30, us2 31, us2 32, us1 33, uD, uD, uD, uD, uD, uD, uD].toArray, []⟩ ∧ i ≤ 8 ∧ ls = preL h j ++ (beL 8 ((nums h).getD j 0)).take i ∧ GroS [p, sg] w wv ∧ DK wv p sg n L pw dn ∧ OB wv 5 .u8 g0 ao cap ls ∧ wv.heap[g1]? = some (.cells (c101 ((h.g : Nat) : Int) ((h.u : Nat) : Int) ((h.c : Nat) : Int)) 101 (0, 0)) ∧ g0 ≤ wv.heap.size) ?_ _ ⟨0, _, _, _, usK ⟨Nat.zero_le _, (by rw [hls1]; simp), GG, HD, HO, kg1, hgs⟩⟩
  clear kg1 GG HD HO
  rintro mz az wv ⟨i, ao, cap, ls, us2, rfl, rfl, hi, hls2, GG, HD, HO, kg1, hgs⟩
  have hpl := jdf (h := h) hj
  refine qS ?_
  obtain ⟨p2, hp2⟩ : ∃ p, decide (((i : Nat) : Int) < 8) = p := ⟨_, rfl⟩
  refine sv (.bool p2) (jv 3 _ _ _ rfl ((i : Nat) : Int) 8 rfl rfl p2 hp2 _) rfl (nq ?_)
  cases p2
  have hin : i = 8 := by have := of_decide_eq_false hp2; omega
  refine qL (qE (qF rfl (wp_exit (jG (jG (zp (zb (jC (qG (sv (nK (j + 1)) (jp _ _ _ rfl ((j : Nat) : Int) 1 _ rfl rfl (by omega) (by omega) (by omega) _) rfl (mv (nK (j + 1)) rfl (nq ?_))))))))))))
  refine qL ?_
  exact ⟨_, (by omega : 3 - (j + 1) < 3 - j), j + 1, _, _, _, usK ⟨hjn, (by rw [hls2, hin]; exact jaa hjn), GG, HD, HO, kg1, hgs⟩⟩
  have hin : i < 8 := by have := of_decide_eq_true hp2; omega
  refine qL (qE (qT rfl (qK (qE (qB (qE (qG (mv (nK i) rfl (mv (nK i) rfl (nq ?_))))))))))
  refine qL (qG (mv (.slice ao ls.length cap) rfl (mv (.int .u64 ((((nums h).getD j 0) : Nat) : Int)) rfl (mv (nK i) rfl (sv (nK (7 - i)) (jP _ _ _ rfl 7 ((i : Nat) : Int) _ rfl rfl (by omega) (by omega) (by omega) _) rfl (sv (iK ((8 * (7 - i) : Nat) : Int)) (zd _ _ _ rfl 8 ((7 - i : Nat) : Int) _ rfl rfl (by omega) (by omega) (by omega) _) rfl (sv (.int .u64 (((((nums h).getD j 0) / 2 ^ (8 * (7 - i)) : Nat) : Int))) (yL 64 3 _ _ rfl ((nums h).getD j 0) (8 * (7 - i)) .i64 rfl rfl (by omega) _ rfl _) rfl ?_)))))))
  refine nq ?_
  refine sv (.int .u8 ((((beL 8 ((nums h).getD j 0)).getD i 0) : Nat) : Int)) (conv255 _ rfl (((nums h).getD j 0) / 2 ^ (8 * (7 - i))) ((beL 8 ((nums h).getD j 0)).getD i 0) (be_at hin) rfl _) rfl (nq ?_)
  refine ye 30 rfl rfl 27 1 _ rfl [(0, .int .u8 ((((beL 8 ((nums h).getD j 0)).getD i 0) : Nat) : Int))] rfl #[.int .u8 ((((beL 8 ((nums h).getD j 0)).getD i 0) : Nat) : Int)] 5 (by kernel_rfl) ?_
  intro w3 gb G egb kgb
  have hgb : g0 ≤ gb := egb ▸ hgs
  replace kg1 := G.has kg1
  replace HD := HD.gro G
  replace HO := HO.gro G
  replace GG := GG.tg G
  clear G
  clear egb
  refine nq ?_
  refine yH bT 31 rfl rfl _ _ rfl rfl HO (l' := [((beL 8 ((nums h).getD j 0)).getD i 0)]) rfl (nc_byte kgb (Vw _ _ _ (by rw [List.getD_eq_getElem?_getD, List.getElem?_eq_getElem (by rw [jL]; exact hin)]; exact List.getElem_mem _))) (by rw [hls2]; simp only [List.length_append, List.length_cons, List.length_nil, List.length_take]; omega) (by decide) (Nat.le_of_lt (Nat.lt_of_le_of_lt hgb (ji kgb))) ?_
  intro ao2 cap2 w4 HO2 BB
  have hgs := Nat.le_trans (Nat.le_of_lt (Nat.lt_of_le_of_lt hgb (ji kgb))) BB.size
  replace kg1 := JW BB kg1 dg1
  replace HD := HD.below BB (by omega) (by omega)
  replace GG := Qo (BB.mono bg0) GG
  clear HO BB kgb
  refine nq ?_
  refine mv (.slice ao2 ((ls ++ [((beL 8 ((nums h).getD j 0)).getD i 0)]).length) cap2) rfl (nq ?_)
  refine qN (zb (jC (qG (sv (nK (i + 1)) (jp _ _ _ rfl ((i : Nat) : Int) 1 _ rfl rfl (by omega) (by omega) (by omega) _) rfl (mv (nK (i + 1)) rfl (nq ?_))))))
  refine qL ?_
  exact ⟨_, (by omega : 8 - (i + 1) < 8 - i), i + 1, _, _, _, usK ⟨hin, (by rw [hls2]; exact be_next hin), GG, HD, HO2, kg1, hgs⟩⟩
end Go.Proofs.YtgfnjekpafempaaGreat
