import Derived.Test.YtgfnjekpafempaaGreatBB9
import Derived.Test.YtgfnjekpafempaaGreatBB1
namespace Go.Proofs.YtgfnjekpafempaaGreat
open Go.Proofs.Tryz
open Go.RowKit
def bA (l : List Nat) : Array Value := (l.map fun r : Nat => Value.int .u8 (r : Int)).toArray
theorem vX (l : List Nat) : (bA l).size = l.length := by simp [bA]
theorem Jd (l : List Nat) : (bA l).all (·.oneCell') = true := by
  rw [Array.all_eq_true_iff_forall_mem]
  intro v hv
  unfold bA at hv
  obtain ⟨r, _, rfl⟩ := List.mem_map.1 (by simpa using hv)
  rfl
def z16 : List Nat := List.replicate 16 0
theorem bA_z : idA 0 = bA z16 := by kernel_rfl
theorem zero38 (w : World) : (zeroValue 38).run Tryz.prog w = .ok (.agg (bA z16)) w := by rw [← bA_z]; exact zero23 w
def getI (l : List Nat) (i : Int) : List Nat × Nat × Nat := if i < 0 ∨ (l.length : Int) < i then (z16, 0, 1) else if l.length - i.toNat < 16 then (z16, 0, 3) else ((l.drop i.toNat).take 16, i.toNat + 16, 0)
theorem Ye (l : List Nat) (i : Int) : (getI l i).1.length = 16 := by
  unfold getI
  split
  · rfl
  · split
    · rfl
    · simp; omega
theorem Vo (l : List Nat) (hl : ∀ x ∈ l, x < 256) (i : Int) : ∀ x ∈ (getI l i).1, x < 256 := by
  have hz : ∀ x ∈ z16, x < 256 := by decide
  unfold getI
  split
  · exact hz
  · split
    · exact hz
    · exact fun x hx => hl x (List.mem_of_mem_drop (List.mem_of_mem_take hx))
theorem jt {P : Program} {fn : Func} {p q r : Tmp} {ty : TypeId} (h : fn.results = #[.cell p ty, .tmp q, .tmp r]) (tmps : Array Value) (w : World) (g : Nat) (t : TypeId) (cs : Array Value) (fr : Nat × Nat) (d : TypeDesc)
    (hp : tmps.getD p undef = .pointer (some ⟨g, 0, none⟩)) (u v : Value) (hq : tmps.getD q undef = u) (hr : tmps.getD r undef = v) (hg : w.heap[g]? = some (.cells cs t fr))
    (hu : P.underlying ty = some d) (hd : (match d with | .struct _ | .array _ _ => true | _ => false) = true) (hi : (P.info? ty).map (·.size) = some cs.size) :
    (results fn tmps).run P w = .ok (.tuple #[.agg cs, u, v]) w := by
  have hp' : tmps[p]?.getD undef = .pointer (some ⟨g, 0, none⟩) := by simpa using hp
  have hq' : tmps[q]?.getD undef = u := by simpa using hq
  have hr' : tmps[r]?.getD undef = v := by simpa using hr
  simp [results, h, hp', hq', hr', asAddr, run_loadVar_row w g t ty cs fr d hg hu hd hi]
def IdP (w : World) (R : List Nat × Nat × Nat) (e : Ending) (w' : World) : Prop := e = .returned (.tuple #[.agg (bA R.1), .int .i64 (R.2.1 : Int), .int .i64 (R.2.2 : Int)]) ∧ Gro w w'
theorem size38 (l : List Nat) (h : l.length = 16) : (Tryz.prog.info? 38).map (·.size) = some (bA l).size := by rw [vX, h]; exact size23
theorem hle16 (l : List Nat) (h : l.length = 16) : (bA z16).size = (bA l).size := by rw [vX, vX, h]; rfl
theorem run_arr {o : Oper} {A : Act} (x : Operand) (ho : o.op = .slice 38 x none none none) (g : Nat) (hx : A.eval x = .pointer (some ⟨g, 0, none⟩)) (w : World) : (execOp A.eval o).run Tryz.prog w = .ok (.value (.slice (some ⟨g, 0, none⟩) 16 16)) w := by
  have h : (Instr.sliceAt 38 (.pointer (some ⟨g, 0, none⟩)) none none none).run Tryz.prog w = .ok (.slice (some ⟨g, 0, none⟩) 16 16) w := by kernel_rfl
  unfold execOp
  simp only [ho, hx, Option.map_none, Sem.run_bind, h, Result.andThen_ok, Sem.run_pure]
theorem KQ {o : Oper} {A : Act} (x y : Operand) (ho : o.op = .indexAddr 38 x y) (g j : Nat) (hj : j < 16) (hx : A.eval x = .pointer (some ⟨g, 0, none⟩)) (hy : A.eval y = .int .i64 (j : Int)) (w : World) : (execOp A.eval o).run Tryz.prog w = .ok (.value (.pointer (some ⟨g, j, none⟩))) w := by
  have hs : (sizeOf 5).run Tryz.prog w = .ok 1 w := Tryz.sizeOf5 w
  have h : (Instr.indexAt 38 (.pointer (some ⟨g, 0, none⟩)) (.int .i64 (j : Int))).run Tryz.prog w = .ok (.pointer (some ⟨g, j, none⟩)) w := by
    have hjj : (j : Int) < 16 := by omega
    simp only [Instr.indexAt, Sem.run_bind, run_underlying underlying38, Result.andThen_ok]
    simp [Instr.sureAddr, asIntOf, hjj, zQ]
  unfold execOp
  simp only [ho, hx, hy, Sem.run_bind, h, Result.andThen_ok, Sem.run_pure]
theorem jav (L : List Nat) (hL : L.length = 16) (j : Nat) (hj : j < 16) : (bA (L.take j ++ List.replicate (16 - j) 0)).setIfInBounds j (.int .u8 (L.getD j 0 : Int)) = bA (L.take (j + 1) ++ List.replicate (16 - (j + 1)) 0) := by
  apply Array.ext_getElem?
  intro i
  have e1 : (16 - j) = (16 - (j + 1)) + 1 := by omega
  rw [yA L 0 j (by omega), e1, List.replicate_succ]
  have hl : (L.take j).length = j := by rw [List.length_take]; omega
  simp only [bA, List.setIfInBounds_toArray, List.getElem?_toArray, List.map_append, List.map_cons, List.map_nil, List.append_assoc]
  rw [List.set_append_right _ _ (by simp; omega)]
  simp [Nat.min_eq_left (show j ≤ L.length by omega)]
set_option maxHeartbeats 1600000 in
theorem jas (ao : Option Addr) (cap : Nat) (l : List Nat) (w : World) (HC : NC w .u8 ao cap l) (i : Int) (hlen : l.length ≤ 140737488355000) : Calls Tryz.prog 94 #[.slice ao l.length cap, .int .i64 i] w (IdP w (getI l i)) := by
  have GG : Gro w w := Gro.refl w
  obtain ⟨R, hR⟩ : ∃ R, getI l i = R := ⟨_, rfl⟩
  have HR : Shut (getI l i = R) := ⟨hR⟩
  rw [hR]
  clear hR
  cases hw : decide (0 ≤ i ∧ i ≤ (l.length : Int))
  · have hR : R = (z16, 0, 1) := by
      rw [← HR.out, getI, if_pos]
      simp at hw
      omega
    subst hR
    go_enter func94, ntmps94
    go_wp2_with (first | (go_at_call 69; refine (zC _ _ _ _ _).mono ?_; rintro e wN ⟨rfl, hwN⟩; replace hwN := hwN.symm; subst hwN; rw [hw]) | (with_reducible refine jx ?_; first | (refine jU 4 rfl rfl 38 rfl _ zero38 ?_; intro w1 g1 G1 e1 k1; have b1 := jh GG e1; replace GG := GG.trans G1; clear G1 e1; (try simp only [Act.put, List.setIfInBounds_toArray, List.set_cons_zero, List.set_cons_succ])) | (refine jU 7 rfl rfl 38 rfl _ zero38 ?_; intro w2 g2 G2 e2 k2; have b2 := jh GG e2; have d12 := jn k1 e2; replace k1 := G2.has k1; replace GG := GG.trans G2; clear G2 e2; (try simp only [Act.put, List.setIfInBounds_toArray, List.set_cons_zero, List.set_cons_succ])) | (refine wpList_load_row rfl 38 _ rfl _ rfl 38 _ (0, 0) _ k2 underlying38 rfl (by kernel_rfl) ?_; (try simp only [Act.put, List.setIfInBounds_toArray, List.set_cons_zero, List.set_cons_succ])) | (refine zm rfl rfl 38 _ _ rfl g1 rfl _ rfl 38 _ k1 (size38 z16 rfl) (rfl) (Jd _) ?_; intro wN SN; replace k2 := SN.has (by omega) k2; replace k1 := SN.new; replace GG := GG.store SN b1; clear SN)))
    exact bodyPost_ret (jt results94 _ _ g1 38 _ (0, 0) _ rfl _ _ rfl rfl k1 underlying38 rfl (size38 _ rfl)) rfl ⟨rfl, GG⟩
  · have hwi : 0 ≤ i ∧ i ≤ (l.length : Int) := by simpa using hw
    obtain ⟨p, rfl⟩ : ∃ p : Nat, i = (p : Int) := ⟨i.toNat, by omega⟩
    have hp : p ≤ l.length := by omega
    have HR2 : Shut ((if l.length - p < 16 then (z16, 0, 3) else ((l.drop p).take 16, p + 16, 0)) = R) := ⟨by rw [← HR.out]; unfold getI; rw [if_neg (show ¬ ((p : Int) < 0 ∨ (l.length : Int) < (p : Int)) by omega)]; rfl⟩
    clear HR hwi
    by_cases h16 : l.length - p < 16
    · have hR : R = (z16, 0, 3) := by rw [← HR2.out, if_pos h16]
      subst hR
      clear HR2
      go_enter func94, ntmps94
      go_wp2_with (first | (go_at_call 69; refine (zC _ _ _ _ _).mono ?_; rintro e wN ⟨rfl, hwN⟩; replace hwN := hwN.symm; subst hwN; rw [hw]) | (with_reducible refine jx ?_; first | (refine jU 4 rfl rfl 38 rfl _ zero38 ?_; intro w1 g1 G1 e1 k1; have b1 := jh GG e1; replace GG := GG.trans G1; clear G1 e1; (try simp only [Act.put, List.setIfInBounds_toArray, List.set_cons_zero, List.set_cons_succ])) | (refine jU 7 rfl rfl 38 rfl _ zero38 ?_; intro w2 g2 G2 e2 k2; have b2 := jh GG e2; have d12 := jn k1 e2; replace k1 := G2.has k1; replace GG := GG.trans G2; clear G2 e2; (try simp only [Act.put, List.setIfInBounds_toArray, List.set_cons_zero, List.set_cons_succ])) | (refine jc 16 rfl rfl (.int .i64 ((l.length - p : Nat) : Int)) (jP _ _ _ rfl (l.length : Int) (p : Int) _ rfl rfl (by omega) (by omega) (by omega) _) ?_; (try simp only [Act.put, List.setIfInBounds_toArray, List.set_cons_zero, List.set_cons_succ])) | (refine jc 17 rfl rfl (.bool true) (jI _ _ _ rfl ((l.length - p : Nat) : Int) 16 rfl rfl true (by simp; omega) _) ?_; (try simp only [Act.put, List.setIfInBounds_toArray, List.set_cons_zero, List.set_cons_succ])) | (refine wpList_load_row rfl 38 _ rfl _ rfl 38 _ (0, 0) _ k2 underlying38 rfl (by kernel_rfl) ?_; (try simp only [Act.put, List.setIfInBounds_toArray, List.set_cons_zero, List.set_cons_succ])) | (refine zm rfl rfl 38 _ _ rfl g1 rfl _ rfl 38 _ k1 (size38 z16 rfl) (rfl) (Jd _) ?_; intro wN SN; replace k2 := SN.has (by omega) k2; replace k1 := SN.new; replace GG := GG.store SN b1; clear SN)))
      exact bodyPost_ret (jt results94 _ _ g1 38 _ (0, 0) _ rfl _ _ rfl rfl k1 underlying38 rfl (size38 _ rfl)) rfl ⟨rfl, GG⟩
    · obtain ⟨ao1, cap1, L1, E1, N1, C1⟩ := HC.cut bT p hp
      obtain ⟨L, hL⟩ : ∃ L, (l.drop p).take 16 = L := ⟨_, rfl⟩
      have HL : Shut (L1.take 16 = L) := ⟨by rw [E1.out]; exact hL⟩
      have hR : R = (L, p + 16, 0) := by rw [← HR2.out, if_neg h16, hL]
      have H16 : L.length = 16 := by rw [← hL]; simp; omega
      have HL1 : Shut (16 ≤ L1.length) := ⟨by rw [E1.out, List.length_drop]; omega⟩
      subst hR
      have HS : Shut (L.length = 16) := ⟨H16⟩
      clear HR2 E1 hL H16
      go_enter func94, ntmps94
      go_wp2_with (first | (go_at_call 69; refine (zC _ _ _ _ _).mono ?_; rintro e wN ⟨rfl, hwN⟩; replace hwN := hwN.symm; subst hwN; rw [hw]) | (with_reducible refine jx ?_; (first | (refine jU 4 rfl rfl 38 rfl _ zero38 ?_; intro w1 g1 G1 e1 k1; have b1 := jh GG e1; replace GG := GG.trans G1; clear G1 e1) | (refine jU 7 rfl rfl 38 rfl _ zero38 ?_; intro w2 g2 G2 e2 k2; have b2 := jh GG e2; have d12 := jn k1 e2; replace k1 := G2.has k1; replace GG := GG.trans G2; clear G2 e2) | (refine jc 16 rfl rfl (.int .i64 ((l.length - p : Nat) : Int)) (jP _ _ _ rfl (l.length : Int) (p : Int) _ rfl rfl (by omega) (by omega) (by omega) _) ?_) | (refine jc 17 rfl rfl (.bool false) (jI _ _ _ rfl ((l.length - p : Nat) : Int) 16 rfl rfl false (by simp; omega) _) ?_)); (try simp only [Act.put, List.setIfInBounds_toArray, List.set_cons_zero, List.set_cons_succ])))
      refine yI 4 [(0, 19), (1, 20), (2, 21), (3, 22)] [.val (.slice (some ⟨g2, 0, none⟩) 16 16), .val (.slice ao l.length cap), .val (.int .i64 (p : Int)), .val (.slice ao1 L1.length cap1)] follows (by kernel_rfl) rfl
        (vB ?o0 (vB ?o1 (vB ?o2 (vB ?o3 Un)))) ?rest
      case o0 => exact fun _ _ _ _ => jb rfl (run_arr _ rfl g2 rfl _)
      case o1 => exact fun _ _ _ _ => jf _ rfl rfl rfl
      case o2 => exact fun _ _ _ _ => jf _ rfl rfl rfl
      case o3 => exact fun _ _ _ _ => jb rfl (C1.run _ _ rfl rfl rfl _)
      intro ptrs w5 G5 _
      simp only [full, foldSlots, filledE, postE, List.foldl_cons, List.foldl_nil, List.getD_cons_zero, List.getD_cons_succ, PostE.fill, PostE.val, Option.getD_some, List.set_cons_zero, List.set_cons_succ, List.drop_succ_cons, List.drop_zero]
      replace k1 := G5.has k1
      replace k2 := G5.has k2
      have GG5 : Gro w w5 := GG.drew.trans G5
      refine JZ bT 23 rfl rfl _ _ rfl g2 16 16 rfl k2 (by rw [vX]; rfl) rfl rfl (N1.gro GG5) HL1.out HL.out ?_
      intro w6 S6
      replace k1 := S6.has (by omega) k1
      replace k2 : w6.heap[g2]? = some (.cells (bA L) 38 (0, 0)) := S6.new
      replace GG : Gro w w6 := GG5.store S6 b2
      clear S6 GG5 G5 C1
      simp only [Act.put, List.setIfInBounds_toArray, List.set_cons_zero, List.set_cons_succ]
      go_wp2_with (first | (with_reducible refine jx ?_; first | (refine wpList_load_row rfl 38 _ rfl _ rfl 38 _ (0, 0) _ k2 underlying38 rfl (by exact size38 _ HS.out) ?_; (try simp only [Act.put, List.setIfInBounds_toArray, List.set_cons_zero, List.set_cons_succ])) | (refine jc 26 rfl rfl (.int .i64 ((p + 16 : Nat) : Int)) (jp _ _ _ rfl (p : Int) 16 _ rfl rfl (by omega) (by omega) (by omega) _) ?_; (try simp only [Act.put, List.setIfInBounds_toArray, List.set_cons_zero, List.set_cons_succ])) | (refine zm rfl rfl 38 _ _ rfl g1 rfl _ rfl 38 _ k1 (size38 _ HS.out) (hle16 _ HS.out) (Jd _) ?_; intro wN SN; replace k2 := SN.has (by omega) k2; replace k1 := SN.new; replace GG := GG.store SN b1; clear SN)))
      exact bodyPost_ret (jt results94 _ _ g1 38 _ (0, 0) _ rfl _ _ rfl rfl k1 underlying38 rfl (size38 _ HS.out)) rfl ⟨rfl, GG⟩
set_option maxHeartbeats 1600000 in
theorem jar (ao : Option Addr) (cap : Nat) (l : List Nat) (w : World) (HC : NC w .u8 ao cap l) (i : Int) (hlen : l.length ≤ 140737488355000) : Calls Tryz.prog 76 #[.slice ao l.length cap, .int .i64 i] w (IdP w (getI l i)) := by
  have GG : Gro w w := Gro.refl w
  obtain ⟨R, hR⟩ : ∃ R, getI l i = R := ⟨_, rfl⟩
  have HR : Shut (getI l i = R) := ⟨hR⟩
  rw [hR]
  clear hR
  cases hw : decide (i < 0)
  · cases hw2 : decide ((l.length : Int) < i)
    · have h1 : ¬ i < 0 := by simpa using hw
      have h2 : ¬ (l.length : Int) < i := by simpa using hw2
      obtain ⟨p, rfl⟩ : ∃ p : Nat, i = (p : Int) := ⟨i.toNat, by omega⟩
      have hp : p ≤ l.length := by omega
      have HR2 : Shut ((if l.length - p < 16 then (z16, 0, 3) else ((l.drop p).take 16, p + 16, 0)) = R) := ⟨by rw [← HR.out]; unfold getI; rw [if_neg (show ¬ ((p : Int) < 0 ∨ (l.length : Int) < (p : Int)) by omega)]; rfl⟩
      clear HR h1 h2
      by_cases h16 : l.length - p < 16
      · have hR : R = (z16, 0, 3) := by rw [← HR2.out, if_pos h16]
        subst hR
        clear HR2
        go_enter func76, ntmps76
        go_wp2_with (first | (with_reducible refine jx ?_; first | (refine jU 4 rfl rfl 38 rfl _ zero38 ?_; intro w1 g1 G1 e1 k1; have b1 := jh GG e1; replace GG := GG.trans G1; clear G1 e1; (try simp only [Act.put, List.setIfInBounds_toArray, List.set_cons_zero, List.set_cons_succ])) | (refine jU 7 rfl rfl 38 rfl _ zero38 ?_; intro w2 g2 G2 e2 k2; have b2 := jh GG e2; have d12 := jn k1 e2; replace k1 := G2.has k1; replace GG := GG.trans G2; clear G2 e2; (try simp only [Act.put, List.setIfInBounds_toArray, List.set_cons_zero, List.set_cons_succ])) | (refine jc 10 rfl rfl (.bool false) (jI _ _ _ rfl (p : Int) 0 rfl rfl false hw _) ?_; (try simp only [Act.put, List.setIfInBounds_toArray, List.set_cons_zero, List.set_cons_succ])) | (refine ju 15 rfl rfl (.bool false) (jY _ _ _ rfl (p : Int) (l.length : Int) rfl rfl false hw2 _) ?_; (try simp only [Act.put, List.setIfInBounds_toArray, List.set_cons_zero, List.set_cons_succ])) | (refine jc 21 rfl rfl (.int .i64 ((l.length - p : Nat) : Int)) (jP _ _ _ rfl (l.length : Int) (p : Int) _ rfl rfl (by omega) (by omega) (by omega) _) ?_; (try simp only [Act.put, List.setIfInBounds_toArray, List.set_cons_zero, List.set_cons_succ])) | (refine jc 22 rfl rfl (.bool true) (jI _ _ _ rfl ((l.length - p : Nat) : Int) 16 rfl rfl true (by simp; omega) _) ?_; (try simp only [Act.put, List.setIfInBounds_toArray, List.set_cons_zero, List.set_cons_succ])) | (refine wpList_load_row rfl 38 _ rfl _ rfl 38 _ (0, 0) _ k2 underlying38 rfl (by kernel_rfl) ?_; (try simp only [Act.put, List.setIfInBounds_toArray, List.set_cons_zero, List.set_cons_succ])) | (refine zm rfl rfl 38 _ _ rfl g1 rfl _ rfl 38 _ k1 (size38 z16 rfl) (rfl) (Jd _) ?_; intro wN SN; replace k2 := SN.has (by omega) k2; replace k1 := SN.new; replace GG := GG.store SN b1; clear SN)))
        exact bodyPost_ret (jt results76 _ _ g1 38 _ (0, 0) _ rfl _ _ rfl rfl k1 underlying38 rfl (size38 _ rfl)) rfl ⟨rfl, GG⟩
      · obtain ⟨L, hL⟩ : ∃ L, (l.drop p).take 16 = L := ⟨_, rfl⟩
        have hR : R = (L, p + 16, 0) := by rw [← HR2.out, if_neg h16, hL]
        have H16 : L.length = 16 := by rw [← hL]; simp; omega
        have HCJ : Shut (∀ j, j < 16 → ∃ ad, ao = some ad ∧ w.cell? (ad.add (p + j)) = some (.int .u8 (L.getD j 0 : Int))) := ⟨fun j hj => by
          obtain ⟨ad, h1, h2⟩ := HC.at (j := p + j) (by omega)
          refine ⟨ad, h1, ?_⟩
          rw [h2, ← hL, List.getD_eq_getElem?_getD, List.getD_eq_getElem?_getD, List.getElem?_take, if_pos hj, List.getElem?_drop]⟩
        have HT : Shut (∀ j, j < 16 → (bA (L.take j ++ List.replicate (16 - j) 0)).setIfInBounds j (.int .u8 (L.getD j 0 : Int)) = bA (L.take (j + 1) ++ List.replicate (16 - (j + 1)) 0)) := ⟨jav L H16⟩
        have HTL : Shut (∀ j, j ≤ 16 → (L.take j ++ List.replicate (16 - j) 0).length = 16) := ⟨fun j hj => by simp; omega⟩
        subst hR
        have HS : Shut (L.length = 16) := ⟨H16⟩
        clear HR2 hL H16
        go_enter func76, ntmps76
        go_wp2_with (first | (with_reducible refine jx ?_; (first | (refine jU 4 rfl rfl 38 rfl _ zero38 ?_; intro w1 g1 G1 e1 k1; have b1 := jh GG e1; replace GG := GG.trans G1; clear G1 e1) | (refine jU 7 rfl rfl 38 rfl _ zero38 ?_; intro w2 g2 G2 e2 k2; have b2 := jh GG e2; have d12 := jn k1 e2; replace k1 := G2.has k1; replace GG := GG.trans G2; clear G2 e2) | (refine jc 10 rfl rfl (.bool false) (jI _ _ _ rfl (p : Int) 0 rfl rfl false hw _) ?_) | (refine ju 15 rfl rfl (.bool false) (jY _ _ _ rfl (p : Int) (l.length : Int) rfl rfl false hw2 _) ?_) | (refine jc 21 rfl rfl (.int .i64 ((l.length - p : Nat) : Int)) (jP _ _ _ rfl (l.length : Int) (p : Int) _ rfl rfl (by omega) (by omega) (by omega) _) ?_) | (refine jc 22 rfl rfl (.bool false) (jI _ _ _ rfl ((l.length - p : Nat) : Int) 16 rfl rfl false (by simp; omega) _) ?_)); (try simp only [Act.put, List.setIfInBounds_toArray, List.set_cons_zero, List.set_cons_succ])))
        have kk1 := k1
        have kk2 := k2
        clear k1 k2
        go_loopw [8] (fun i wr => ∃ j : Nat, j ≤ 16 ∧ i = .int .i64 (j : Int) ∧ Gro w wr ∧ wr.heap[g1]? = some (.cells (bA z16) 38 (0, 0)) ∧ wr.heap[g2]? = some (.cells (bA (L.take j ++ List.replicate (16 - j) 0)) 38 (0, 0))) (fun i _ => 16 - (intOf i).toNat)
        case atStart => exact ⟨0, by omega, rfl, GG, kk1, kk2⟩
        case round =>
          rename_i wr
          clear GG kk1 kk2
          obtain ⟨j, hj, rfl, GG, k1, k2⟩ := hrel
          by_cases hj16 : j = 16
          · subst hj16
            have e : L.take 16 ++ List.replicate (16 - 16) 0 = L := by simp [List.take_of_length_le (Nat.le_of_eq HS.out)]
            rw [e] at k2
            go_wp2_with (first | (with_reducible refine jx ?_; first | (refine jc 25 rfl rfl (.bool false) (jI _ _ _ rfl ((16 : Nat) : Int) 16 rfl rfl false (by decide) _) ?_; (try simp only [Act.put, List.setIfInBounds_toArray, List.set_cons_zero, List.set_cons_succ])) | (refine wpList_load_row rfl 38 _ rfl _ rfl 38 _ (0, 0) _ k2 underlying38 rfl (by exact size38 _ HS.out) ?_; (try simp only [Act.put, List.setIfInBounds_toArray, List.set_cons_zero, List.set_cons_succ])) | (refine jc 38 rfl rfl (.int .i64 ((p + 16 : Nat) : Int)) (jp _ _ _ rfl (p : Int) 16 _ rfl rfl (by omega) (by omega) (by omega) _) ?_; (try simp only [Act.put, List.setIfInBounds_toArray, List.set_cons_zero, List.set_cons_succ])) | (refine zm rfl rfl 38 _ _ rfl g1 rfl _ rfl 38 _ k1 (size38 _ HS.out) (hle16 _ HS.out) (Jd _) ?_; intro wN SN; replace k2 := SN.has (by omega) k2; replace k1 := SN.new; replace GG := GG.store SN b1; clear SN)))
            exact bodyPost_ret (jt results76 _ _ g1 38 _ (0, 0) _ rfl _ _ rfl rfl k1 underlying38 rfl (size38 _ HS.out)) rfl ⟨rfl, GG⟩
          · have hj' : j < 16 := by omega
            obtain ⟨ad, rfl, hc⟩ := HCJ.out j hj'
            have hcr : Shut (wr.cell? (ad.add (p + j)) = _) := ⟨(World.cell?_of_block (GG.block _ (World.block_lt_of_cell? w _ hc))).trans hc⟩
            have HT2 : Shut _ := ⟨HT.out j hj'⟩
            have HZ : Shut (j < (bA (L.take j ++ List.replicate (16 - j) 0)).size) := ⟨by rw [vX, HTL.out j hj]; exact hj'⟩
            clear hc
            obtain ⟨z, hz⟩ : ∃ z, L.getD j 0 = z := ⟨_, rfl⟩
            rw [hz] at hcr HT2
            clear hz
            go_wp2_with (first | (with_reducible refine jx ?_; first | (refine jc 25 rfl rfl (.bool true) (jI _ _ _ rfl (j : Int) 16 rfl rfl true (by simp; omega) _) ?_; (try simp only [Act.put, List.setIfInBounds_toArray, List.set_cons_zero, List.set_cons_succ])) | (refine jc 32 rfl rfl (.int .i64 ((p + j : Nat) : Int)) (jp _ _ _ rfl (p : Int) (j : Int) _ rfl rfl (by omega) (by omega) (by omega) _) ?_; (try simp only [Act.put, List.setIfInBounds_toArray, List.set_cons_zero, List.set_cons_succ])) | (refine jc 33 rfl rfl (.pointer (some (ad.add (p + j)))) (zf bT _ _ rfl ad l.length cap (p + j) rfl rfl (by omega) _) ?_; (try simp only [Act.put, List.setIfInBounds_toArray, List.set_cons_zero, List.set_cons_succ])) | (refine jc 34 rfl rfl (.int .u8 (z : Int)) (zj bT _ rfl (ad.add (p + j)) rfl _ _ hcr.out) ?_; (try simp only [Act.put, List.setIfInBounds_toArray, List.set_cons_zero, List.set_cons_succ])) | (refine jc 35 rfl rfl (.pointer (some ⟨g2, j, none⟩)) (KQ _ _ rfl g2 j hj' rfl rfl _) ?_; (try simp only [Act.put, List.setIfInBounds_toArray, List.set_cons_zero, List.set_cons_succ])) | (refine ve rfl rfl 5 _ _ rfl g2 j rfl .u8 (z : Int) rfl 38 _ k2 size5 HZ.out _ HT2.out ?_; intro wN SN; replace k1 := SN.has (by omega) k1; replace k2 := SN.new; replace GG := GG.store SN b2; clear SN)))
            go_light
            go_roundw
            case rel => exact ⟨j + 1, by omega, by go_num, GG, k1, k2⟩
            case measure => simp [intOf]; omega
    · have hR : R = (z16, 0, 1) := by
        rw [← HR.out, getI, if_pos]
        simp at hw2
        omega
      subst hR
      go_enter func76, ntmps76
      go_wp2_with (first | (with_reducible refine jx ?_; first | (refine jU 4 rfl rfl 38 rfl _ zero38 ?_; intro w1 g1 G1 e1 k1; have b1 := jh GG e1; replace GG := GG.trans G1; clear G1 e1; (try simp only [Act.put, List.setIfInBounds_toArray, List.set_cons_zero, List.set_cons_succ])) | (refine jU 7 rfl rfl 38 rfl _ zero38 ?_; intro w2 g2 G2 e2 k2; have b2 := jh GG e2; have d12 := jn k1 e2; replace k1 := G2.has k1; replace GG := GG.trans G2; clear G2 e2; (try simp only [Act.put, List.setIfInBounds_toArray, List.set_cons_zero, List.set_cons_succ])) | (refine jc 10 rfl rfl (.bool false) (jI _ _ _ rfl i 0 rfl rfl false hw _) ?_; (try simp only [Act.put, List.setIfInBounds_toArray, List.set_cons_zero, List.set_cons_succ])) | (refine ju 15 rfl rfl (.bool true) (jY _ _ _ rfl i (l.length : Int) rfl rfl true hw2 _) ?_; (try simp only [Act.put, List.setIfInBounds_toArray, List.set_cons_zero, List.set_cons_succ])) | (refine wpList_load_row rfl 38 _ rfl _ rfl 38 _ (0, 0) _ k2 underlying38 rfl (by kernel_rfl) ?_; (try simp only [Act.put, List.setIfInBounds_toArray, List.set_cons_zero, List.set_cons_succ])) | (refine zm rfl rfl 38 _ _ rfl g1 rfl _ rfl 38 _ k1 (size38 z16 rfl) (rfl) (Jd _) ?_; intro wN SN; replace k2 := SN.has (by omega) k2; replace k1 := SN.new; replace GG := GG.store SN b1; clear SN)))
      exact bodyPost_ret (jt results76 _ _ g1 38 _ (0, 0) _ rfl _ _ rfl rfl k1 underlying38 rfl (size38 _ rfl)) rfl ⟨rfl, GG⟩
  · have hR : R = (z16, 0, 1) := by
      rw [← HR.out, getI, if_pos]
      simp at hw
      omega
    subst hR
    go_enter func76, ntmps76
    go_wp2_with (first | (with_reducible refine jx ?_; first | (refine jU 4 rfl rfl 38 rfl _ zero38 ?_; intro w1 g1 G1 e1 k1; have b1 := jh GG e1; replace GG := GG.trans G1; clear G1 e1; (try simp only [Act.put, List.setIfInBounds_toArray, List.set_cons_zero, List.set_cons_succ])) | (refine jU 7 rfl rfl 38 rfl _ zero38 ?_; intro w2 g2 G2 e2 k2; have b2 := jh GG e2; have d12 := jn k1 e2; replace k1 := G2.has k1; replace GG := GG.trans G2; clear G2 e2; (try simp only [Act.put, List.setIfInBounds_toArray, List.set_cons_zero, List.set_cons_succ])) | (refine jc 10 rfl rfl (.bool true) (jI _ _ _ rfl i 0 rfl rfl true hw _) ?_; (try simp only [Act.put, List.setIfInBounds_toArray, List.set_cons_zero, List.set_cons_succ])) | (refine wpList_load_row rfl 38 _ rfl _ rfl 38 _ (0, 0) _ k2 underlying38 rfl (by kernel_rfl) ?_; (try simp only [Act.put, List.setIfInBounds_toArray, List.set_cons_zero, List.set_cons_succ])) | (refine zm rfl rfl 38 _ _ rfl g1 rfl _ rfl 38 _ k1 (size38 z16 rfl) (rfl) (Jd _) ?_; intro wN SN; replace k2 := SN.has (by omega) k2; replace k1 := SN.new; replace GG := GG.store SN b1; clear SN)))
    exact bodyPost_ret (jt results76 _ _ g1 38 _ (0, 0) _ rfl _ _ rfl rfl k1 underlying38 rfl (size38 _ rfl)) rfl ⟨rfl, GG⟩
section
variable {P : Program} {o : Oper} {A : Act}
theorem jby (t t2 : TypeId) (x y : Operand) (ho : o.op = .binOp .rem t x y t2) (a b : Nat) (hx : A.eval x = .int .u64 (a : Int)) (hy : A.eval y = .int .u64 (b : Int)) (hb : 0 < b) (ha : a < lim) (r : Nat) (hr : a % b = r) (w : World) : (execOp A.eval o).run P w = .ok (.value (.int .u64 (r : Int))) w := by
  refine jF .rem t x y t2 ho _ _ _ hx hy (by simp [eqGuard]) ?_
  have hlt : a % b < lim := Nat.lt_of_le_of_lt (Nat.mod_le a b) ha
  have h1 := YK _ hlt
  have h2 : ((a : Int)).tmod (b : Int) = ((a % b : Nat) : Int) := by rw [Int.tmod_eq_emod_of_nonneg (by omega)]; rfl
  have h3 : ¬ (b : Int) = 0 := by omega
  subst hr
  simp only [binOp, Op.intDiv, h3, if_false, h2]
  simp
theorem jbz (t t2 : TypeId) (x y : Operand) (ho : o.op = .binOp .quo t x y t2) (a b : Nat) (hx : A.eval x = .int .u64 (a : Int)) (hy : A.eval y = .int .u64 (b : Int)) (hb : 0 < b) (ha : a < lim) (r : Nat) (hr : a / b = r) (w : World) : (execOp A.eval o).run P w = .ok (.value (.int .u64 (r : Int))) w := by
  refine jF .quo t x y t2 ho _ _ _ hx hy (by simp [eqGuard]) ?_
  have hlt : a / b < lim := Nat.lt_of_le_of_lt (Nat.div_le_self a b) ha
  have h1 := YK _ hlt
  have h2 : ((a : Int)).tdiv (b : Int) = ((a / b : Nat) : Int) := by rw [Int.tdiv_eq_ediv_of_nonneg (by omega)]; rfl
  have h3 : ¬ (b : Int) = 0 := by omega
  subst hr
  simp only [binOp, Op.intDiv, h3, if_false, h2, h1]
  simp
theorem Yt (x y : Operand) (t2 : TypeId) (ho : o.op = .binOp .geq 3 x y t2) (a b : Int) (hx : A.eval x = .int .i64 a) (hy : A.eval y = .int .i64 b) (p : Bool) (hp : decide (b ≤ a) = p) (w : World) : (execOp A.eval o).run P w = .ok (.value (.bool p)) w := by
  subst hp
  refine jF .geq 3 x y t2 ho _ _ _ hx hy (by simp [eqGuard]) ?_
  simp [go_sem]
end
theorem ge_nb (x : Nat) : 0 < nb x → 256 ^ (nb x - 1) ≤ x := by
  unfold nb
  (repeat' split) <;> simp <;> omega
theorem nb_le7 (x : Nat) (h : x < 72057594037927936) : nb x ≤ 7 := by
  unfold nb
  (repeat' split) <;> omega
theorem jds (m : Nat) (h0 : 0 < m) (h : m < lim) : nb m = nb (m / 256) + 1 := by
  have hq : m / 256 < lim := Nat.lt_of_le_of_lt (Nat.div_le_self _ _) h
  have h1 := jdv (m / 256) hq
  have h2 := ge_nb (m / 256)
  have h7 : nb (m / 256) ≤ 7 := nb_le7 _ (by unfold lim at h; omega)
  refine nb_of m _ (by omega) ?_ fun _ => ?_
  · rw [Nat.pow_succ]
    omega
  · rw [Nat.add_sub_cancel]
    by_cases h0' : nb (m / 256) = 0
    · rw [h0']
      omega
    · have h3 := h2 (by omega)
      have e : (256 : Nat) ^ nb (m / 256) = 256 ^ (nb (m / 256) - 1) * 256 := by rw [← Nat.pow_succ]; congr 1; omega
      rw [e]
      omega
theorem beL_div (m : Nat) (h0 : 0 < m) (h : m < lim) : beL (nb m) m = beL (nb (m / 256)) (m / 256) ++ [m % 256] := by
  rw [jds m h0 h]
  rfl
theorem drop_rev (L : List Nat) (j : Nat) (h : j < L.length) : (L.drop j).reverse = (L.drop (j + 1)).reverse ++ [L.getD j 0] := by
  rw [List.drop_eq_getElem_cons h, List.reverse_cons, List.getD_eq_getElem?_getD, List.getElem?_eq_getElem h]
  rfl
set_option maxHeartbeats 1600000 in
theorem vQ (x : Nat) (hx : x < lim) (w : World) : Calls Tryz.prog 32 #[.int .u64 (x : Int)] w (AppP w w.heap.size (numL x)) := by
  obtain ⟨B, hB⟩ : ∃ B, w.heap.size = B := ⟨_, rfl⟩
  have HB : Shut (w.heap.size = B) := ⟨hB⟩
  have hBw : B ≤ w.heap.size := by omega
  rw [hB]
  have hn8 := zL x
  clear hB
  go_enter func32, ntmps32
  go_wp2
  go_loopw [0, 3] (fun n v wr => ∃ (m : Nat) (ao : Option Addr) (cap : Nat) (L : List Nat), Shut (m < lim) ∧ n = .int .u64 (m : Int) ∧ v = .slice ao L.length cap ∧ Shut (beL (nb m) m ++ L.reverse = beL (nb x) x) ∧ Shut (nb m + L.length = nb x) ∧ L.length ≤ 8 ∧ OB wr 5 .u8 B ao cap L ∧ Below B w wr) (fun n _ _ => (intOf n).toNat)
  case atStart => exact ⟨x, none, 0, [], ⟨hx⟩, rfl, rfl, ⟨by simp⟩, ⟨by simp⟩, by simp, OB.nil _ _ _ _, Below.refl _ _⟩
  case round =>
    rename_i wr
    obtain ⟨m, ao, cap, L, HM, rfl, rfl, E1, E2, hL8, HO, BB⟩ := hrel
    by_cases hm0 : m = 0
    · subst hm0
      have hLl : L.length = nb x := by have := E2.out; have e : nb 0 = 0 := rfl; omega
      have ER : Shut (L.reverse = beL (nb x) x) := ⟨by have := E1.out; rw [show beL (nb 0) 0 = [] from rfl, List.nil_append] at this; exact this⟩
      have HLL : Shut (L.length = nb x) := ⟨hLl⟩
      clear E1 E2 hLl HM
      go_wp2_with (first | (with_reducible refine jx ?_; (first | (refine jc 7 rfl rfl (.bool false) (jR _ _ _ _ rfl 0 0 rfl rfl false (by decide) _) ?_) | (refine jc 18 rfl rfl (.int .u8 (L.length : Int)) (conv35 _ rfl L.length (by omega) rfl _) ?_) | (refine yO 19 rfl rfl _ rfl (L.length) (by omega) rfl ?_; intro w2 g2 G2 e2 K2) | (refine jc 22 rfl rfl (.int .i64 ((L.length : Int) - 1)) (jP _ _ _ rfl (L.length : Int) 1 _ rfl rfl rfl (by omega) (by omega) _) ?_)); (try simp only [Act.put, List.setIfInBounds_toArray, List.set_cons_zero, List.set_cons_succ])))
      have NL : NC w2 .u8 ao cap L := HO.nc.gro G2
      have hlow : Shut (∀ ad, ao = some ad → 0 < L.length → ad.block < g2) := ⟨fun ad ha h => by have := HO.nc.lt ad ha h; omega⟩
      have BB2 : Below B w w2 := Below.trans BB (Below.mono G2 (Nat.le_trans hBw BB.size))
      have hBg : B ≤ g2 := by have := BB.size; omega
      have hg2 : g2 ≤ w2.heap.size := Nat.le_of_lt (K2.ge _ rfl).2
      clear HO BB G2
      go_loopw [4, 5] (fun v i wr => ∃ (j : Nat) (ao : Option Addr) (cap : Nat) (M : List Nat), j ≤ L.length ∧ i = .int .i64 ((j : Int) - 1) ∧ v = .slice ao M.length cap ∧ Shut (M = L.length :: (L.drop j).reverse) ∧ M.length ≤ 9 ∧ OB wr 5 .u8 g2 ao cap M ∧ Below g2 w2 wr) (fun _ i _ => (intOf i + 1).toNat)
      case atStart => exact ⟨L.length, some ⟨g2, 0, none⟩, 1, [L.length], by omega, rfl, rfl, ⟨by simp⟩, by simp, K2, Below.refl _ _⟩
      case round =>
        clear K2
        obtain ⟨j, ao3, cap3, M, hj, rfl, rfl, EM, hM9, HO, BB3⟩ := hrel
        by_cases hj0 : j = 0
        · subst hj0
          have EF : Shut (M = numL x) := ⟨by rw [EM.out, List.drop_zero, ER.out, HLL.out]; rfl⟩
          go_wp2_with (first | (with_reducible refine jx ?_; first | (refine jc 24 rfl rfl (.bool false) (Yt _ _ _ rfl (((0 : Nat) : Int) - 1) 0 rfl rfl false (by decide) _) ?_; (try simp only [Act.put, List.setIfInBounds_toArray, List.set_cons_zero, List.set_cons_succ]))))
          go_ret
          exact ⟨ao3, cap3, M, rfl, EF, HO.mono hBg, Below.trans BB2 (BB3.mono hBg)⟩
        · obtain ⟨i, rfl⟩ : ∃ i, j = i + 1 := ⟨j - 1, by omega⟩
          have hi : ((i + 1 : Nat) : Int) - 1 = (i : Int) := by omega
          rw [hi]
          obtain ⟨ad, rfl, hc⟩ := NL.at (j := i) (by omega)
          have hc2 : Shut _ := ⟨(World.cell?_of_block (BB3.block _ (by rw [zY]; exact hlow.out ad rfl (by omega)))).trans hc⟩
          have hz := NL.lt256 _ (uJ L 0 i (by omega))
          have HD : Shut _ := ⟨drop_rev L i (by omega)⟩
          clear hc
          obtain ⟨z, hz'⟩ : ∃ z, L.getD i 0 = z := ⟨_, rfl⟩
          rw [hz'] at hc2 hz HD
          clear hz' hi
          go_wp2_with (first | (with_reducible refine jx ?_; first | (refine jc 24 rfl rfl (.bool true) (Yt _ _ _ rfl (i : Int) 0 rfl rfl true (by simp) _) ?_; (try simp only [Act.put, List.setIfInBounds_toArray, List.set_cons_zero, List.set_cons_succ])) | (refine jc 30 rfl rfl (.pointer (some (ad.add i))) (zf bT _ _ rfl ad L.length cap i rfl rfl (by omega) _) ?_; (try simp only [Act.put, List.setIfInBounds_toArray, List.set_cons_zero, List.set_cons_succ])) | (refine jc 31 rfl rfl (.int .u8 (z : Int)) (zj bT _ rfl (ad.add i) rfl _ _ hc2.out) ?_; (try simp only [Act.put, List.setIfInBounds_toArray, List.set_cons_zero, List.set_cons_succ])) | (refine yO 32 rfl rfl _ rfl (z) (hz) rfl ?_; intro w4 g4 G4 e4 K4; (try simp only [Act.put, List.setIfInBounds_toArray, List.set_cons_zero, List.set_cons_succ])) | (refine zR rfl ?_)))
          constructor
          have HO4 := HO.gro G4
          have hgs := Nat.le_trans hg2 BB3.size
          refine zS bT 33 rfl rfl _ _ rfl rfl HO4 (l' := [z]) rfl K4.nc (by simp; omega) (by decide) (Nat.le_trans hgs G4.size) ?_
          intro ao5 cap5 M5 w5 E5 HO5 B5
          have BB6 : Below g2 w2 w5 := Below.trans BB3 (Below.trans (G4.mono hgs) B5)
          clear HO4 K4 G4 HO B5
          simp only [Act.put, List.setIfInBounds_toArray, List.set_cons_zero, List.set_cons_succ]
          go_wp2_with (first | (with_reducible refine jx ?_; first | (refine jc 26 rfl rfl (.int .i64 ((i : Int) - 1)) (jP _ _ _ rfl (i : Int) 1 _ rfl rfl rfl (by omega) (by omega) _) ?_; (try simp only [Act.put, List.setIfInBounds_toArray, List.set_cons_zero, List.set_cons_succ]))))
          go_light
          go_roundw
          case rel => exact ⟨i, ao5, cap5, M5, by omega, rfl, rfl, ⟨by rw [E5.out, EM.out, HD.out]; rfl⟩, by rw [E5.out, EM.out]; simp; omega, HO5, BB6⟩
          case measure => (simp [intOf]) <;> omega
    · have hmp : 0 < m := by omega
      have HD1 : Shut _ := ⟨jds m hmp HM.out⟩
      have HD2 : Shut _ := ⟨beL_div m hmp HM.out⟩
      have HM2 : Shut (m / 256 < lim) := ⟨Nat.lt_of_le_of_lt (Nat.div_le_self _ _) HM.out⟩
      have hL7 : L.length < 8 := by have := E2.out; have := HD1.out; omega
      have hdm : m / 256 < m := Nat.div_lt_self hmp (by decide)
      obtain ⟨q, hq⟩ : ∃ q, m / 256 = q := ⟨_, rfl⟩
      obtain ⟨r, hr⟩ : ∃ r, m % 256 = r := ⟨_, rfl⟩
      have hr2 : r < 256 := by omega
      rw [hq] at HD1 HD2 HM2 hdm
      rw [hr] at HD2
      have HQ : Shut _ := ⟨hq⟩
      have HRR : Shut _ := ⟨hr⟩
      clear hq hr
      go_wp2_with (first | (with_reducible refine jx ?_; first | (refine jc 7 rfl rfl (.bool true) (jR _ _ _ _ rfl m 0 rfl rfl true (by simp; omega) _) ?_; (try simp only [Act.put, List.setIfInBounds_toArray, List.set_cons_zero, List.set_cons_succ])) | (refine jc 12 rfl rfl (.int .u64 (r : Int)) (jby _ _ _ _ rfl m 256 rfl rfl (by decide) HM.out r HRR.out _) ?_; (try simp only [Act.put, List.setIfInBounds_toArray, List.set_cons_zero, List.set_cons_succ])) | (refine jc 13 rfl rfl (.int .u8 (r : Int)) (conv255 _ rfl r r (Nat.mod_eq_of_lt hr2) rfl _) ?_; (try simp only [Act.put, List.setIfInBounds_toArray, List.set_cons_zero, List.set_cons_succ])) | (refine yO 14 rfl rfl _ rfl (r) (hr2) rfl ?_; intro w2 g2 G2 e2 K2; (try simp only [Act.put, List.setIfInBounds_toArray, List.set_cons_zero, List.set_cons_succ])) | (refine zR rfl ?_)))
      constructor
      have HO2 := HO.gro G2
      have hBr : B ≤ wr.heap.size := Nat.le_trans hBw BB.size
      refine zS bT 15 rfl rfl _ _ rfl rfl HO2 (l' := [r]) rfl K2.nc (by simp; omega) (by decide) (Nat.le_trans hBr G2.size) ?_
      intro ao3 cap3 L3 w3 E3 HO3 B3
      replace BB : Below B _ w3 := Below.trans BB (Below.trans (Below.mono G2 hBr) B3)
      clear B3 HO2 K2 G2 HO
      simp only [Act.put, List.setIfInBounds_toArray, List.set_cons_zero, List.set_cons_succ]
      go_wp2_with (first | (with_reducible refine jx ?_; first | (refine jc 9 rfl rfl (.int .u64 (q : Int)) (jbz _ _ _ _ rfl m 256 rfl rfl (by decide) HM.out q HQ.out _) ?_; (try simp only [Act.put, List.setIfInBounds_toArray, List.set_cons_zero, List.set_cons_succ]))))
      go_light
      go_roundw
      case rel => exact ⟨q, ao3, cap3, L3, HM2, rfl, rfl, ⟨by rw [E3.out, ← E1.out, HD2.out]; simp⟩, ⟨by rw [E3.out, ← E2.out, HD1.out]; simp; omega⟩, by rw [E3.out]; simp; omega, HO3, BB⟩
      case measure => (simp [intOf]) <;> omega
set_option maxHeartbeats 1600000 in
theorem jbk (ao : Option Addr) (cap : Nat) (l : List Nat) (w : World) (HC : NC w .u8 ao cap l) (hlen : l.length ≤ 140737488355000) : Calls Tryz.prog 61 #[.slice ao l.length cap] w (AppP w w.heap.size (textL l)) := by
  have HX : Shut (l.length < lim) := ⟨by unfold lim; omega⟩
  go_enter func61, ntmps61
  go_wp2_with (first | (go_at_call 32; refine (vQ l.length HX.out _).mono ?_; rintro e wN ⟨ao3, cap3, L3, rfl, E3, HO3, B3⟩) | (with_reducible refine jx ?_; first | (refine jc 5 rfl rfl (.int .u64 (l.length : Int)) (conv325 _ rfl l.length HX.out rfl _) ?_; (try simp only [Act.put, List.setIfInBounds_toArray, List.set_cons_zero, List.set_cons_succ])) | (refine zR rfl ?_)))
  constructor
  refine zS bT 8 rfl rfl _ _ rfl rfl HO3 rfl (HC.gro B3) (by rw [E3.out]; have := Vg l.length; omega) (by decide) B3.size ?_
  intro ao4 cap4 L4 w4 E4 HO4 B4
  have GG : Gro w w4 := Below.trans B3 B4
  clear HO3 B3 B4
  simp only [Act.put, List.setIfInBounds_toArray, List.set_cons_zero, List.set_cons_succ]
  go_wp2
  go_ret
  exact ⟨ao4, cap4, L4, rfl, ⟨by rw [E4.out, E3.out]; rfl⟩, HO4, GG⟩
end Go.Proofs.YtgfnjekpafempaaGreat
