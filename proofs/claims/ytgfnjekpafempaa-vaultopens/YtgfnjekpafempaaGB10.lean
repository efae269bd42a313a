/- Wire: an identity is read; the document's own reading of it. -/
import Derived.Test.YtgfnjekpafempaaGB9
import Derived.Test.YtgfnjekpafempaaGLaw3
namespace Go.Proofs.Ytgfnjekpafempaa
open Go.RowKit
def bA (l : List Nat) : Array Value := (l.map fun r : Nat => Value.int .u8 (r : Int)).toArray
theorem vC (l : List Nat) : (bA l).size = l.length := by simp [bA]
theorem uH (l : List Nat) : (bA l).all (·.oneCell') = true := by
  rw [Array.all_eq_true_iff_forall_mem]
  intro v hv
  unfold bA at hv
  obtain ⟨r, _, rfl⟩ := List.mem_map.1 (by simpa using hv)
  rfl
def z16 : List Nat := List.replicate 16 0
theorem bA_z : idA 0 = bA z16 := by kernel_rfl
theorem zero38 (w : World) : (zeroValue 52).run Try.prog w = .ok (.agg (bA z16)) w := by rw [← bA_z]; exact zero23 w
def getI (l : List Nat) (i : Int) : List Nat × Nat × Nat := if i < 0 ∨ (l.length : Int) < i then (z16, 0, 1) else if l.length - i.toNat < 16 then (z16, 0, 3) else ((l.drop i.toNat).take 16, i.toNat + 16, 0)
theorem Zu (l : List Nat) (i : Int) : (getI l i).1.length = 16 := by
  unfold getI
  split
  · rfl
  · split
    · rfl
    · simp; omega
theorem Yn (l : List Nat) (hl : ∀ x ∈ l, x < 256) (i : Int) : ∀ x ∈ (getI l i).1, x < 256 := by
  have hz : ∀ x ∈ z16, x < 256 := by decide
  unfold getI
  split
  · exact hz
  · split
    · exact hz
    · exact fun x hx => hl x (List.mem_of_mem_drop (List.mem_of_mem_take hx))
theorem ju {P : Program} {fn : Func} {p q r : Tmp} {ty : TypeId} (h : fn.results = #[.cell p ty, .tmp q, .tmp r]) (tmps : Array Value) (w : World) (g : Nat) (t : TypeId) (cs : Array Value) (fr : Nat × Nat) (d : TypeDesc)
    (hp : tmps.getD p undef = .pointer (some ⟨g, 0, none⟩)) (u v : Value) (hq : tmps.getD q undef = u) (hr : tmps.getD r undef = v) (hg : w.heap[g]? = some (.cells cs t fr))
    (hu : P.underlying ty = some d) (hd : (match d with | .struct _ | .array _ _ => true | _ => false) = true) (hi : (P.info? ty).map (·.size) = some cs.size) :
    (results fn tmps).run P w = .ok (.tuple #[.agg cs, u, v]) w := by
  have hp' : tmps[p]?.getD undef = .pointer (some ⟨g, 0, none⟩) := by simpa using hp
  have hq' : tmps[q]?.getD undef = u := by simpa using hq
  have hr' : tmps[r]?.getD undef = v := by simpa using hr
  simp [results, h, hp', hq', hr', asAddr, run_loadVar_row w g t ty cs fr d hg hu hd hi]
def IdP (w : World) (R : List Nat × Nat × Nat) (e : Ending) (w' : World) : Prop := e = .returned (.tuple #[.agg (bA R.1), .int .i64 (R.2.1 : Int), .int .i64 (R.2.2 : Int)]) ∧ Gro w w'
theorem size38 (l : List Nat) (h : l.length = 16) : (Try.prog.info? 52).map (·.size) = some (bA l).size := by rw [vC, h]; exact size23
theorem hle16 (l : List Nat) (h : l.length = 16) : (bA z16).size = (bA l).size := by rw [vC, vC, h]; rfl
theorem jcv {o : Oper} {A : Act} (x : Operand) (ho : o.op = .slice 52 x none none none) (g : Nat) (hx : A.eval x = .pointer (some ⟨g, 0, none⟩)) (w : World) : (execOp A.eval o).run Try.prog w = .ok (.value (.slice (some ⟨g, 0, none⟩) 16 16)) w := by
  have h : (Instr.sliceAt 52 (.pointer (some ⟨g, 0, none⟩)) none none none).run Try.prog w = .ok (.slice (some ⟨g, 0, none⟩) 16 16) w := by kernel_rfl
  unfold execOp
  simp only [ho, hx, Option.map_none, Sem.run_bind, h, Result.andThen_ok, Sem.run_pure]
theorem Qu {o : Oper} {A : Act} (x y : Operand) (ho : o.op = .indexAddr 52 x y) (g j : Nat) (hj : j < 16) (hx : A.eval x = .pointer (some ⟨g, 0, none⟩)) (hy : A.eval y = .int .i64 (j : Int)) (w : World) : (execOp A.eval o).run Try.prog w = .ok (.value (.pointer (some ⟨g, j, none⟩))) w := by
  have hs : (sizeOf 5).run Try.prog w = .ok 1 w := Try.sizeOf5 w
  have h : (Instr.indexAt 52 (.pointer (some ⟨g, 0, none⟩)) (.int .i64 (j : Int))).run Try.prog w = .ok (.pointer (some ⟨g, j, none⟩)) w := by
    have hjj : (j : Int) < 16 := by omega
    simp only [Instr.indexAt, Sem.run_bind, run_underlying Try.underlying52, Result.andThen_ok]
    simp [Instr.sureAddr, asIntOf, hjj, zQ]
  unfold execOp
  simp only [ho, hx, hy, Sem.run_bind, h, Result.andThen_ok, Sem.run_pure]
theorem QZ (L : List Nat) (hL : L.length = 16) (j : Nat) (hj : j < 16) : (bA (L.take j ++ List.replicate (16 - j) 0)).setIfInBounds j (.int .u8 (L.getD j 0 : Int)) = bA (L.take (j + 1) ++ List.replicate (16 - (j + 1)) 0) := by
  apply Array.ext_getElem?
  intro i
  have e1 : (16 - j) = (16 - (j + 1)) + 1 := by omega
  rw [yu L 0 j (by omega), e1, List.replicate_succ]
  have hl : (L.take j).length = j := by rw [List.length_take]; omega
  simp only [bA, List.setIfInBounds_toArray, List.getElem?_toArray, List.map_append, List.map_cons, List.map_nil, List.append_assoc]
  rw [List.set_append_right _ _ (by simp; omega)]
  simp [Nat.min_eq_left (show j ≤ L.length by omega)]
set_option maxHeartbeats 1600000 in
theorem QW (ao : Option Addr) (cap : Nat) (l : List Nat) (w : World) (HC : NC w .u8 ao cap l) (i : Int) (hlen : l.length ≤ 140737488355000) : Calls Try.prog 97 #[.slice ao l.length cap, .int .i64 i] w (IdP w (getI l i)) := by
  have GG : Gro w w := Gro.refl w
  obtain ⟨R, hR⟩ : ∃ R, getI l i = R := ⟨_, rfl⟩
  have HR : Shut (getI l i = R) := ⟨hR⟩
  rw [hR]
  clear hR
  cases hw : decide (0 ≤ i ∧ i ≤ (l.length : Int))
  · have hR : R = (z16, 0, 1) := by
      rw [← HR.out, getI, if_pos]
      simp at hw
      omega
    subst hR
    go_enter Try.func97, Try.ntmps97
    go_wp2_with (first | (go_at_call 78; refine (zD _ _ _ _ _).mono ?_; rintro e wN ⟨rfl, hwN⟩; replace hwN := hwN.symm; subst hwN; rw [hw]) | (with_reducible refine jw ?_; first | (refine jW 4 rfl rfl 52 rfl _ zero38 ?_; intro w1 g1 G1 e1 k1; have b1 := jk GG e1; replace GG := GG.trans G1; clear G1 e1; (try simp only [Act.put, List.setIfInBounds_toArray, List.set_cons_zero, List.set_cons_succ])) | (refine jW 7 rfl rfl 52 rfl _ zero38 ?_; intro w2 g2 G2 e2 k2; have b2 := jk GG e2; have d12 := jH k1 e2; replace k1 := G2.has k1; replace GG := GG.trans G2; clear G2 e2; (try simp only [Act.put, List.setIfInBounds_toArray, List.set_cons_zero, List.set_cons_succ])) | (refine wpList_load_row rfl 52 _ rfl _ rfl 52 _ (0, 0) _ k2 Try.underlying52 rfl (by kernel_rfl) ?_; (try simp only [Act.put, List.setIfInBounds_toArray, List.set_cons_zero, List.set_cons_succ])) | (refine zl rfl rfl 52 _ _ rfl g1 rfl _ rfl 52 _ k1 (size38 z16 rfl) (rfl) (uH _) ?_; intro wN SN; replace k2 := SN.has (by omega) k2; replace k1 := SN.new; replace GG := GG.store SN b1; clear SN)))
    exact bodyPost_ret (ju Try.results97 _ _ g1 52 _ (0, 0) _ rfl _ _ rfl rfl k1 Try.underlying52 rfl (size38 _ rfl)) rfl ⟨rfl, GG⟩
  · have hwi : 0 ≤ i ∧ i ≤ (l.length : Int) := by simpa using hw
    obtain ⟨p, rfl⟩ : ∃ p : Nat, i = (p : Int) := ⟨i.toNat, by omega⟩
    have hp : p ≤ l.length := by omega
    have HR2 : Shut ((if l.length - p < 16 then (z16, 0, 3) else ((l.drop p).take 16, p + 16, 0)) = R) := ⟨by rw [← HR.out]; unfold getI; rw [if_neg (show ¬ ((p : Int) < 0 ∨ (l.length : Int) < (p : Int)) by omega)]; rfl⟩
    clear HR hwi
    by_cases h16 : l.length - p < 16
    · have hR : R = (z16, 0, 3) := by rw [← HR2.out, if_pos h16]
      subst hR
      clear HR2
      go_enter Try.func97, Try.ntmps97
      go_wp2_with (first | (go_at_call 78; refine (zD _ _ _ _ _).mono ?_; rintro e wN ⟨rfl, hwN⟩; replace hwN := hwN.symm; subst hwN; rw [hw]) | (with_reducible refine jw ?_; first | (refine jW 4 rfl rfl 52 rfl _ zero38 ?_; intro w1 g1 G1 e1 k1; have b1 := jk GG e1; replace GG := GG.trans G1; clear G1 e1; (try simp only [Act.put, List.setIfInBounds_toArray, List.set_cons_zero, List.set_cons_succ])) | (refine jW 7 rfl rfl 52 rfl _ zero38 ?_; intro w2 g2 G2 e2 k2; have b2 := jk GG e2; have d12 := jH k1 e2; replace k1 := G2.has k1; replace GG := GG.trans G2; clear G2 e2; (try simp only [Act.put, List.setIfInBounds_toArray, List.set_cons_zero, List.set_cons_succ])) | (refine jc 16 rfl rfl (.int .i64 ((l.length - p : Nat) : Int)) (jR _ _ _ rfl (l.length : Int) (p : Int) _ rfl rfl (by omega) (by omega) (by omega) _) ?_; (try simp only [Act.put, List.setIfInBounds_toArray, List.set_cons_zero, List.set_cons_succ])) | (refine jc 17 rfl rfl (.bool true) (jK _ _ _ rfl ((l.length - p : Nat) : Int) 16 rfl rfl true (by simp; omega) _) ?_; (try simp only [Act.put, List.setIfInBounds_toArray, List.set_cons_zero, List.set_cons_succ])) | (refine wpList_load_row rfl 52 _ rfl _ rfl 52 _ (0, 0) _ k2 Try.underlying52 rfl (by kernel_rfl) ?_; (try simp only [Act.put, List.setIfInBounds_toArray, List.set_cons_zero, List.set_cons_succ])) | (refine zl rfl rfl 52 _ _ rfl g1 rfl _ rfl 52 _ k1 (size38 z16 rfl) (rfl) (uH _) ?_; intro wN SN; replace k2 := SN.has (by omega) k2; replace k1 := SN.new; replace GG := GG.store SN b1; clear SN)))
      exact bodyPost_ret (ju Try.results97 _ _ g1 52 _ (0, 0) _ rfl _ _ rfl rfl k1 Try.underlying52 rfl (size38 _ rfl)) rfl ⟨rfl, GG⟩
    · obtain ⟨ao1, cap1, L1, E1, N1, C1⟩ := HC.cut bT p hp
      obtain ⟨L, hL⟩ : ∃ L, (l.drop p).take 16 = L := ⟨_, rfl⟩
      have HL : Shut (L1.take 16 = L) := ⟨by rw [E1.out]; exact hL⟩
      have hR : R = (L, p + 16, 0) := by rw [← HR2.out, if_neg h16, hL]
      have H16 : L.length = 16 := by rw [← hL]; simp; omega
      have HL1 : Shut (16 ≤ L1.length) := ⟨by rw [E1.out, List.length_drop]; omega⟩
      subst hR
      have HS : Shut (L.length = 16) := ⟨H16⟩
      clear HR2 E1 hL H16
      go_enter Try.func97, Try.ntmps97
      go_wp2_with (first | (go_at_call 78; refine (zD _ _ _ _ _).mono ?_; rintro e wN ⟨rfl, hwN⟩; replace hwN := hwN.symm; subst hwN; rw [hw]) | (with_reducible refine jw ?_; first | (refine jW 4 rfl rfl 52 rfl _ zero38 ?_; intro w1 g1 G1 e1 k1; have b1 := jk GG e1; replace GG := GG.trans G1; clear G1 e1; (try simp only [Act.put, List.setIfInBounds_toArray, List.set_cons_zero, List.set_cons_succ])) | (refine jW 7 rfl rfl 52 rfl _ zero38 ?_; intro w2 g2 G2 e2 k2; have b2 := jk GG e2; have d12 := jH k1 e2; replace k1 := G2.has k1; replace GG := GG.trans G2; clear G2 e2; (try simp only [Act.put, List.setIfInBounds_toArray, List.set_cons_zero, List.set_cons_succ])) | (refine jc 16 rfl rfl (.int .i64 ((l.length - p : Nat) : Int)) (jR _ _ _ rfl (l.length : Int) (p : Int) _ rfl rfl (by omega) (by omega) (by omega) _) ?_; (try simp only [Act.put, List.setIfInBounds_toArray, List.set_cons_zero, List.set_cons_succ])) | (refine jc 17 rfl rfl (.bool false) (jK _ _ _ rfl ((l.length - p : Nat) : Int) 16 rfl rfl false (by simp; omega) _) ?_; (try simp only [Act.put, List.setIfInBounds_toArray, List.set_cons_zero, List.set_cons_succ]))))
      refine yz 4 [(0, 19), (1, 20), (2, 21), (3, 22)] [.val (.slice (some ⟨g2, 0, none⟩) 16 16), .val (.slice ao l.length cap), .val (.int .i64 (p : Int)), .val (.slice ao1 L1.length cap1)] follows (by kernel_rfl) rfl
        (vj ?o0 (vj ?o1 (vj ?o2 (vj ?o3 Vb)))) ?rest
      case o0 => exact fun _ _ _ _ => jd rfl (jcv _ rfl g2 rfl _)
      case o1 => exact fun _ _ _ _ => jg _ rfl rfl rfl
      case o2 => exact fun _ _ _ _ => jg _ rfl rfl rfl
      case o3 => exact fun _ _ _ _ => jd rfl (C1.run _ _ rfl rfl rfl _)
      intro ptrs w5 G5 _
      simp only [full, foldSlots, filledE, postE, List.foldl_cons, List.foldl_nil, List.getD_cons_zero, List.getD_cons_succ, PostE.fill, PostE.val, Option.getD_some, List.set_cons_zero, List.set_cons_succ, List.drop_succ_cons, List.drop_zero]
      replace k1 := G5.has k1
      replace k2 := G5.has k2
      have GG5 : Gro w w5 := GG.drew.trans G5
      refine Jv bT 23 rfl rfl _ _ rfl g2 16 16 rfl k2 (by rw [vC]; rfl) rfl rfl (N1.gro GG5) HL1.out HL.out ?_
      intro w6 S6
      replace k1 := S6.has (by omega) k1
      replace k2 : w6.heap[g2]? = some (.cells (bA L) 52 (0, 0)) := S6.new
      replace GG : Gro w w6 := GG5.store S6 b2
      clear S6 GG5 G5 C1
      simp only [Act.put, List.setIfInBounds_toArray, List.set_cons_zero, List.set_cons_succ]
      go_wp2_with (first | (with_reducible refine jw ?_; first | (refine wpList_load_row rfl 52 _ rfl _ rfl 52 _ (0, 0) _ k2 Try.underlying52 rfl (by exact size38 _ HS.out) ?_; (try simp only [Act.put, List.setIfInBounds_toArray, List.set_cons_zero, List.set_cons_succ])) | (refine jc 26 rfl rfl (.int .i64 ((p + 16 : Nat) : Int)) (jp _ _ _ rfl (p : Int) 16 _ rfl rfl (by omega) (by omega) (by omega) _) ?_; (try simp only [Act.put, List.setIfInBounds_toArray, List.set_cons_zero, List.set_cons_succ])) | (refine zl rfl rfl 52 _ _ rfl g1 rfl _ rfl 52 _ k1 (size38 _ HS.out) (hle16 _ HS.out) (uH _) ?_; intro wN SN; replace k2 := SN.has (by omega) k2; replace k1 := SN.new; replace GG := GG.store SN b1; clear SN)))
      exact bodyPost_ret (ju Try.results97 _ _ g1 52 _ (0, 0) _ rfl _ _ rfl rfl k1 Try.underlying52 rfl (size38 _ HS.out)) rfl ⟨rfl, GG⟩
set_option maxHeartbeats 1600000 in
theorem QV (ao : Option Addr) (cap : Nat) (l : List Nat) (w : World) (HC : NC w .u8 ao cap l) (i : Int) (hlen : l.length ≤ 140737488355000) : Calls Try.prog 83 #[.slice ao l.length cap, .int .i64 i] w (IdP w (getI l i)) := by
  have GG : Gro w w := Gro.refl w
  obtain ⟨R, hR⟩ : ∃ R, getI l i = R := ⟨_, rfl⟩
  have HR : Shut (getI l i = R) := ⟨hR⟩
  rw [hR]
  clear hR
  cases hw : decide (i < 0)
  · cases hw2 : decide ((l.length : Int) < i)
    · have h1 : ¬ i < 0 := by simpa using hw
      have h2 : ¬ (l.length : Int) < i := by simpa using hw2
      obtain ⟨p, rfl⟩ : ∃ p : Nat, i = (p : Int) := ⟨i.toNat, by omega⟩
      have hp : p ≤ l.length := by omega
      have HR2 : Shut ((if l.length - p < 16 then (z16, 0, 3) else ((l.drop p).take 16, p + 16, 0)) = R) := ⟨by rw [← HR.out]; unfold getI; rw [if_neg (show ¬ ((p : Int) < 0 ∨ (l.length : Int) < (p : Int)) by omega)]; rfl⟩
      clear HR h1 h2
      by_cases h16 : l.length - p < 16
      · have hR : R = (z16, 0, 3) := by rw [← HR2.out, if_pos h16]
        subst hR
        clear HR2
        go_enter Try.func83, Try.ntmps83
        go_wp2_with (first | (with_reducible refine jw ?_; first | (refine jW 4 rfl rfl 52 rfl _ zero38 ?_; intro w1 g1 G1 e1 k1; have b1 := jk GG e1; replace GG := GG.trans G1; clear G1 e1; (try simp only [Act.put, List.setIfInBounds_toArray, List.set_cons_zero, List.set_cons_succ])) | (refine jW 7 rfl rfl 52 rfl _ zero38 ?_; intro w2 g2 G2 e2 k2; have b2 := jk GG e2; have d12 := jH k1 e2; replace k1 := G2.has k1; replace GG := GG.trans G2; clear G2 e2; (try simp only [Act.put, List.setIfInBounds_toArray, List.set_cons_zero, List.set_cons_succ])) | (refine jc 10 rfl rfl (.bool false) (jK _ _ _ rfl (p : Int) 0 rfl rfl false hw _) ?_; (try simp only [Act.put, List.setIfInBounds_toArray, List.set_cons_zero, List.set_cons_succ])) | (refine jv 15 rfl rfl (.bool false) (jX _ _ _ rfl (p : Int) (l.length : Int) rfl rfl false hw2 _) ?_; (try simp only [Act.put, List.setIfInBounds_toArray, List.set_cons_zero, List.set_cons_succ])) | (refine jc 21 rfl rfl (.int .i64 ((l.length - p : Nat) : Int)) (jR _ _ _ rfl (l.length : Int) (p : Int) _ rfl rfl (by omega) (by omega) (by omega) _) ?_; (try simp only [Act.put, List.setIfInBounds_toArray, List.set_cons_zero, List.set_cons_succ])) | (refine jc 22 rfl rfl (.bool true) (jK _ _ _ rfl ((l.length - p : Nat) : Int) 16 rfl rfl true (by simp; omega) _) ?_; (try simp only [Act.put, List.setIfInBounds_toArray, List.set_cons_zero, List.set_cons_succ])) | (refine wpList_load_row rfl 52 _ rfl _ rfl 52 _ (0, 0) _ k2 Try.underlying52 rfl (by kernel_rfl) ?_; (try simp only [Act.put, List.setIfInBounds_toArray, List.set_cons_zero, List.set_cons_succ])) | (refine zl rfl rfl 52 _ _ rfl g1 rfl _ rfl 52 _ k1 (size38 z16 rfl) (rfl) (uH _) ?_; intro wN SN; replace k2 := SN.has (by omega) k2; replace k1 := SN.new; replace GG := GG.store SN b1; clear SN)))
        exact bodyPost_ret (ju Try.results83 _ _ g1 52 _ (0, 0) _ rfl _ _ rfl rfl k1 Try.underlying52 rfl (size38 _ rfl)) rfl ⟨rfl, GG⟩
      · obtain ⟨L, hL⟩ : ∃ L, (l.drop p).take 16 = L := ⟨_, rfl⟩
        have hR : R = (L, p + 16, 0) := by rw [← HR2.out, if_neg h16, hL]
        have H16 : L.length = 16 := by rw [← hL]; simp; omega
        have HCJ : Shut (∀ j, j < 16 → ∃ ad, ao = some ad ∧ w.cell? (ad.add (p + j)) = some (.int .u8 (L.getD j 0 : Int))) := ⟨fun j hj => by
          obtain ⟨ad, h1, h2⟩ := HC.at (j := p + j) (by omega)
          refine ⟨ad, h1, ?_⟩
          rw [h2, ← hL, List.getD_eq_getElem?_getD, List.getD_eq_getElem?_getD, List.getElem?_take, if_pos hj, List.getElem?_drop]⟩
        have HT : Shut (∀ j, j < 16 → (bA (L.take j ++ List.replicate (16 - j) 0)).setIfInBounds j (.int .u8 (L.getD j 0 : Int)) = bA (L.take (j + 1) ++ List.replicate (16 - (j + 1)) 0)) := ⟨QZ L H16⟩
        have HTL : Shut (∀ j, j ≤ 16 → (L.take j ++ List.replicate (16 - j) 0).length = 16) := ⟨fun j hj => by simp; omega⟩
        subst hR
        have HS : Shut (L.length = 16) := ⟨H16⟩
        clear HR2 hL H16
        go_enter Try.func83, Try.ntmps83
        go_wp2_with (first | (with_reducible refine jw ?_; first | (refine jW 4 rfl rfl 52 rfl _ zero38 ?_; intro w1 g1 G1 e1 k1; have b1 := jk GG e1; replace GG := GG.trans G1; clear G1 e1; (try simp only [Act.put, List.setIfInBounds_toArray, List.set_cons_zero, List.set_cons_succ])) | (refine jW 7 rfl rfl 52 rfl _ zero38 ?_; intro w2 g2 G2 e2 k2; have b2 := jk GG e2; have d12 := jH k1 e2; replace k1 := G2.has k1; replace GG := GG.trans G2; clear G2 e2; (try simp only [Act.put, List.setIfInBounds_toArray, List.set_cons_zero, List.set_cons_succ])) | (refine jc 10 rfl rfl (.bool false) (jK _ _ _ rfl (p : Int) 0 rfl rfl false hw _) ?_; (try simp only [Act.put, List.setIfInBounds_toArray, List.set_cons_zero, List.set_cons_succ])) | (refine jv 15 rfl rfl (.bool false) (jX _ _ _ rfl (p : Int) (l.length : Int) rfl rfl false hw2 _) ?_; (try simp only [Act.put, List.setIfInBounds_toArray, List.set_cons_zero, List.set_cons_succ])) | (refine jc 21 rfl rfl (.int .i64 ((l.length - p : Nat) : Int)) (jR _ _ _ rfl (l.length : Int) (p : Int) _ rfl rfl (by omega) (by omega) (by omega) _) ?_; (try simp only [Act.put, List.setIfInBounds_toArray, List.set_cons_zero, List.set_cons_succ])) | (refine jc 22 rfl rfl (.bool false) (jK _ _ _ rfl ((l.length - p : Nat) : Int) 16 rfl rfl false (by simp; omega) _) ?_; (try simp only [Act.put, List.setIfInBounds_toArray, List.set_cons_zero, List.set_cons_succ]))))
        have kk1 := k1
        have kk2 := k2
        clear k1 k2
        go_loopw [8] (fun i wr => ∃ j : Nat, j ≤ 16 ∧ i = .int .i64 (j : Int) ∧ Gro w wr ∧ wr.heap[g1]? = some (.cells (bA z16) 52 (0, 0)) ∧ wr.heap[g2]? = some (.cells (bA (L.take j ++ List.replicate (16 - j) 0)) 52 (0, 0))) (fun i _ => 16 - (intOf i).toNat)
        case atStart => exact ⟨0, by omega, rfl, GG, kk1, kk2⟩
        case round =>
          rename_i wr
          clear GG kk1 kk2
          obtain ⟨j, hj, rfl, GG, k1, k2⟩ := hrel
          by_cases hj16 : j = 16
          · subst hj16
            have e : L.take 16 ++ List.replicate (16 - 16) 0 = L := by simp [List.take_of_length_le (Nat.le_of_eq HS.out)]
            rw [e] at k2
            go_wp2_with (first | (with_reducible refine jw ?_; first | (refine jc 25 rfl rfl (.bool false) (jK _ _ _ rfl ((16 : Nat) : Int) 16 rfl rfl false (by decide) _) ?_; (try simp only [Act.put, List.setIfInBounds_toArray, List.set_cons_zero, List.set_cons_succ])) | (refine wpList_load_row rfl 52 _ rfl _ rfl 52 _ (0, 0) _ k2 Try.underlying52 rfl (by exact size38 _ HS.out) ?_; (try simp only [Act.put, List.setIfInBounds_toArray, List.set_cons_zero, List.set_cons_succ])) | (refine jc 38 rfl rfl (.int .i64 ((p + 16 : Nat) : Int)) (jp _ _ _ rfl (p : Int) 16 _ rfl rfl (by omega) (by omega) (by omega) _) ?_; (try simp only [Act.put, List.setIfInBounds_toArray, List.set_cons_zero, List.set_cons_succ])) | (refine zl rfl rfl 52 _ _ rfl g1 rfl _ rfl 52 _ k1 (size38 _ HS.out) (hle16 _ HS.out) (uH _) ?_; intro wN SN; replace k2 := SN.has (by omega) k2; replace k1 := SN.new; replace GG := GG.store SN b1; clear SN)))
            exact bodyPost_ret (ju Try.results83 _ _ g1 52 _ (0, 0) _ rfl _ _ rfl rfl k1 Try.underlying52 rfl (size38 _ HS.out)) rfl ⟨rfl, GG⟩
          · have hj' : j < 16 := by omega
            obtain ⟨ad, rfl, hc⟩ := HCJ.out j hj'
            have hcr : Shut (wr.cell? (ad.add (p + j)) = _) := ⟨(World.cell?_of_block (GG.block _ (World.block_lt_of_cell? w _ hc))).trans hc⟩
            have HT2 : Shut _ := ⟨HT.out j hj'⟩
            have HZ : Shut (j < (bA (L.take j ++ List.replicate (16 - j) 0)).size) := ⟨by rw [vC, HTL.out j hj]; exact hj'⟩
            clear hc
            obtain ⟨z, hz⟩ : ∃ z, L.getD j 0 = z := ⟨_, rfl⟩
            rw [hz] at hcr HT2
            clear hz
            go_wp2_with (first | (with_reducible refine jw ?_; first | (refine jc 25 rfl rfl (.bool true) (jK _ _ _ rfl (j : Int) 16 rfl rfl true (by simp; omega) _) ?_; (try simp only [Act.put, List.setIfInBounds_toArray, List.set_cons_zero, List.set_cons_succ])) | (refine jc 32 rfl rfl (.int .i64 ((p + j : Nat) : Int)) (jp _ _ _ rfl (p : Int) (j : Int) _ rfl rfl (by omega) (by omega) (by omega) _) ?_; (try simp only [Act.put, List.setIfInBounds_toArray, List.set_cons_zero, List.set_cons_succ])) | (refine jc 33 rfl rfl (.pointer (some (ad.add (p + j)))) (zd bT _ _ rfl ad l.length cap (p + j) rfl rfl (by omega) _) ?_; (try simp only [Act.put, List.setIfInBounds_toArray, List.set_cons_zero, List.set_cons_succ])) | (refine jc 34 rfl rfl (.int .u8 (z : Int)) (zo bT _ rfl (ad.add (p + j)) rfl _ _ hcr.out) ?_; (try simp only [Act.put, List.setIfInBounds_toArray, List.set_cons_zero, List.set_cons_succ])) | (refine jc 35 rfl rfl (.pointer (some ⟨g2, j, none⟩)) (Qu _ _ rfl g2 j hj' rfl rfl _) ?_; (try simp only [Act.put, List.setIfInBounds_toArray, List.set_cons_zero, List.set_cons_succ])) | (refine yR rfl rfl 5 _ _ rfl g2 j rfl .u8 (z : Int) rfl 52 _ k2 size5 HZ.out _ HT2.out ?_; intro wN SN; replace k1 := SN.has (by omega) k1; replace k2 := SN.new; replace GG := GG.store SN b2; clear SN)))
            go_light
            go_roundw
            case rel => exact ⟨j + 1, by omega, by go_num, GG, k1, k2⟩
            case measure => simp [intOf]; omega
    · have hR : R = (z16, 0, 1) := by
        rw [← HR.out, getI, if_pos]
        simp at hw2
        omega
      subst hR
      go_enter Try.func83, Try.ntmps83
      go_wp2_with (first | (with_reducible refine jw ?_; first | (refine jW 4 rfl rfl 52 rfl _ zero38 ?_; intro w1 g1 G1 e1 k1; have b1 := jk GG e1; replace GG := GG.trans G1; clear G1 e1; (try simp only [Act.put, List.setIfInBounds_toArray, List.set_cons_zero, List.set_cons_succ])) | (refine jW 7 rfl rfl 52 rfl _ zero38 ?_; intro w2 g2 G2 e2 k2; have b2 := jk GG e2; have d12 := jH k1 e2; replace k1 := G2.has k1; replace GG := GG.trans G2; clear G2 e2; (try simp only [Act.put, List.setIfInBounds_toArray, List.set_cons_zero, List.set_cons_succ])) | (refine jc 10 rfl rfl (.bool false) (jK _ _ _ rfl i 0 rfl rfl false hw _) ?_; (try simp only [Act.put, List.setIfInBounds_toArray, List.set_cons_zero, List.set_cons_succ])) | (refine jv 15 rfl rfl (.bool true) (jX _ _ _ rfl i (l.length : Int) rfl rfl true hw2 _) ?_; (try simp only [Act.put, List.setIfInBounds_toArray, List.set_cons_zero, List.set_cons_succ])) | (refine wpList_load_row rfl 52 _ rfl _ rfl 52 _ (0, 0) _ k2 Try.underlying52 rfl (by kernel_rfl) ?_; (try simp only [Act.put, List.setIfInBounds_toArray, List.set_cons_zero, List.set_cons_succ])) | (refine zl rfl rfl 52 _ _ rfl g1 rfl _ rfl 52 _ k1 (size38 z16 rfl) (rfl) (uH _) ?_; intro wN SN; replace k2 := SN.has (by omega) k2; replace k1 := SN.new; replace GG := GG.store SN b1; clear SN)))
      exact bodyPost_ret (ju Try.results83 _ _ g1 52 _ (0, 0) _ rfl _ _ rfl rfl k1 Try.underlying52 rfl (size38 _ rfl)) rfl ⟨rfl, GG⟩
  · have hR : R = (z16, 0, 1) := by
      rw [← HR.out, getI, if_pos]
      simp at hw
      omega
    subst hR
    go_enter Try.func83, Try.ntmps83
    go_wp2_with (first | (with_reducible refine jw ?_; first | (refine jW 4 rfl rfl 52 rfl _ zero38 ?_; intro w1 g1 G1 e1 k1; have b1 := jk GG e1; replace GG := GG.trans G1; clear G1 e1; (try simp only [Act.put, List.setIfInBounds_toArray, List.set_cons_zero, List.set_cons_succ])) | (refine jW 7 rfl rfl 52 rfl _ zero38 ?_; intro w2 g2 G2 e2 k2; have b2 := jk GG e2; have d12 := jH k1 e2; replace k1 := G2.has k1; replace GG := GG.trans G2; clear G2 e2; (try simp only [Act.put, List.setIfInBounds_toArray, List.set_cons_zero, List.set_cons_succ])) | (refine jc 10 rfl rfl (.bool true) (jK _ _ _ rfl i 0 rfl rfl true hw _) ?_; (try simp only [Act.put, List.setIfInBounds_toArray, List.set_cons_zero, List.set_cons_succ])) | (refine wpList_load_row rfl 52 _ rfl _ rfl 52 _ (0, 0) _ k2 Try.underlying52 rfl (by kernel_rfl) ?_; (try simp only [Act.put, List.setIfInBounds_toArray, List.set_cons_zero, List.set_cons_succ])) | (refine zl rfl rfl 52 _ _ rfl g1 rfl _ rfl 52 _ k1 (size38 z16 rfl) (rfl) (uH _) ?_; intro wN SN; replace k2 := SN.has (by omega) k2; replace k1 := SN.new; replace GG := GG.store SN b1; clear SN)))
    exact bodyPost_ret (ju Try.results83 _ _ g1 52 _ (0, 0) _ rfl _ _ rfl rfl k1 Try.underlying52 rfl (size38 _ rfl)) rfl ⟨rfl, GG⟩
end Go.Proofs.Ytgfnjekpafempaa
