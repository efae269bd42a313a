/- The document's Append. -/
import Derived.Test.YtgfnjekpafempaaGE13
import Derived.Test.YtgfnjekpafempaaGAb
namespace Go.Proofs.Ytgfnjekpafempaa
set_option maxHeartbeats 4000000
set_option maxRecDepth 100000
open Go.RowKit
def rawW (l : List Nat) : List Nat := (l.length / 256) :: (l.length % 256) :: l
theorem yj (l : List Nat) : (rawW l).length = l.length + 2 := by simp [rawW]
theorem KZ (l : List Nat) : recW l = rawW l ++ zs (secN l.length * 64 - (l.length + 2)) := by
  simp only [recW, rawW, List.cons_append]
  rw [Nat.sub_sub, Nat.add_comm 2]
theorem ZR {l : List Nat} {j : Nat} (hj : j < secN l.length) : padS (((rawW l).drop (j * 64)).take 64) = ((recW l).drop (j * 64)).take 64 := by
  have hl := yj l
  have hk : secN l.length * 64 < l.length + 2 + 64 := by unfold secN; omega
  have h1 : j * 64 ≤ (rawW l).length := by rw [hl]; omega
  rw [KZ, List.drop_append_of_le_length h1, padS]
  by_cases h : 64 ≤ ((rawW l).drop (j * 64)).length
  · rw [List.take_append_of_le_length h, List.length_take, Nat.min_eq_left h]
    simp [zs]
  · have h2 : ((rawW l).drop (j * 64)).length = l.length + 2 - j * 64 := by rw [List.length_drop, hl]
    rw [List.take_of_length_le (by omega), List.take_append, List.take_of_length_le (by omega)]
    congr 1
    simp only [zs, List.take_replicate]
    congr 1
    have : (j + 1) * 64 ≤ secN l.length * 64 := Nat.mul_le_mul_right _ hj
    omega
theorem ut (l : List Nat) (j : Nat) : (((rawW l).drop (j * 64)).take 64).length ≤ 64 := by rw [List.length_take]; omega
theorem Qo {P : Program} {o : Oper} {A : Act} (t t2 : TypeId) (x y : Operand) (ho : o.op = .binOp .quo t x y t2) (a m : Nat) (hx : A.eval x = .int .u64 (a : Int)) (hy : A.eval y = .int .u64 (m : Int)) (hm : m ≠ 0) (ha : a < lim) (w : World) : (execOp A.eval o).run P w = .ok (.value (.int .u64 ((a / m : Nat) : Int))) w := by
  refine jD .quo t x y t2 ho _ _ _ hx hy (by simp [eqGuard]) ?_
  have h1 : (a : Int).tdiv (m : Int) = ((a / m : Nat) : Int) := tdivN a m
  have h2 : (m : Int) ≠ 0 := by omega
  have h3 : IntKind.u64.wrap ((a / m : Nat) : Int) = ((a / m : Nat) : Int) := by
    have : a / m ≤ a := Nat.div_le_self _ _
    have hl : lim = 18446744073709551616 := rfl
    generalize a / m = c at *
    simp [IntKind.wrap, IntKind.bits, IntKind.signed]
    omega
  simp only [binOp, Op.intDiv, if_neg h2, h1, h3]
  rfl
def layB (C : List Nat) (off x j : Nat) : List Nat := wr C (off + 8 - j) ((beL 8 x).drop (8 - j))
theorem VT (C : List Nat) (off x : Nat) : layB C off x 0 = C := by
  rw [layB, Nat.sub_zero, List.drop_of_length_le (by rw [jP]; exact Nat.le_refl _), ZY]
theorem jby {x j : Nat} (hj : j < 8) : (beL 8 x).drop (8 - (j + 1)) = (x / 256 ^ j % 256) :: (beL 8 x).drop (8 - j) := by
  have hl := jP 8 x
  rw [List.drop_eq_getElem_cons (by omega)]
  have h1 : (beL 8 x)[8 - (j + 1)]'(by omega) = x / 256 ^ j % 256 := by
    have := yV 8 x (8 - (j + 1)) (by omega)
    rw [List.getD_eq_getElem?_getD, List.getElem?_eq_getElem (by omega), Option.getD_some] at this
    rw [this, show 8 - 1 - (8 - (j + 1)) = j by omega]
  rw [h1, show 8 - (j + 1) + 1 = 8 - j by omega]
theorem vl {C : List Nat} {off x j : Nat} (hC : off + 8 ≤ C.length) (hj : j ≤ 8) : (layB C off x j).length = C.length := by
  rw [layB, yG]
  rw [List.length_drop, jP]
  omega
theorem Jr {C : List Nat} {off x j : Nat} (hC : off + 8 ≤ C.length) (hj : j < 8) : (layB C off x j).set (off + 7 - j) (x / 256 ^ j % 256) = layB C off x (j + 1) := by
  have hl : ((beL 8 x).drop (8 - j)).length = j := by rw [List.length_drop, jP]; omega
  have h1 : (C.take (off + 8 - (j + 1))).length = off + 7 - j := by rw [List.length_take]; omega
  rw [layB, layB, jby hj, wr, wr, hl, List.length_cons, hl]
  have e1 : C.take (off + 8 - j) = C.take (off + 8 - (j + 1)) ++ [C.getD (off + 7 - j) 0] := by
    rw [show off + 8 - j = (off + 8 - (j + 1)) + 1 by omega, yu _ 0 _ (by omega), show off + 8 - (j + 1) = off + 7 - j by omega]
  rw [e1, List.append_assoc, List.append_assoc, List.set_append_right _ _ (by omega), h1, Nat.sub_self]
  simp only [List.cons_append, List.nil_append, List.set_cons_zero, List.append_assoc]
  rw [show off + 8 - (j + 1) + (j + 1) = off + 8 - j + j by omega]
theorem VS {C : List Nat} {off x : Nat} (_hC : off + 8 ≤ C.length) : layB C off x 8 = wr C off (beL 8 x) := by
  rw [layB, show off + 8 - 8 = off by omega, Nat.sub_self, List.drop_zero]
theorem QS (h : Hd) : wr (wr (wr (zs 24) 0 (beL 8 h.g)) 8 (beL 8 h.u)) 16 (beL 8 h.c) = hdL h := by
  have l1 := jP 8 h.g
  have l2 := jP 8 h.u
  have l3 := jP 8 h.c
  have e1 : wr (zs 24) 0 (beL 8 h.g) = beL 8 h.g ++ zs 16 := by rw [Ud, l1]
  have e2 : wr (beL 8 h.g ++ zs 16) 8 (beL 8 h.u) = beL 8 h.g ++ (beL 8 h.u ++ zs 8) := by
    rw [wr, List.take_left' l1, l2, ← List.drop_drop, List.drop_left' l1, List.append_assoc]
    rfl
  rw [e1, e2, wr, hdL, l3]
  have l4 : (beL 8 h.g ++ beL 8 h.u).length = 16 := by rw [List.length_append, l1, l2]
  rw [← List.append_assoc, List.take_left' l4, show 16 + 8 = 16 + 8 from rfl, ← List.drop_drop, List.drop_left' l4]
  simp [zs, List.append_assoc]
theorem Yq (x j : Nat) : x / 256 ^ j / 256 = x / 256 ^ (j + 1) := by rw [Nat.div_div_eq_div_mul, ← Nat.pow_succ]
def RApP (w : World) (mp rp B : Nat) (ro : Option Addr) (rc n : Nat) (L : List Nat) (pw dn : Int) (h : Hd) (l : List Nat) (e : Ending) (w' : World) : Prop :=
  ∃ dn', e = .returned (.int .i64 (bif apOK pw (secN l.length) then 0 else 8)) ∧ GroS (rp :: mp :: blk ro) w w' ∧ dn ≤ dn' ∧ dn' ≤ dn + 20 ∧ QK w' rp B ro rc n (apL L pw h l) (apP pw (secN l.length)) dn' ∧ MK w' mp rp (apH pw h l) (!apOK pw (secN l.length))
theorem Yg (w : World) (mp rp : Nat) (h : Hd) (HM : MK w mp rp h true) (ao : Option Addr) (cap : Nat) (l : List Nat) : Calls Try.prog 11 #[vP mp 0, .slice ao l.length cap] w fun e w' => e = .returned (iK 8) ∧ Gro w w' := by
  refine js Try.func11 rfl Try.ntmps11 [vP mp 0, .slice ao l.length cap] [vP mp 0, .slice ao l.length cap, uD, uD, uD, uD, uD, uD, uD, uD, uD, uD, uD, uD, uD, uD, uD, uD, uD, uD, uD, uD, uD, uD, uD, uD, uD, uD, uD, uD, uD, uD, uD, uD, uD, uD, uD, uD, uD, uD, uD, uD, uD, uD, uD, uD, uD, uD, uD, uD, uD, uD, uD, uD, uD, uD, uD, uD, uD, uD, uD, uD, uD, uD, uD, uD, uD, uD, uD, uD, uD, uD, uD, uD, uD, uD, uD, uD, uD, uD, uD, uD, uD, uD, uD, uD, uD, uD, uD, uD, uD, uD, uD, uD, uD, uD, uD, uD, uD, uD, uD, uD, uD, uD, uD, uD, uD, uD, uD, uD, uD, uD, uD, uD, uD, uD, uD, uD, uD, uD, uD, uD, uD, uD, uD, uD, uD, uD, uD, uD, uD, uD, uD, uD, uD, uD, uD, uD, uD, uD, uD, uD, uD, uD, uD, uD, uD, uD, uD, uD, uD, uD, uD, uD, uD, uD, uD, uD, uD, uD, uD, uD, uD, uD, uD, uD, uD, uD, uD, uD, uD, uD] rfl ?_
  have GG := Gro.refl w
  have kmp := HM.box
  refine qS ?_
  refine ja 4 rfl rfl (iK 0) (rfl) ?_
  refine nr ?_; intro U h; simp only [z0, z1] at h; subst h
  refine qL (qE (qS ?_))
  refine ja 18 rfl rfl (vP mp 0) (rfl) ?_
  refine ja 19 rfl rfl (vP mp 0) (jn _ rfl _ rfl) ?_
  refine ja 20 rfl rfl (vP mp 4) (jf 79 _ 4 rfl _ _ rfl _ (by kernel_rfl)) ?_
  refine ja 21 rfl rfl (vT) (jq 4 _ rfl mp 4 rfl 79 _ kmp (na4 _) _ rfl) ?_
  refine nr ?_; intro U h; simp only [z0, z1] at h; subst h
  refine qL (qT rfl (qS ?_))
  refine ja 4 rfl rfl (iK 8) (rfl) ?_
  refine nr ?_; intro U h; simp only [z0, z1] at h; subst h
  refine qL (qR (jr ?_))
  refine bodyPost_ret (results_tmp Try.results11 _ _ _) rfl ?_
  exact ⟨rfl, GG⟩
theorem uY (w : World) (mp rp : Nat) (h : Hd) (HM : MK w mp rp h false) (ao : Option Addr) (cap : Nat) (l : List Nat) (hl : 1024 < l.length) : Calls Try.prog 11 #[vP mp 0, .slice ao l.length cap] w fun e w' => e = .returned (iK 4) ∧ Gro w w' := by
  refine js Try.func11 rfl Try.ntmps11 [vP mp 0, .slice ao l.length cap] [vP mp 0, .slice ao l.length cap, uD, uD, uD, uD, uD, uD, uD, uD, uD, uD, uD, uD, uD, uD, uD, uD, uD, uD, uD, uD, uD, uD, uD, uD, uD, uD, uD, uD, uD, uD, uD, uD, uD, uD, uD, uD, uD, uD, uD, uD, uD, uD, uD, uD, uD, uD, uD, uD, uD, uD, uD, uD, uD, uD, uD, uD, uD, uD, uD, uD, uD, uD, uD, uD, uD, uD, uD, uD, uD, uD, uD, uD, uD, uD, uD, uD, uD, uD, uD, uD, uD, uD, uD, uD, uD, uD, uD, uD, uD, uD, uD, uD, uD, uD, uD, uD, uD, uD, uD, uD, uD, uD, uD, uD, uD, uD, uD, uD, uD, uD, uD, uD, uD, uD, uD, uD, uD, uD, uD, uD, uD, uD, uD, uD, uD, uD, uD, uD, uD, uD, uD, uD, uD, uD, uD, uD, uD, uD, uD, uD, uD, uD, uD, uD, uD, uD, uD, uD, uD, uD, uD, uD, uD, uD, uD, uD, uD, uD, uD, uD, uD, uD, uD, uD, uD, uD, uD, uD, uD, uD] rfl ?_
  have GG := Gro.refl w
  have kmp := HM.box
  refine qS ?_
  refine ja 4 rfl rfl (iK 0) (rfl) ?_
  refine nr ?_; intro U h; simp only [z0, z1] at h; subst h
  refine qL (qE (qS ?_))
  refine ja 18 rfl rfl (vP mp 0) (rfl) ?_
  refine ja 19 rfl rfl (vP mp 0) (jn _ rfl _ rfl) ?_
  refine ja 20 rfl rfl (vP mp 4) (jf 79 _ 4 rfl _ _ rfl _ (by kernel_rfl)) ?_
  refine ja 21 rfl rfl (vF) (jq 4 _ rfl mp 4 rfl 79 _ kmp (na4 _) _ rfl) ?_
  refine nr ?_; intro U h; simp only [z0, z1] at h; subst h
  refine qL (qF rfl (qK (qE (qS ?_))))
  refine ja 22 rfl rfl (.slice ao l.length cap) (rfl) ?_
  refine ja 23 rfl rfl (nK l.length) (jA Try.underlying30 _ rfl _ _ _ rfl _) ?_
  refine ja 24 rfl rfl (vT) (jJ 3 _ _ _ rfl ((l.length : Nat) : Int) 1024 rfl rfl true (by first | exact decide_eq_true (by omega) | exact decide_eq_false (by omega)) _) ?_
  refine nr ?_; intro U h; simp only [z0, z1] at h; subst h
  refine qL (qT rfl (qS ?_))
  refine ja 4 rfl rfl (iK 4) (rfl) ?_
  refine nr ?_; intro U h; simp only [z0, z1] at h; subst h
  refine qL (qR (jr ?_))
  refine bodyPost_ret (results_tmp Try.results11 _ _ _) rfl ?_
  exact ⟨rfl, GG⟩
theorem uZ (w : World) (mp rp : Nat) (h : Hd) (HM : MK w mp rp h false) (B : Nat) (ro : Option Addr) (rc n : Nat) (L : List Nat) (pw dn : Int) (HR : QK w rp B ro rc n L pw dn) (hu : h.u + 2 ≤ n) (ao : Option Addr) (cap : Nat) (l : List Nat) (hl : l.length ≤ 1024) (hf : n - 2 - h.u < secN l.length) : Calls Try.prog 11 #[vP mp 0, .slice ao l.length cap] w fun e w' => e = .returned (iK 5) ∧ Gro w w' := by
  refine js Try.func11 rfl Try.ntmps11 [vP mp 0, .slice ao l.length cap] [vP mp 0, .slice ao l.length cap, uD, uD, uD, uD, uD, uD, uD, uD, uD, uD, uD, uD, uD, uD, uD, uD, uD, uD, uD, uD, uD, uD, uD, uD, uD, uD, uD, uD, uD, uD, uD, uD, uD, uD, uD, uD, uD, uD, uD, uD, uD, uD, uD, uD, uD, uD, uD, uD, uD, uD, uD, uD, uD, uD, uD, uD, uD, uD, uD, uD, uD, uD, uD, uD, uD, uD, uD, uD, uD, uD, uD, uD, uD, uD, uD, uD, uD, uD, uD, uD, uD, uD, uD, uD, uD, uD, uD, uD, uD, uD, uD, uD, uD, uD, uD, uD, uD, uD, uD, uD, uD, uD, uD, uD, uD, uD, uD, uD, uD, uD, uD, uD, uD, uD, uD, uD, uD, uD, uD, uD, uD, uD, uD, uD, uD, uD, uD, uD, uD, uD, uD, uD, uD, uD, uD, uD, uD, uD, uD, uD, uD, uD, uD, uD, uD, uD, uD, uD, uD, uD, uD, uD, uD, uD, uD, uD, uD, uD, uD, uD, uD, uD, uD, uD, uD, uD, uD, uD, uD, uD] rfl ?_
  have GG := Gro.refl w
  have kmp := HM.box
  refine qS ?_
  refine ja 4 rfl rfl (iK 0) (rfl) ?_
  refine nr ?_; intro U h; simp only [z0, z1] at h; subst h
  refine qL (qE (qS ?_))
  refine ja 18 rfl rfl (vP mp 0) (rfl) ?_
  refine ja 19 rfl rfl (vP mp 0) (jn _ rfl _ rfl) ?_
  refine ja 20 rfl rfl (vP mp 4) (jf 79 _ 4 rfl _ _ rfl _ (by kernel_rfl)) ?_
  refine ja 21 rfl rfl (vF) (jq 4 _ rfl mp 4 rfl 79 _ kmp (na4 _) _ rfl) ?_
  refine nr ?_; intro U h; simp only [z0, z1] at h; subst h
  refine qL (qF rfl (qK (qE (qS ?_))))
  refine ja 22 rfl rfl (.slice ao l.length cap) (rfl) ?_
  refine ja 23 rfl rfl (nK l.length) (jA Try.underlying30 _ rfl _ _ _ rfl _) ?_
  refine ja 24 rfl rfl (vF) (jJ 3 _ _ _ rfl ((l.length : Nat) : Int) 1024 rfl rfl false (by first | exact decide_eq_true (by omega) | exact decide_eq_false (by omega)) _) ?_
  refine nr ?_; intro U h; simp only [z0, z1] at h; subst h
  refine qL (qF rfl (qK (qS ?_)))
  refine ja 25 rfl rfl (.slice ao l.length cap) (rfl) ?_
  refine nr ?_; intro U h; simp only [z0, z1] at h; subst h
  refine jy 26 rfl rfl _ 33 Try.call33 rfl rfl _ rfl [.slice ao l.length cap] rfl (uU _ ao cap l (by omega)) ?_
  intro w1 G
  replace kmp := G.has kmp
  replace HR := HR.gro G
  replace GG := GG.trans G
  clear G
  refine nr ?_; intro U h; simp only [z0, z1] at h; subst h
  refine ja 5 rfl rfl (nK (secN l.length)) (rfl) ?_
  refine nr ?_; intro U h; simp only [z0, z1] at h; subst h
  refine qL (qE (qS ?_))
  refine ja 27 rfl rfl (nK (secN l.length)) (rfl) ?_
  refine ja 28 rfl rfl (vP mp 0) (rfl) ?_
  refine nr ?_; intro U h; simp only [z0, z1] at h; subst h
  refine jy 29 rfl rfl _ 34 Try.call34 rfl rfl _ rfl [vP mp 0] rfl (ZK _ mp rp h false ⟨kmp⟩ B ro rc n L pw dn HR hu) ?_
  intro w2 G
  replace kmp := G.has kmp
  replace HR := HR.gro G
  replace GG := GG.trans G
  clear G
  refine nr ?_; intro U h; simp only [z0, z1] at h; subst h
  refine ja 30 rfl rfl (vT) (jJ 3 _ _ _ rfl ((secN l.length : Nat) : Int) ((n - 2 - h.u : Nat) : Int) rfl rfl true (by first | exact decide_eq_true (by omega) | exact decide_eq_false (by omega)) _) ?_
  refine nr ?_; intro U h; simp only [z0, z1] at h; subst h
  refine qL (qT rfl (qS ?_))
  refine ja 4 rfl rfl (iK 5) (rfl) ?_
  refine nr ?_; intro U h; simp only [z0, z1] at h; subst h
  refine qL (qR (jr ?_))
  refine bodyPost_ret (results_tmp Try.results11 _ _ _) rfl ?_
  exact ⟨rfl, GG⟩
theorem Jh {ao : Option Addr} {cap i : Nat} {ad : Addr} (h : cutA ao cap i = some ad) : ∃ a, ao = some a ∧ a.block = ad.block := by
  unfold cutA at h
  split at h
  · exact ⟨ad, h, rfl⟩
  · cases ao with
    | none => cases h
    | some a =>
      refine ⟨a, rfl, ?_⟩
      cases h
      rw [zU]
theorem wl1 (x : Nat) : (wr (zs 24) 0 (beL 8 x)).length = 24 := by
  rw [yG (by rw [jP, zt]; decide), zt]
theorem wl2 (x y : Nat) : (wr (wr (zs 24) 0 (beL 8 x)) 8 (beL 8 y)).length = 24 := by
  rw [yG (by rw [jP, wl1]; decide), wl1]
theorem QK.stq {w w' : World} {p B : Nat} {ao : Option Addr} {cap n : Nat} {L : List Nat} {pw dn : Int} {g : Nat} {x : Obj} (h : QK w p B ao cap n L pw dn) (St : Stored w w' g x) (h1 : g ≠ p) (h2 : ∀ ad, ao = some ad → ad.block ≠ g) : QK w' p B ao cap n L pw dn := ⟨St.has (Ne.symm h1) h.box, h.row.apart St h2, h.len, h.le⟩
theorem Zo (w : World) (mp rp : Nat) (h : Hd) (HM : MK w mp rp h false) (B : Nat) (ro : Option Addr) (rc n : Nat) (L : List Nat) (pw dn : Int) (HR : QK w rp B ro rc n L pw dn) (hu : h.u + 2 ≤ n) (ao : Option Addr) (cap : Nat) (l : List Nat) (HB : BS (rp :: mp :: blk ro) w ao cap l) (hl : l.length ≤ 1024) (hf : h.u + secN l.length + 2 ≤ n) (hP : okP pw) (hg : h.g + 1 < lim) (hc : h.c + 1 < 9223372036854775808) (hd : 0 ≤ dn) (hd2 : dn < 9223372036854760000) : Calls Try.prog 11 #[vP mp 0, .slice ao l.length cap] w (RApP w mp rp B ro rc n L pw dn h l) := by
  refine js Try.func11 rfl Try.ntmps11 [vP mp 0, .slice ao l.length cap] [vP mp 0, .slice ao l.length cap, uD, uD, uD, uD, uD, uD, uD, uD, uD, uD, uD, uD, uD, uD, uD, uD, uD, uD, uD, uD, uD, uD, uD, uD, uD, uD, uD, uD, uD, uD, uD, uD, uD, uD, uD, uD, uD, uD, uD, uD, uD, uD, uD, uD, uD, uD, uD, uD, uD, uD, uD, uD, uD, uD, uD, uD, uD, uD, uD, uD, uD, uD, uD, uD, uD, uD, uD, uD, uD, uD, uD, uD, uD, uD, uD, uD, uD, uD, uD, uD, uD, uD, uD, uD, uD, uD, uD, uD, uD, uD, uD, uD, uD, uD, uD, uD, uD, uD, uD, uD, uD, uD, uD, uD, uD, uD, uD, uD, uD, uD, uD, uD, uD, uD, uD, uD, uD, uD, uD, uD, uD, uD, uD, uD, uD, uD, uD, uD, uD, uD, uD, uD, uD, uD, uD, uD, uD, uD, uD, uD, uD, uD, uD, uD, uD, uD, uD, uD, uD, uD, uD, uD, uD, uD, uD, uD, uD, uD, uD, uD, uD, uD, uD, uD, uD, uD, uD, uD, uD, uD] rfl ?_
  have GG := GroS.refl (rp :: mp :: blk ro) w
  have kmp := HM.box
  have hn4 := HR.le
  have hlim : lim = 18446744073709551616 := rfl
  have hsn : secN l.length ≤ 17 := by unfold secN; omega
  have hs2 : l.length + 2 ≤ secN l.length * 64 ∧ secN l.length * 64 < l.length + 66 := by unfold secN; omega
  have hlrp := ji HR.box
  have hlmp := ji kmp
  have hLn := HR.len
  have hlro : ∀ ad, ro = some ad → ad.block < w.heap.size := fun ad ha => (HR.row.ge ad ha).2
  have hrm : rp ≠ mp := zj HR.box kmp (by decide)
  have hrn : ∀ ad, ro = some ad → ad.block ≠ mp := fun ad ha => by obtain ⟨cur, hc⟩ := HR.row.blk5 ha; exact zj hc kmp (by decide)
  have hsub : ∀ x ∈ rp :: blk ro, x ∈ rp :: mp :: blk ro := fun x hx => by rcases List.mem_cons.1 hx with e | e; exact List.mem_cons.2 (.inl e); exact List.mem_cons.2 (.inr (List.mem_cons.2 (.inr e)))
  have hmpS : mp ∉ rp :: blk ro := fun hm => by rcases List.mem_cons.1 hm with e | e; exact hrm e.symm; obtain ⟨ad, ha, hb⟩ := mem_blk.1 e; exact hrn ad ha hb
  refine qS ?_
  refine ja 4 rfl rfl (iK 0) (rfl) ?_
  refine nr ?_; intro U h; simp only [z0, z1] at h; subst h
  refine qL (qE (qS ?_))
  refine ja 18 rfl rfl (vP mp 0) (rfl) ?_
  refine ja 19 rfl rfl (vP mp 0) (jn _ rfl _ rfl) ?_
  refine ja 20 rfl rfl (vP mp 4) (jf 79 _ 4 rfl _ _ rfl _ (by kernel_rfl)) ?_
  refine ja 21 rfl rfl (vF) (jq 4 _ rfl mp 4 rfl 79 _ kmp (na4 _) _ rfl) ?_
  refine nr ?_; intro U h; simp only [z0, z1] at h; subst h
  refine qL (qF rfl (qK (qE (qS ?_))))
  refine ja 22 rfl rfl (.slice ao l.length cap) (rfl) ?_
  refine ja 23 rfl rfl (nK l.length) (jA Try.underlying30 _ rfl _ _ _ rfl _) ?_
  refine ja 24 rfl rfl (vF) (jJ 3 _ _ _ rfl ((l.length : Nat) : Int) 1024 rfl rfl false (by first | exact decide_eq_true (by omega) | exact decide_eq_false (by omega)) _) ?_
  refine nr ?_; intro U h; simp only [z0, z1] at h; subst h
  refine qL (qF rfl (qK (qS ?_)))
  refine ja 25 rfl rfl (.slice ao l.length cap) (rfl) ?_
  refine nr ?_; intro U h; simp only [z0, z1] at h; subst h
  refine jy 26 rfl rfl _ 33 Try.call33 rfl rfl _ rfl [.slice ao l.length cap] rfl (uU _ ao cap l (by omega)) ?_
  intro w1 G
  replace kmp := G.has kmp
  replace HR := HR.gro G
  replace HB := HB.gro G
  replace GG := GG.tg G
  clear G
  refine nr ?_; intro U h; simp only [z0, z1] at h; subst h
  refine ja 5 rfl rfl (nK (secN l.length)) (rfl) ?_
  refine nr ?_; intro U h; simp only [z0, z1] at h; subst h
  refine qL (qE (qS ?_))
  refine ja 27 rfl rfl (nK (secN l.length)) (rfl) ?_
  refine ja 28 rfl rfl (vP mp 0) (rfl) ?_
  refine nr ?_; intro U h; simp only [z0, z1] at h; subst h
  refine jy 29 rfl rfl _ 34 Try.call34 rfl rfl _ rfl [vP mp 0] rfl (ZK _ mp rp h false ⟨kmp⟩ B ro rc n L pw dn HR hu) ?_
  intro w2 G
  replace kmp := G.has kmp
  replace HR := HR.gro G
  replace HB := HB.gro G
  replace GG := GG.tg G
  clear G
  refine nr ?_; intro U h; simp only [z0, z1] at h; subst h
  refine ja 30 rfl rfl (vF) (jJ 3 _ _ _ rfl ((secN l.length : Nat) : Int) ((n - 2 - h.u : Nat) : Int) rfl rfl false (by first | exact decide_eq_true (by omega) | exact decide_eq_false (by omega)) _) ?_
  refine nr ?_; intro U h; simp only [z0, z1] at h; subst h
  refine qL (qF rfl (qK (qS ?_)))
  refine ja 31 rfl rfl (.slice ao l.length cap) (rfl) ?_
  refine ja 32 rfl rfl (nK l.length) (jA Try.underlying30 _ rfl _ _ _ rfl _) ?_
  refine ja 33 rfl rfl (iK ((l.length / 256 : Nat) : Int)) (zp _ _ _ rfl ((l.length : Nat) : Int) 256 _ rfl rfl (by decide) (tdivN _ 256) (by omega) (by omega) _) ?_
  refine ja 34 rfl rfl (.int .u8 ((l.length / 256 : Nat) : Int)) (conv35 _ rfl (l.length / 256) (by omega) rfl _) ?_
  refine ja 35 rfl rfl (.slice ao l.length cap) (rfl) ?_
  refine ja 36 rfl rfl (nK l.length) (jA Try.underlying30 _ rfl _ _ _ rfl _) ?_
  refine ja 37 rfl rfl (iK ((l.length % 256 : Nat) : Int)) (ub _ _ _ rfl ((l.length : Nat) : Int) 256 _ rfl rfl (by decide) (tmodN _ 256) (by omega) (by omega) _) ?_
  refine ja 38 rfl rfl (.int .u8 ((l.length % 256 : Nat) : Int)) (conv35 _ rfl (l.length % 256) (by omega) rfl _) ?_
  refine nr ?_; intro U h; simp only [z0, z1] at h; subst h
  refine yM 39 rfl rfl 30 2 _ rfl [(0, .int .u8 ((l.length / 256 : Nat) : Int)), (1, .int .u8 ((l.length % 256 : Nat) : Int))] rfl #[.int .u8 ((l.length / 256 : Nat) : Int), .int .u8 ((l.length % 256 : Nat) : Int)] 5 (by kernel_rfl) ?_
  intro w3 gb G1 egb kgb
  refine nr ?_; intro U h; simp only [z0, z1] at h; subst h
  refine ja 40 rfl rfl (.slice ao l.length cap) (rfl) ?_
  refine nr ?_; intro U h; simp only [z0, z1] at h; subst h
  have HO1 : OB _ 5 .u8 gb (some ⟨gb, 0, none⟩) 2 [l.length / 256, l.length % 256] := OB.made kgb (Nat.le_refl _) (Nat.le_refl _) (by decide) rfl rfl (fun x hx => by rw [yW]; simp at hx; omega)
  refine vD bT 41 rfl rfl _ _ rfl rfl HO1 (l' := l) rfl (HB.nc.gro G1) (by simp only [List.length_cons, List.length_nil]; omega) (by decide) (Nat.le_of_lt (ji kgb)) ?_
  intro ao4 cap4 w4 HO2 BB
  have G := zI G1 BB (Nat.le_of_eq egb)
  have bgb := jO GG egb
  have HO : OB _ 5 .u8 w.heap.size ao4 cap4 (rawW l) := HO2.mono bgb
  clear HO1 HO2 BB G1 egb kgb
  replace kmp := G.has kmp
  replace HR := HR.gro G
  replace HB := HB.gro G
  replace GG := GG.tg G
  clear G
  refine nr ?_; intro U h; simp only [z0, z1] at h; subst h
  refine ja 6 rfl rfl (.slice ao4 ((rawW l).length) cap4) (rfl) ?_
  refine nr ?_; intro U h; simp only [z0, z1] at h; subst h
  refine qL (qE (qS ?_))
  refine ja 7 rfl rfl (iK 0) (rfl) ?_
  refine nr ?_; intro U h; simp only [z0, z1] at h; subst h
  refine qL (qB ?_)
  refine jV (fun mz az wv => ∃ (j : Nat) (pj : Int) (us1 : Nat → Value), mz = secN l.length - j ∧ az = ⟨[vP mp 0, .slice ao l.length cap, uD, uD, us1 0, nK (secN l.length), .slice ao4 ((rawW l).length) cap4, nK j, us1 1, us1 2, uD, uD, uD, uD, uD, uD, uD, uD, vP mp 0, vP mp 0, vP mp 4, vF, .slice ao l.length cap, nK l.length, vF, .slice ao l.length cap, nK (secN l.length), nK (secN l.length), vP mp 0, nK (n - 2 - h.u), vF, .slice ao l.length cap, nK l.length, iK ((l.length / 256 : Nat) : Int), .int .u8 ((l.length / 256 : Nat) : Int), .slice ao l.length cap, nK l.length, iK ((l.length % 256 : Nat) : Int), .int .u8 ((l.length % 256 : Nat) : Int), .slice (some ⟨gb, 0, none⟩) 2 2, .slice ao l.length cap, .slice ao4 ((rawW l).length) cap4, us1 3, us1 4, us1 5, us1 6, us1 7, us1 8, us1 9, us1 10, us1 11, us1 12, us1 13, us1 14, us1 15, us1 16, us1 17, us1 18, us1 19, us1 20, us1 21, us1 22, us1 23, us1 24, us1 25, us1 26, us1 27, us1 28, us1 29, us1 30, us1 31, us1 32, us1 33, us1 34, us1 35, uD, uD, uD, uD, uD, uD, uD, uD, uD, uD, uD, uD, uD, uD, uD, uD, uD, uD, uD, uD, uD, uD, uD, uD, uD, uD, uD, uD, uD, uD, uD, uD, uD, uD, uD, uD, uD, uD, uD, uD, uD, uD, uD, uD, uD, uD, uD, uD, uD, uD, uD, uD, uD, uD, uD, uD, uD, uD, uD, uD, uD, uD, uD, uD, uD, uD, uD, uD, uD, uD, uD, uD, uD, uD, uD, uD, uD, uD, uD, uD, uD, uD, uD, uD, uD, uD, uD, uD, uD, uD, uD, uD, uD, uD, uD, uD, uD].toArray, []⟩ ∧ j ≤ secN l.length ∧ PJ pw j pj ∧ GroS (rp :: mp :: blk ro) w wv ∧ wv.heap[mp]? = some (.cells (c79 (some ⟨rp, 0, none⟩) ((h.g : Nat) : Int) ((h.u : Nat) : Int) ((h.c : Nat) : Int) false) 79 (0, 0)) ∧ QK wv rp B ro rc n (wr L ((2 + h.u) * 64) ((recW l).take (j * 64))) pj (dn + j) ∧ OB wv 5 .u8 w.heap.size ao4 cap4 (rawW l)) ?_ _ ⟨0, pw, (fun kz => ([iK 0, uD, uD, uD, uD, uD, uD, uD, uD, uD, uD, uD, uD, uD, uD, uD, uD, uD, uD, uD, uD, uD, uD, uD, uD, uD, uD, uD, uD, uD, uD, uD, uD, uD, uD, uD] : List Value).getD kz uD), rfl, rfl, Nat.zero_le _, PJ.zero hP, GG, kmp, (by simpa [ZY] using HR), HO⟩
  clear kmp GG HR HO
  rintro mz az wv ⟨j, pj, us1, rfl, rfl, hj, hpj, GG, kmp, HR, HO⟩
  refine qE (qS ?_)
  refine ja 42 rfl rfl (nK j) (rfl) ?_
  refine ja 43 rfl rfl (nK (secN l.length)) (rfl) ?_
  refine nr ?_; intro U h; simp only [z0, z1] at h; subst h
  obtain ⟨p1, hp1⟩ : ∃ p, decide (((j : Nat) : Int) < ((secN l.length : Nat) : Int)) = p := ⟨_, rfl⟩
  refine ja 44 rfl rfl (.bool p1) (jE 3 _ _ _ rfl ((j : Nat) : Int) ((secN l.length : Nat) : Int) rfl rfl p1 hp1 _) ?_
  refine nr ?_; intro U h; simp only [z0, z1] at h; subst h
  cases p1
  have hjn : j = secN l.length := by have := of_decide_eq_false hp1; omega
  rw [hjn, Zd] at HR
  refine qL (qF rfl (wp_exit (jL (jL (zC (jG (qS ?_)))))))
  refine Ze bT 75 rfl rfl _ _ rfl 24 rfl rfl (by omega) (by simp only [maxLen]; omega) ?_
  intro w5 gh G egh kgh
  have bgh := jO GG egh
  have dmpgh := jH kmp egh
  replace kmp := G.has kmp
  replace HR := HR.gro G
  replace HO := HO.gro G
  replace GG := GG.tg G
  clear G egh
  refine nr ?_; intro U h; simp only [z0, z1] at h; subst h
  refine ja 10 rfl rfl (.slice (some ⟨gh, 0, none⟩) 24 24) (rfl) ?_
  refine nr ?_; intro U h; simp only [z0, z1] at h; subst h
  refine qL (qE (qE ?_))
  refine jl (A := ?Ax1) 6 [(0, 76), (1, 77), (2, 78), (3, 79), (4, 80), (5, 11)] [.val (vP mp 0), .val (vP mp 0), .val (vP mp 1), .val (.int .u64 ((h.g : Nat) : Int)), .val (.int .u64 ((h.g + 1 : Nat) : Int)), .val (iK 0)] follows (by kernel_rfl) rfl ?hAx1 (jb ?o0x1 (jb ?o1x1 (jb ?o2x1 (jb ?o3x1 (jb ?o4x1 (jb ?o5x1 jF)))))) ?restx1
  case hAx1 =>
    intro ptrs
    simp only [full, foldSlots, filledE, postE, List.foldl_cons, List.foldl_nil, List.getD_cons_zero, List.getD_cons_succ, jI, List.set_cons_zero, List.set_cons_succ]
    exact rfl
  case o0x1 => exact fun _ _ _ _ => jg (v := vP mp 0) _ rfl rfl rfl
  case o1x1 => exact fun _ _ hw _ => jd (v := vP mp 0) rfl (jn _ rfl _ rfl)
  case o2x1 => exact fun _ _ hw _ => jd (v := vP mp 1) rfl (jf 79 _ 1 rfl _ _ rfl _ (by kernel_rfl))
  case o3x1 => exact fun _ _ hw _ => jd (v := .int .u64 ((h.g : Nat) : Int)) rfl (jq 75 _ rfl mp 1 rfl 79 _ (hw.has kmp) (na75 _) _ rfl)
  case o4x1 => exact fun _ _ hw _ => jd (v := .int .u64 ((h.g + 1 : Nat) : Int)) rfl (yf 75 75 _ _ rfl h.g 1 rfl rfl (by omega) _)
  case o5x1 => exact fun _ _ _ _ => yb (v := iK 0) _ rfl rfl rfl
  intro ptrs w6 GD hxE
  simp only [List.drop_succ_cons, List.drop_zero]
  replace kmp := GD.has kmp
  replace kgh := GD.has kgh
  replace HR := HR.gro ((Gro.refl _).drew.trans GD)
  replace HO := HO.gro ((Gro.refl _).drew.trans GD)
  replace GG := GG.drew.tg GD
  clear GD
  refine ja 12 rfl rfl (.int .u64 ((h.g + 1 : Nat) : Int)) (rfl) ?_
  refine nr ?_; intro U h; simp only [z0, z1] at h; subst h
  refine qL (qB ?_)
  obtain ⟨Lk, hLk⟩ : ∃ Lk, Lk = wr L ((2 + h.u) * 64) (recW l) := ⟨_, rfl⟩
  rw [← hLk] at HR
  obtain ⟨dnk, hdnk⟩ : ∃ d : Int, d = dn + (j : Int) := ⟨_, rfl⟩
  have hdk : dnk = dn + (secN l.length : Nat) := by rw [hdnk, hjn]
  rw [← hdk] at HR
  refine jV (fun mz az wv => ∃ (t0 : Nat) (v0 : Nat) (us2 : Nat → Value), mz = 8 - t0 ∧ az = ⟨[vP mp 0, .slice ao l.length cap, uD, uD, us1 0, nK (secN l.length), .slice ao4 ((rawW l).length) cap4, nK j, us1 1, us1 2, .slice (some ⟨gh, 0, none⟩) 24 24, nK t0, .int .u64 ((v0 : Nat) : Int), uD, uD, uD, uD, uD, vP mp 0, vP mp 0, vP mp 4, vF, .slice ao l.length cap, nK l.length, vF, .slice ao l.length cap, nK (secN l.length), nK (secN l.length), vP mp 0, nK (n - 2 - h.u), vF, .slice ao l.length cap, nK l.length, iK ((l.length / 256 : Nat) : Int), .int .u8 ((l.length / 256 : Nat) : Int), .slice ao l.length cap, nK l.length, iK ((l.length % 256 : Nat) : Int), .int .u8 ((l.length % 256 : Nat) : Int), .slice (some ⟨gb, 0, none⟩) 2 2, .slice ao l.length cap, .slice ao4 ((rawW l).length) cap4, nK j, nK (secN l.length), vF, us1 6, us1 7, us1 8, us1 9, us1 10, us1 11, us1 12, us1 13, us1 14, us1 15, us1 16, us1 17, us1 18, us1 19, us1 20, us1 21, us1 22, us1 23, us1 24, us1 25, us1 26, us1 27, us1 28, us1 29, us1 30, us1 31, us1 32, us1 33, us1 34, us1 35, .slice (some ⟨gh, 0, none⟩) 24 24, vP mp 0, vP mp 0, vP mp 1, .int .u64 ((h.g : Nat) : Int), .int .u64 ((h.g + 1 : Nat) : Int), us2 0, us2 1, us2 2, us2 3, us2 4, us2 5, us2 6, us2 7, us2 8, us2 9, us2 10, us2 11, us2 12, uD, uD, uD, uD, uD, uD, uD, uD, uD, uD, uD, uD, uD, uD, uD, uD, uD, uD, uD, uD, uD, uD, uD, uD, uD, uD, uD, uD, uD, uD, uD, uD, uD, uD, uD, uD, uD, uD, uD, uD, uD, uD, uD, uD, uD, uD, uD, uD, uD, uD, uD, uD, uD, uD, uD, uD, uD, uD, uD, uD, uD, uD, uD, uD, uD, uD, uD, uD, uD, uD, uD, uD, uD, uD, uD, uD, uD, uD].toArray, []⟩ ∧ t0 ≤ 8 ∧ v0 = (h.g + 1) / 256 ^ t0 ∧ GroS (rp :: mp :: blk ro) w wv ∧ wv.heap[mp]? = some (.cells (c79 (some ⟨rp, 0, none⟩) ((h.g : Nat) : Int) ((h.u : Nat) : Int) ((h.c : Nat) : Int) false) 79 (0, 0)) ∧ QK wv rp B ro rc n Lk pj dnk ∧ wv.heap[gh]? = some (.cells (bv (layB (zs 24) 0 (h.g + 1) t0)) 5 (0, 0))) ?_ _ ⟨0, (h.g + 1), (fun kz => ([uD, uD, uD, uD, uD, uD, uD, uD, uD, uD, uD, uD, uD] : List Value).getD kz uD), rfl, rfl, Nat.zero_le _, (by simp), GG, kmp, HR, (by rw [VT]; exact kgh)⟩
  clear kmp kgh GG HR
  rintro mz az wv ⟨t0, v0, us2, rfl, rfl, ht, hv, GG, kmp, HR, kgh⟩
  have hvl : v0 ≤ (h.g + 1) := by rw [hv]; exact Nat.div_le_self _ _
  refine qE (qS ?_)
  refine ja 81 rfl rfl (nK t0) (rfl) ?_
  refine nr ?_; intro U h; simp only [z0, z1] at h; subst h
  obtain ⟨p2, hp2⟩ : ∃ p, decide (((t0 : Nat) : Int) < 8) = p := ⟨_, rfl⟩
  refine ja 82 rfl rfl (.bool p2) (jE 3 _ _ _ rfl ((t0 : Nat) : Int) 8 rfl rfl p2 hp2 _) ?_
  refine nr ?_; intro U h; simp only [z0, z1] at h; subst h
  cases p2
  have htn : t0 = 8 := by have := of_decide_eq_false hp2; omega
  rw [htn, VS (by simp only [zt]; decide)] at kgh
  refine qL (qF rfl (wp_exit (jL (jL (zC (jG (qE (qE ?_))))))))
  refine jl (A := ?Ax2) 7 [(0, 94), (1, 95), (2, 96), (3, 97), (4, 98), (5, 99), (6, 13)] [.val (vP mp 0), .val (vP mp 0), .val (vP mp 2), .val (nK h.u), .val (nK (secN l.length)), .val (nK (h.u + secN l.length)), .val (iK 0)] follows (by kernel_rfl) rfl ?hAx2 (jb ?o0x2 (jb ?o1x2 (jb ?o2x2 (jb ?o3x2 (jb ?o4x2 (jb ?o5x2 (jb ?o6x2 jF))))))) ?restx2
  case hAx2 =>
    intro ptrs
    simp only [full, foldSlots, filledE, postE, List.foldl_cons, List.foldl_nil, List.getD_cons_zero, List.getD_cons_succ, jI, List.set_cons_zero, List.set_cons_succ]
    exact rfl
  case o0x2 => exact fun _ _ _ _ => jg (v := vP mp 0) _ rfl rfl rfl
  case o1x2 => exact fun _ _ hw _ => jd (v := vP mp 0) rfl (jn _ rfl _ rfl)
  case o2x2 => exact fun _ _ hw _ => jd (v := vP mp 2) rfl (jf 79 _ 2 rfl _ _ rfl _ (by kernel_rfl))
  case o3x2 => exact fun _ _ hw _ => jd (v := nK h.u) rfl (jq 3 _ rfl mp 2 rfl 79 _ (hw.has kmp) (na3 _) _ rfl)
  case o4x2 => exact fun _ _ _ _ => jg (v := nK (secN l.length)) _ rfl rfl rfl
  case o5x2 => exact fun _ _ hw _ => jd (v := nK (h.u + secN l.length)) rfl (jp _ _ _ rfl ((h.u : Nat) : Int) ((secN l.length : Nat) : Int) _ rfl rfl (by omega) (by omega) (by omega) _)
  case o6x2 => exact fun _ _ _ _ => yb (v := iK 0) _ rfl rfl rfl
  intro ptrs w7 GD hxE
  simp only [List.drop_succ_cons, List.drop_zero]
  replace kmp := GD.has kmp
  replace kgh := GD.has kgh
  replace HR := HR.gro ((Gro.refl _).drew.trans GD)
  replace GG := GG.drew.tg GD
  clear GD
  refine ja 14 rfl rfl (nK (h.u + secN l.length)) (rfl) ?_
  refine nr ?_; intro U h; simp only [z0, z1] at h; subst h
  refine qL (qB ?_)
  refine jV (fun mz az wv => ∃ (t1 : Nat) (v1 : Nat) (us3 : Nat → Value), mz = 8 - t1 ∧ az = ⟨[vP mp 0, .slice ao l.length cap, uD, uD, us1 0, nK (secN l.length), .slice ao4 ((rawW l).length) cap4, nK j, us1 1, us1 2, .slice (some ⟨gh, 0, none⟩) 24 24, nK t0, .int .u64 ((v0 : Nat) : Int), nK t1, nK v1, uD, uD, uD, vP mp 0, vP mp 0, vP mp 4, vF, .slice ao l.length cap, nK l.length, vF, .slice ao l.length cap, nK (secN l.length), nK (secN l.length), vP mp 0, nK (n - 2 - h.u), vF, .slice ao l.length cap, nK l.length, iK ((l.length / 256 : Nat) : Int), .int .u8 ((l.length / 256 : Nat) : Int), .slice ao l.length cap, nK l.length, iK ((l.length % 256 : Nat) : Int), .int .u8 ((l.length % 256 : Nat) : Int), .slice (some ⟨gb, 0, none⟩) 2 2, .slice ao l.length cap, .slice ao4 ((rawW l).length) cap4, nK j, nK (secN l.length), vF, us1 6, us1 7, us1 8, us1 9, us1 10, us1 11, us1 12, us1 13, us1 14, us1 15, us1 16, us1 17, us1 18, us1 19, us1 20, us1 21, us1 22, us1 23, us1 24, us1 25, us1 26, us1 27, us1 28, us1 29, us1 30, us1 31, us1 32, us1 33, us1 34, us1 35, .slice (some ⟨gh, 0, none⟩) 24 24, vP mp 0, vP mp 0, vP mp 1, .int .u64 ((h.g : Nat) : Int), .int .u64 ((h.g + 1 : Nat) : Int), nK t0, vF, us2 2, us2 3, us2 4, us2 5, us2 6, us2 7, us2 8, us2 9, us2 10, us2 11, us2 12, vP mp 0, vP mp 0, vP mp 2, nK h.u, nK (secN l.length), nK (h.u + secN l.length), us3 0, us3 1, us3 2, us3 3, us3 4, us3 5, us3 6, us3 7, us3 8, us3 9, us3 10, us3 11, us3 12, uD, uD, uD, uD, uD, uD, uD, uD, uD, uD, uD, uD, uD, uD, uD, uD, uD, uD, uD, uD, uD, uD, uD, uD, uD, uD, uD, uD, uD, uD, uD, uD, uD, uD, uD, uD, uD, uD, uD, uD, uD, uD, uD, uD, uD, uD, uD, uD, uD, uD, uD, uD, uD, uD, uD, uD, uD, uD, uD].toArray, []⟩ ∧ t1 ≤ 8 ∧ v1 = (h.u + secN l.length) / 256 ^ t1 ∧ GroS (rp :: mp :: blk ro) w wv ∧ wv.heap[mp]? = some (.cells (c79 (some ⟨rp, 0, none⟩) ((h.g : Nat) : Int) ((h.u : Nat) : Int) ((h.c : Nat) : Int) false) 79 (0, 0)) ∧ QK wv rp B ro rc n Lk pj dnk ∧ wv.heap[gh]? = some (.cells (bv (layB (wr (zs 24) 0 (beL 8 (h.g + 1))) 8 (h.u + secN l.length) t1)) 5 (0, 0))) ?_ _ ⟨0, (h.u + secN l.length), (fun kz => ([uD, uD, uD, uD, uD, uD, uD, uD, uD, uD, uD, uD, uD] : List Value).getD kz uD), rfl, rfl, Nat.zero_le _, (by simp), GG, kmp, HR, (by rw [VT]; exact kgh)⟩
  clear kmp kgh GG HR
  rintro mz az wv ⟨t1, v1, us3, rfl, rfl, ht, hv, GG, kmp, HR, kgh⟩
  have hvl : v1 ≤ (h.u + secN l.length) := by rw [hv]; exact Nat.div_le_self _ _
  refine qE (qS ?_)
  refine ja 100 rfl rfl (nK t1) (rfl) ?_
  refine nr ?_; intro U h; simp only [z0, z1] at h; subst h
  obtain ⟨p3, hp3⟩ : ∃ p, decide (((t1 : Nat) : Int) < 8) = p := ⟨_, rfl⟩
  refine ja 101 rfl rfl (.bool p3) (jE 3 _ _ _ rfl ((t1 : Nat) : Int) 8 rfl rfl p3 hp3 _) ?_
  refine nr ?_; intro U h; simp only [z0, z1] at h; subst h
  cases p3
  have htn : t1 = 8 := by have := of_decide_eq_false hp3; omega
  rw [htn, VS (by simp only [wl1]; decide)] at kgh
  refine qL (qF rfl (wp_exit (jL (jL (zC (jG (qE (qE ?_))))))))
  refine jl (A := ?Ax3) 6 [(0, 113), (1, 114), (2, 115), (3, 116), (4, 117), (5, 15)] [.val (vP mp 0), .val (vP mp 0), .val (vP mp 3), .val (nK h.c), .val (nK (h.c + 1)), .val (iK 0)] follows (by kernel_rfl) rfl ?hAx3 (jb ?o0x3 (jb ?o1x3 (jb ?o2x3 (jb ?o3x3 (jb ?o4x3 (jb ?o5x3 jF)))))) ?restx3
  case hAx3 =>
    intro ptrs
    simp only [full, foldSlots, filledE, postE, List.foldl_cons, List.foldl_nil, List.getD_cons_zero, List.getD_cons_succ, jI, List.set_cons_zero, List.set_cons_succ]
    exact rfl
  case o0x3 => exact fun _ _ _ _ => jg (v := vP mp 0) _ rfl rfl rfl
  case o1x3 => exact fun _ _ hw _ => jd (v := vP mp 0) rfl (jn _ rfl _ rfl)
  case o2x3 => exact fun _ _ hw _ => jd (v := vP mp 3) rfl (jf 79 _ 3 rfl _ _ rfl _ (by kernel_rfl))
  case o3x3 => exact fun _ _ hw _ => jd (v := nK h.c) rfl (jq 3 _ rfl mp 3 rfl 79 _ (hw.has kmp) (na3 _) _ rfl)
  case o4x3 => exact fun _ _ hw _ => jd (v := nK (h.c + 1)) rfl (jp _ _ _ rfl ((h.c : Nat) : Int) 1 _ rfl rfl (by omega) (by omega) (by omega) _)
  case o5x3 => exact fun _ _ _ _ => yb (v := iK 0) _ rfl rfl rfl
  intro ptrs w8 GD hxE
  simp only [List.drop_succ_cons, List.drop_zero]
  replace kmp := GD.has kmp
  replace kgh := GD.has kgh
  replace HR := HR.gro ((Gro.refl _).drew.trans GD)
  replace GG := GG.drew.tg GD
  clear GD
  refine ja 16 rfl rfl (nK (h.c + 1)) (rfl) ?_
  refine nr ?_; intro U h; simp only [z0, z1] at h; subst h
  refine qL (qB ?_)
  refine jV (fun mz az wv => ∃ (t2 : Nat) (v2 : Nat) (us4 : Nat → Value), mz = 8 - t2 ∧ az = ⟨[vP mp 0, .slice ao l.length cap, uD, uD, us1 0, nK (secN l.length), .slice ao4 ((rawW l).length) cap4, nK j, us1 1, us1 2, .slice (some ⟨gh, 0, none⟩) 24 24, nK t0, .int .u64 ((v0 : Nat) : Int), nK t1, nK v1, nK t2, nK v2, uD, vP mp 0, vP mp 0, vP mp 4, vF, .slice ao l.length cap, nK l.length, vF, .slice ao l.length cap, nK (secN l.length), nK (secN l.length), vP mp 0, nK (n - 2 - h.u), vF, .slice ao l.length cap, nK l.length, iK ((l.length / 256 : Nat) : Int), .int .u8 ((l.length / 256 : Nat) : Int), .slice ao l.length cap, nK l.length, iK ((l.length % 256 : Nat) : Int), .int .u8 ((l.length % 256 : Nat) : Int), .slice (some ⟨gb, 0, none⟩) 2 2, .slice ao l.length cap, .slice ao4 ((rawW l).length) cap4, nK j, nK (secN l.length), vF, us1 6, us1 7, us1 8, us1 9, us1 10, us1 11, us1 12, us1 13, us1 14, us1 15, us1 16, us1 17, us1 18, us1 19, us1 20, us1 21, us1 22, us1 23, us1 24, us1 25, us1 26, us1 27, us1 28, us1 29, us1 30, us1 31, us1 32, us1 33, us1 34, us1 35, .slice (some ⟨gh, 0, none⟩) 24 24, vP mp 0, vP mp 0, vP mp 1, .int .u64 ((h.g : Nat) : Int), .int .u64 ((h.g + 1 : Nat) : Int), nK t0, vF, us2 2, us2 3, us2 4, us2 5, us2 6, us2 7, us2 8, us2 9, us2 10, us2 11, us2 12, vP mp 0, vP mp 0, vP mp 2, nK h.u, nK (secN l.length), nK (h.u + secN l.length), nK t1, vF, us3 2, us3 3, us3 4, us3 5, us3 6, us3 7, us3 8, us3 9, us3 10, us3 11, us3 12, vP mp 0, vP mp 0, vP mp 3, nK h.c, nK (h.c + 1), us4 0, us4 1, us4 2, us4 3, us4 4, us4 5, us4 6, us4 7, us4 8, us4 9, us4 10, us4 11, us4 12, uD, uD, uD, uD, uD, uD, uD, uD, uD, uD, uD, uD, uD, uD, uD, uD, uD, uD, uD, uD, uD, uD, uD, uD, uD, uD, uD, uD, uD, uD, uD, uD, uD, uD, uD, uD, uD, uD, uD, uD, uD].toArray, []⟩ ∧ t2 ≤ 8 ∧ v2 = (h.c + 1) / 256 ^ t2 ∧ GroS (rp :: mp :: blk ro) w wv ∧ wv.heap[mp]? = some (.cells (c79 (some ⟨rp, 0, none⟩) ((h.g : Nat) : Int) ((h.u : Nat) : Int) ((h.c : Nat) : Int) false) 79 (0, 0)) ∧ QK wv rp B ro rc n Lk pj dnk ∧ wv.heap[gh]? = some (.cells (bv (layB (wr (wr (zs 24) 0 (beL 8 (h.g + 1))) 8 (beL 8 (h.u + secN l.length))) 16 (h.c + 1) t2)) 5 (0, 0))) ?_ _ ⟨0, (h.c + 1), (fun kz => ([uD, uD, uD, uD, uD, uD, uD, uD, uD, uD, uD, uD, uD] : List Value).getD kz uD), rfl, rfl, Nat.zero_le _, (by simp), GG, kmp, HR, (by rw [VT]; exact kgh)⟩
  clear kmp kgh GG HR
  rintro mz az wv ⟨t2, v2, us4, rfl, rfl, ht, hv, GG, kmp, HR, kgh⟩
  have hvl : v2 ≤ (h.c + 1) := by rw [hv]; exact Nat.div_le_self _ _
  refine qE (qS ?_)
  refine ja 118 rfl rfl (nK t2) (rfl) ?_
  refine nr ?_; intro U h; simp only [z0, z1] at h; subst h
  obtain ⟨p4, hp4⟩ : ∃ p, decide (((t2 : Nat) : Int) < 8) = p := ⟨_, rfl⟩
  refine ja 119 rfl rfl (.bool p4) (jE 3 _ _ _ rfl ((t2 : Nat) : Int) 8 rfl rfl p4 hp4 _) ?_
  refine nr ?_; intro U h; simp only [z0, z1] at h; subst h
  cases p4
  have htn : t2 = 8 := by have := of_decide_eq_false hp4; omega
  rw [htn, VS (by simp only [wl2]; decide)] at kgh
  rw [QS ⟨h.g + 1, h.u + secN l.length, h.c + 1⟩] at kgh
  refine qL (qF rfl (wp_exit (jL (jL (zC (jG (qE (qE ?_))))))))
  refine jl (A := ?Ax4) 12 [(0, 131), (1, 132), (2, 133), (3, 134), (4, 135), (5, 136), (6, 137), (7, 138), (8, 139), (9, 140), (10, 141), (11, 142)] [.val (vP mp 0), .val (vP mp 0), .val (vP mp 0), .val (vP rp 0), .val (vP mp 0), .val (vP mp 0), .val (vP mp 1), .val (.int .u64 ((h.g : Nat) : Int)), .val (.int .u64 ((h.g + 1 : Nat) : Int)), .val (.int .u64 (((h.g + 1) % 2 : Nat) : Int)), .val (iK (((h.g + 1) % 2 : Nat) : Int)), .val (.slice (some ⟨gh, 0, none⟩) 24 24)] follows (by kernel_rfl) rfl ?hAx4 (jb ?o0x4 (jb ?o1x4 (jb ?o2x4 (jb ?o3x4 (jb ?o4x4 (jb ?o5x4 (jb ?o6x4 (jb ?o7x4 (jb ?o8x4 (jb ?o9x4 (jb ?o10x4 (jb ?o11x4 jF)))))))))))) ?restx4
  case hAx4 =>
    intro ptrs
    simp only [full, foldSlots, filledE, postE, List.foldl_cons, List.foldl_nil, List.getD_cons_zero, List.getD_cons_succ, jI, List.set_cons_zero, List.set_cons_succ]
    exact rfl
  case o0x4 => exact fun _ _ _ _ => jg (v := vP mp 0) _ rfl rfl rfl
  case o1x4 => exact fun _ _ hw _ => jd (v := vP mp 0) rfl (jn _ rfl _ rfl)
  case o2x4 => exact fun _ _ hw _ => jd (v := vP mp 0) rfl (jf 79 _ 0 rfl _ _ rfl _ (by kernel_rfl))
  case o3x4 => exact fun _ _ hw _ => jd (v := vP rp 0) rfl (jq 23 _ rfl mp 0 rfl 79 _ (hw.has kmp) (na23 _) _ rfl)
  case o4x4 => exact fun _ _ _ _ => jg (v := vP mp 0) _ rfl rfl rfl
  case o5x4 => exact fun _ _ hw _ => jd (v := vP mp 0) rfl (jn _ rfl _ rfl)
  case o6x4 => exact fun _ _ hw _ => jd (v := vP mp 1) rfl (jf 79 _ 1 rfl _ _ rfl _ (by kernel_rfl))
  case o7x4 => exact fun _ _ hw _ => jd (v := .int .u64 ((h.g : Nat) : Int)) rfl (jq 75 _ rfl mp 1 rfl 79 _ (hw.has kmp) (na75 _) _ rfl)
  case o8x4 => exact fun _ _ hw _ => jd (v := .int .u64 ((h.g + 1 : Nat) : Int)) rfl (yf 75 75 _ _ rfl h.g 1 rfl rfl (by omega) _)
  case o9x4 => exact fun _ _ hw _ => jd (v := .int .u64 (((h.g + 1) % 2 : Nat) : Int)) rfl (ZG 75 75 _ _ rfl (h.g + 1) rfl rfl _)
  case o10x4 => exact fun _ _ hw _ => jd (v := iK (((h.g + 1) % 2 : Nat) : Int)) rfl (conv253 _ rfl ((h.g + 1) % 2) (by omega) rfl _)
  case o11x4 => exact fun _ _ _ _ => jg (v := .slice (some ⟨gh, 0, none⟩) 24 24) _ rfl rfl rfl
  intro ptrs w9 GD hxE
  simp only [List.drop_succ_cons, List.drop_zero]
  replace kmp := GD.has kmp
  replace kgh := GD.has kgh
  replace HR := HR.gro ((Gro.refl _).drew.trans GD)
  replace GG := GG.drew.tg GD
  clear GD
  have h24 := Jg ⟨h.g + 1, h.u + secN l.length, h.c + 1⟩
  have hncq := VP kgh (jbe ⟨h.g + 1, h.u + secN l.length, h.c + 1⟩)
  by_cases h0 : pj = 0
  have HX := vQ _ rp B ro rc n _ _ _ HR h0 (some ⟨gh, 0, none⟩) 24 (hdL ⟨h.g + 1, h.u + secN l.length, h.c + 1⟩) ((h.g + 1) % 2) (by omega) (by omega)
  rw [h24] at HX
  refine jy 143 rfl rfl _ 35 Try.call35 rfl rfl _ rfl [vP rp 0, iK (((h.g + 1) % 2 : Nat) : Int), .slice (some ⟨gh, 0, none⟩) 24 24] rfl (HX) ?_
  intro w10 G
  replace kmp := G.has kmp
  replace kgh := G.has kgh
  replace HR := HR.gro G
  replace GG := GG.tg G
  clear G
  refine nr ?_; intro U h; simp only [z0, z1] at h; subst h
  clear HX
  refine ja 17 rfl rfl (iK 8) (rfl) ?_
  refine nr ?_; intro U h; simp only [z0, z1] at h; subst h
  refine qA ?_
  refine ja 144 rfl rfl (iK 8) (rfl) ?_
  refine ja 145 rfl rfl (vT) (jh 26 .i64 _ _ _ rfl Try.underlying26 _ _ rfl rfl true rfl _) ?_
  refine nr ?_; intro U h; simp only [z0, z1] at h; subst h
  refine qL (qT rfl (qS ?_))
  refine ja 146 rfl rfl (vP mp 0) (rfl) ?_
  refine ja 147 rfl rfl (vP mp 0) (jn _ rfl _ rfl) ?_
  refine ja 148 rfl rfl (vP mp 4) (jf 79 _ 4 rfl _ _ rfl _ (by kernel_rfl)) ?_
  refine nr ?_; intro U h; simp only [z0, z1] at h; subst h
  refine jt rfl rfl 4 _ _ rfl mp 4 rfl (vT) rfl 79 _ kmp #[vT] rfl (by kernel_rfl) (Nat.le_of_ble_eq_true rfl) (by kernel_rfl) (c79 (some ⟨rp, 0, none⟩) ((h.g : Nat) : Int) ((h.u : Nat) : Int) ((h.c : Nat) : Int) true) (by kernel_rfl) ?_
  intro w12 St
  replace kgh := St.has (by omega) kgh
  replace HR := HR.stq St (by omega) (fun ad ha => by have := hlro ad ha; first | omega | exact hrn ad ha)
  replace GG := GG.st St (.inr (by simp))
  replace kmp := St.new
  clear St
  refine qA ?_
  refine ja 149 rfl rfl (iK 8) (rfl) ?_
  refine ja 4 rfl rfl (iK 8) (rfl) ?_
  refine nr ?_; intro U h; simp only [z0, z1] at h; subst h
  refine qL (qR (jr ?_))
  refine bodyPost_ret (results_tmp Try.results11 _ _ _) rfl ?_
  rw [hjn] at hpj
  have hA := apF hpj (Nat.le_refl _) h0
  unfold RApP apL apH
  rw [hA.1, hA.2.1, hA.2.2, cond_false, Zd, ← hLk]
  subst h0
  exact ⟨_, rfl, GG, (by omega), (by omega), HR, ⟨kmp⟩⟩
  rw [h24] at hncq
  have HX := Jo _ rp B ro rc n _ _ _ HR (some ⟨gh, 0, none⟩) 24 (hdL ⟨h.g + 1, h.u + secN l.length, h.c + 1⟩) ⟨hncq, fun ad ha _ => by cases ha; simp only [List.mem_cons, mem_blk, not_or]; exact ⟨by omega, fun ⟨a, h3, h4⟩ => by have := hlro a h3; omega⟩⟩ ((h.g + 1) % 2) (by omega) (by omega) (hpj.may h0) (hpj.lt hP) (by omega) (by omega)
  rw [h24] at HX
  refine jx 143 rfl rfl _ 35 Try.call35 rfl rfl _ rfl [vP rp 0, iK (((h.g + 1) % 2 : Nat) : Int), .slice (some ⟨gh, 0, none⟩) 24 24] rfl (HX) (fun _ _ ⟨he, _⟩ => ⟨_, he⟩) ?_
  rintro v w10 ⟨he, G, HR2⟩
  cases he
  replace kmp := G.has kmp hmpS
  replace GG := GG.trans (G.mono hsub)
  clear G HR HX hncq kgh
  have HR := HR2
  clear HR2
  refine nr ?_; intro U h; simp only [z0, z1] at h; subst h
  refine ja 17 rfl rfl (iK 0) (rfl) ?_
  refine nr ?_; intro U h; simp only [z0, z1] at h; subst h
  refine qA ?_
  refine ja 144 rfl rfl (iK 0) (rfl) ?_
  refine ja 145 rfl rfl (vF) (jh 26 .i64 _ _ _ rfl Try.underlying26 _ _ rfl rfl false rfl _) ?_
  refine nr ?_; intro U h; simp only [z0, z1] at h; subst h
  refine qL (qF rfl (qK (qS ?_)))
  refine ja 150 rfl rfl (vP mp 0) (rfl) ?_
  refine ja 151 rfl rfl (vP mp 0) (jn _ rfl _ rfl) ?_
  refine ja 152 rfl rfl (vP mp 1) (jf 79 _ 1 rfl _ _ rfl _ (by kernel_rfl)) ?_
  refine ja 153 rfl rfl (.int .u64 ((h.g : Nat) : Int)) (jq 75 _ rfl mp 1 rfl 79 _ kmp (na75 _) _ rfl) ?_
  refine ja 154 rfl rfl (.int .u64 ((h.g + 1 : Nat) : Int)) (yf 75 75 _ _ rfl h.g 1 rfl rfl (by omega) _) ?_
  refine ja 155 rfl rfl (vP mp 0) (jn _ rfl _ rfl) ?_
  refine ja 156 rfl rfl (vP mp 1) (jf 79 _ 1 rfl _ _ rfl _ (by kernel_rfl)) ?_
  refine nr ?_; intro U h; simp only [z0, z1] at h; subst h
  refine jt rfl rfl 75 _ _ rfl mp 1 rfl (.int .u64 ((h.g + 1 : Nat) : Int)) rfl 79 _ kmp #[.int .u64 ((h.g + 1 : Nat) : Int)] rfl (by kernel_rfl) (Nat.le_of_ble_eq_true rfl) (by kernel_rfl) (c79 (some ⟨rp, 0, none⟩) ((h.g + 1 : Nat) : Int) ((h.u : Nat) : Int) ((h.c : Nat) : Int) false) (by kernel_rfl) ?_
  intro w12 St
  replace HR := HR.stq St (by omega) (fun ad ha => by have := hlro ad ha; first | omega | exact hrn ad ha)
  replace GG := GG.st St (.inr (by simp))
  replace kmp := St.new
  clear St
  refine qA ?_
  refine ja 157 rfl rfl (vP mp 0) (rfl) ?_
  refine ja 158 rfl rfl (vP mp 0) (jn _ rfl _ rfl) ?_
  refine ja 159 rfl rfl (vP mp 2) (jf 79 _ 2 rfl _ _ rfl _ (by kernel_rfl)) ?_
  refine ja 160 rfl rfl (nK h.u) (jq 3 _ rfl mp 2 rfl 79 _ kmp (na3 _) _ rfl) ?_
  refine ja 161 rfl rfl (nK (secN l.length)) (rfl) ?_
  refine ja 162 rfl rfl (nK (h.u + secN l.length)) (jp _ _ _ rfl ((h.u : Nat) : Int) ((secN l.length : Nat) : Int) _ rfl rfl (by omega) (by omega) (by omega) _) ?_
  refine ja 163 rfl rfl (vP mp 0) (jn _ rfl _ rfl) ?_
  refine ja 164 rfl rfl (vP mp 2) (jf 79 _ 2 rfl _ _ rfl _ (by kernel_rfl)) ?_
  refine nr ?_; intro U h; simp only [z0, z1] at h; subst h
  refine jt rfl rfl 3 _ _ rfl mp 2 rfl (nK (h.u + secN l.length)) rfl 79 _ kmp #[nK (h.u + secN l.length)] rfl (by kernel_rfl) (Nat.le_of_ble_eq_true rfl) (by kernel_rfl) (c79 (some ⟨rp, 0, none⟩) ((h.g + 1 : Nat) : Int) ((h.u + secN l.length : Nat) : Int) ((h.c : Nat) : Int) false) (by kernel_rfl) ?_
  intro w14 St
  replace HR := HR.stq St (by omega) (fun ad ha => by have := hlro ad ha; first | omega | exact hrn ad ha)
  replace GG := GG.st St (.inr (by simp))
  replace kmp := St.new
  clear St
  refine qA ?_
  refine ja 165 rfl rfl (vP mp 0) (rfl) ?_
  refine ja 166 rfl rfl (vP mp 0) (jn _ rfl _ rfl) ?_
  refine ja 167 rfl rfl (vP mp 3) (jf 79 _ 3 rfl _ _ rfl _ (by kernel_rfl)) ?_
  refine ja 168 rfl rfl (nK h.c) (jq 3 _ rfl mp 3 rfl 79 _ kmp (na3 _) _ rfl) ?_
  refine ja 169 rfl rfl (nK (h.c + 1)) (jp _ _ _ rfl ((h.c : Nat) : Int) 1 _ rfl rfl (by omega) (by omega) (by omega) _) ?_
  refine ja 170 rfl rfl (vP mp 0) (jn _ rfl _ rfl) ?_
  refine ja 171 rfl rfl (vP mp 3) (jf 79 _ 3 rfl _ _ rfl _ (by kernel_rfl)) ?_
  refine nr ?_; intro U h; simp only [z0, z1] at h; subst h
  refine jt rfl rfl 3 _ _ rfl mp 3 rfl (nK (h.c + 1)) rfl 79 _ kmp #[nK (h.c + 1)] rfl (by kernel_rfl) (Nat.le_of_ble_eq_true rfl) (by kernel_rfl) (c79 (some ⟨rp, 0, none⟩) ((h.g + 1 : Nat) : Int) ((h.u + secN l.length : Nat) : Int) ((h.c + 1 : Nat) : Int) false) (by kernel_rfl) ?_
  intro w16 St
  replace HR := HR.stq St (by omega) (fun ad ha => by have := hlro ad ha; first | omega | exact hrn ad ha)
  replace GG := GG.st St (.inr (by simp))
  replace kmp := St.new
  clear St
  refine qA ?_
  refine ja 4 rfl rfl (iK 0) (rfl) ?_
  refine nr ?_; intro U h; simp only [z0, z1] at h; subst h
  refine qL (qR ?_)
  refine bodyPost_ret (results_tmp Try.results11 _ _ _) rfl ?_
  rw [hjn] at hpj
  have hA := apS hpj h0
  unfold RApP apL apH
  rw [hA.1, hA.2]
  rw [hLk] at HR
  exact ⟨_, rfl, GG, (by omega), (by omega), HR, ⟨kmp⟩⟩
  have htn : t2 < 8 := by have := of_decide_eq_true hp4; omega
  refine qL (qT rfl (qK (qE (qB (qG ?_)))))
  refine ja 124 rfl rfl (.slice (some ⟨gh, 0, none⟩) 24 24) (rfl) ?_
  refine ja 125 rfl rfl (nK t2) (rfl) ?_
  refine ja 126 rfl rfl (nK (16 + 7 - t2)) (jR _ _ _ rfl 23 ((t2 : Nat) : Int) _ rfl rfl (by omega) (by omega) (by omega) _) ?_
  refine ja 127 rfl rfl (nK v2) (rfl) ?_
  refine ja 128 rfl rfl (iK ((v2 % 256 : Nat) : Int)) (ub _ _ _ rfl ((v2 : Nat) : Int) 256 _ rfl rfl (by decide) (tmodN _ 256) (by omega) (by omega) _) ?_
  refine ja 129 rfl rfl (.int .u8 ((v2 % 256 : Nat) : Int)) (conv35 _ rfl (v2 % 256) (Nat.mod_lt _ (by decide)) rfl _) ?_
  refine ja 130 rfl rfl (.pointer (some ⟨gh, 16 + 7 - t2, none⟩)) (bat _ _ rfl gh 24 24 (16 + 7 - t2) rfl rfl (by omega) _) ?_
  refine nr ?_; intro U h; simp only [z0, z1] at h; subst h
  refine jt rfl rfl 5 _ _ rfl gh (16 + 7 - t2) rfl (.int .u8 (((v2 % 256) : Nat) : Int)) rfl 5 _ kgh #[.int .u8 (((v2 % 256) : Nat) : Int)] rfl si5 (by simp only [List.size_toArray, List.length_cons, List.length_nil, zF]; rw [vl (by simp only [wl2]; decide) ht]; simp only [wl2]; omega) (one1 _) _ (Zx (layB (wr (wr (zs 24) 0 (beL 8 (h.g + 1))) 8 (beL 8 (h.u + secN l.length))) 16 (h.c + 1) t2) (16 + 7 - t2) (v2 % 256) (by rw [vl (by simp only [wl2]; decide) ht]; simp only [wl2]; omega)) ?_
  intro w9 St
  replace kmp := St.has (by omega) kmp
  replace HR := HR.stq St (by omega) (fun ad ha => by have := hlro ad ha; first | omega | exact hrn ad ha)
  replace GG := GG.st St (.inl bgh)
  replace kgh := St.new
  clear St
  rw [show v2 % 256 = (h.c + 1) / 256 ^ t2 % 256 by rw [hv], Jr (by simp only [wl2]; decide) htn] at kgh
  refine qN (zh (jG (qG ?_)))
  refine ja 120 rfl rfl (nK t2) (rfl) ?_
  refine ja 121 rfl rfl (nK (t2 + 1)) (jp _ _ _ rfl ((t2 : Nat) : Int) 1 _ rfl rfl (by omega) (by omega) (by omega) _) ?_
  refine ja 122 rfl rfl (nK v2) (rfl) ?_
  refine ja 123 rfl rfl (iK ((v2 / 256 : Nat) : Int)) (zp _ _ _ rfl ((v2 : Nat) : Int) 256 _ rfl rfl (by decide) (tdivN _ 256) (by omega) (by omega) _) ?_
  refine ja 15 rfl rfl (nK (t2 + 1)) (rfl) ?_
  refine ja 16 rfl rfl (iK ((v2 / 256 : Nat) : Int)) (rfl) ?_
  refine nr ?_; intro U h; simp only [z0, z1] at h; subst h
  refine qL ?_
  exact ⟨_, (by omega : 8 - (t2 + 1) < 8 - t2), t2 + 1, v2 / 256, (fun kz => ([nK t2, vT, nK t2, nK (t2 + 1), nK v2, iK ((v2 / 256 : Nat) : Int), .slice (some ⟨gh, 0, none⟩) 24 24, nK t2, nK (16 + 7 - t2), nK v2, iK ((v2 % 256 : Nat) : Int), .int .u8 ((v2 % 256 : Nat) : Int), .pointer (some ⟨gh, 16 + 7 - t2, none⟩)] : List Value).getD kz uD), rfl, rfl, htn, (by rw [hv]; exact Yq _ _), GG, kmp, HR, kgh⟩
  have htn : t1 < 8 := by have := of_decide_eq_true hp3; omega
  refine qL (qT rfl (qK (qE (qB (qG ?_)))))
  refine ja 106 rfl rfl (.slice (some ⟨gh, 0, none⟩) 24 24) (rfl) ?_
  refine ja 107 rfl rfl (nK t1) (rfl) ?_
  refine ja 108 rfl rfl (nK (8 + 7 - t1)) (jR _ _ _ rfl 15 ((t1 : Nat) : Int) _ rfl rfl (by omega) (by omega) (by omega) _) ?_
  refine ja 109 rfl rfl (nK v1) (rfl) ?_
  refine ja 110 rfl rfl (iK ((v1 % 256 : Nat) : Int)) (ub _ _ _ rfl ((v1 : Nat) : Int) 256 _ rfl rfl (by decide) (tmodN _ 256) (by omega) (by omega) _) ?_
  refine ja 111 rfl rfl (.int .u8 ((v1 % 256 : Nat) : Int)) (conv35 _ rfl (v1 % 256) (Nat.mod_lt _ (by decide)) rfl _) ?_
  refine ja 112 rfl rfl (.pointer (some ⟨gh, 8 + 7 - t1, none⟩)) (bat _ _ rfl gh 24 24 (8 + 7 - t1) rfl rfl (by omega) _) ?_
  refine nr ?_; intro U h; simp only [z0, z1] at h; subst h
  refine jt rfl rfl 5 _ _ rfl gh (8 + 7 - t1) rfl (.int .u8 (((v1 % 256) : Nat) : Int)) rfl 5 _ kgh #[.int .u8 (((v1 % 256) : Nat) : Int)] rfl si5 (by simp only [List.size_toArray, List.length_cons, List.length_nil, zF]; rw [vl (by simp only [wl1]; decide) ht]; simp only [wl1]; omega) (one1 _) _ (Zx (layB (wr (zs 24) 0 (beL 8 (h.g + 1))) 8 (h.u + secN l.length) t1) (8 + 7 - t1) (v1 % 256) (by rw [vl (by simp only [wl1]; decide) ht]; simp only [wl1]; omega)) ?_
  intro w8 St
  replace kmp := St.has (by omega) kmp
  replace HR := HR.stq St (by omega) (fun ad ha => by have := hlro ad ha; first | omega | exact hrn ad ha)
  replace GG := GG.st St (.inl bgh)
  replace kgh := St.new
  clear St
  rw [show v1 % 256 = (h.u + secN l.length) / 256 ^ t1 % 256 by rw [hv], Jr (by simp only [wl1]; decide) htn] at kgh
  refine qN (zh (jG (qG ?_)))
  refine ja 102 rfl rfl (nK t1) (rfl) ?_
  refine ja 103 rfl rfl (nK (t1 + 1)) (jp _ _ _ rfl ((t1 : Nat) : Int) 1 _ rfl rfl (by omega) (by omega) (by omega) _) ?_
  refine ja 104 rfl rfl (nK v1) (rfl) ?_
  refine ja 105 rfl rfl (iK ((v1 / 256 : Nat) : Int)) (zp _ _ _ rfl ((v1 : Nat) : Int) 256 _ rfl rfl (by decide) (tdivN _ 256) (by omega) (by omega) _) ?_
  refine ja 13 rfl rfl (nK (t1 + 1)) (rfl) ?_
  refine ja 14 rfl rfl (iK ((v1 / 256 : Nat) : Int)) (rfl) ?_
  refine nr ?_; intro U h; simp only [z0, z1] at h; subst h
  refine qL ?_
  exact ⟨_, (by omega : 8 - (t1 + 1) < 8 - t1), t1 + 1, v1 / 256, (fun kz => ([nK t1, vT, nK t1, nK (t1 + 1), nK v1, iK ((v1 / 256 : Nat) : Int), .slice (some ⟨gh, 0, none⟩) 24 24, nK t1, nK (8 + 7 - t1), nK v1, iK ((v1 % 256 : Nat) : Int), .int .u8 ((v1 % 256 : Nat) : Int), .pointer (some ⟨gh, 8 + 7 - t1, none⟩)] : List Value).getD kz uD), rfl, rfl, htn, (by rw [hv]; exact Yq _ _), GG, kmp, HR, kgh⟩
  have htn : t0 < 8 := by have := of_decide_eq_true hp2; omega
  refine qL (qT rfl (qK (qE (qB (qG ?_)))))
  refine ja 87 rfl rfl (.slice (some ⟨gh, 0, none⟩) 24 24) (rfl) ?_
  refine ja 88 rfl rfl (nK t0) (rfl) ?_
  refine ja 89 rfl rfl (nK (0 + 7 - t0)) (jR _ _ _ rfl 7 ((t0 : Nat) : Int) _ rfl rfl (by omega) (by omega) (by omega) _) ?_
  refine ja 90 rfl rfl (.int .u64 ((v0 : Nat) : Int)) (rfl) ?_
  refine ja 91 rfl rfl (.int .u64 ((v0 % 256 : Nat) : Int)) (vd 75 75 _ _ rfl v0 256 rfl rfl (by decide) _) ?_
  refine ja 92 rfl rfl (.int .u8 ((v0 % 256 : Nat) : Int)) (conv255 _ rfl (v0 % 256) (v0 % 256) (Nat.mod_mod _ _) rfl _) ?_
  refine ja 93 rfl rfl (.pointer (some ⟨gh, 0 + 7 - t0, none⟩)) (bat _ _ rfl gh 24 24 (0 + 7 - t0) rfl rfl (by omega) _) ?_
  refine nr ?_; intro U h; simp only [z0, z1] at h; subst h
  refine jt rfl rfl 5 _ _ rfl gh (0 + 7 - t0) rfl (.int .u8 (((v0 % 256) : Nat) : Int)) rfl 5 _ kgh #[.int .u8 (((v0 % 256) : Nat) : Int)] rfl si5 (by simp only [List.size_toArray, List.length_cons, List.length_nil, zF]; rw [vl (by simp only [zt]; decide) ht]; simp only [zt]; omega) (one1 _) _ (Zx (layB (zs 24) 0 (h.g + 1) t0) (0 + 7 - t0) (v0 % 256) (by rw [vl (by simp only [zt]; decide) ht]; simp only [zt]; omega)) ?_
  intro w7 St
  replace kmp := St.has (by omega) kmp
  replace HR := HR.stq St (by omega) (fun ad ha => by have := hlro ad ha; first | omega | exact hrn ad ha)
  replace GG := GG.st St (.inl bgh)
  replace kgh := St.new
  clear St
  rw [show v0 % 256 = (h.g + 1) / 256 ^ t0 % 256 by rw [hv], Jr (by simp only [zt]; decide) htn] at kgh
  refine qN (zh (jG (qG ?_)))
  refine ja 83 rfl rfl (nK t0) (rfl) ?_
  refine ja 84 rfl rfl (nK (t0 + 1)) (jp _ _ _ rfl ((t0 : Nat) : Int) 1 _ rfl rfl (by omega) (by omega) (by omega) _) ?_
  refine ja 85 rfl rfl (.int .u64 ((v0 : Nat) : Int)) (rfl) ?_
  refine ja 86 rfl rfl (.int .u64 ((v0 / 256 : Nat) : Int)) (Qo 75 75 _ _ rfl v0 256 rfl rfl (by decide) (by omega) _) ?_
  refine ja 11 rfl rfl (nK (t0 + 1)) (rfl) ?_
  refine ja 12 rfl rfl (.int .u64 ((v0 / 256 : Nat) : Int)) (rfl) ?_
  refine nr ?_; intro U h; simp only [z0, z1] at h; subst h
  refine qL ?_
  exact ⟨_, (by omega : 8 - (t0 + 1) < 8 - t0), t0 + 1, v0 / 256, (fun kz => ([nK t0, vT, nK t0, nK (t0 + 1), .int .u64 ((v0 : Nat) : Int), .int .u64 ((v0 / 256 : Nat) : Int), .slice (some ⟨gh, 0, none⟩) 24 24, nK t0, nK (0 + 7 - t0), .int .u64 ((v0 : Nat) : Int), .int .u64 ((v0 % 256 : Nat) : Int), .int .u8 ((v0 % 256 : Nat) : Int), .pointer (some ⟨gh, 0 + 7 - t0, none⟩)] : List Value).getD kz uD), rfl, rfl, htn, (by rw [hv]; exact Yq _ _), GG, kmp, HR, kgh⟩
  have hjn : j < secN l.length := by have := of_decide_eq_true hp1; omega
  refine qL (qT rfl (qK (qE (qB (qS ?_)))))
  refine ja 47 rfl rfl (.slice ao4 ((rawW l).length) cap4) (rfl) ?_
  refine ja 48 rfl rfl (nK j) (rfl) ?_
  refine ja 49 rfl rfl (nK (j * 64)) (zb _ _ _ rfl 64 ((j : Nat) : Int) _ rfl rfl (by omega) (by omega) (by omega) _) ?_
  refine ja 50 rfl rfl (.slice (cutA ao4 cap4 (j * 64)) ((rawW l).length - j * 64) (cap4 - j * 64)) (uQ _ _ rfl ao4 (rawW l).length cap4 (j * 64) rfl rfl (by rw [yj]; omega) _) ?_
  refine ja 8 rfl rfl (.slice (cutA ao4 cap4 (j * 64)) ((rawW l).length - j * 64) (cap4 - j * 64)) (rfl) ?_
  refine nr ?_; intro U h; simp only [z0, z1] at h; subst h
  refine qL (qE (qS ?_))
  refine ja 51 rfl rfl (.slice (cutA ao4 cap4 (j * 64)) ((rawW l).length - j * 64) (cap4 - j * 64)) (rfl) ?_
  refine ja 52 rfl rfl (iK (((rawW l).length - j * 64 : Nat) : Int)) (jA Try.underlying30 _ rfl _ _ _ rfl _) ?_
  refine nr ?_; intro U h; simp only [z0, z1] at h; subst h
  obtain ⟨p2, hp2⟩ : ∃ p, decide (64 < (((rawW l).length - j * 64 : Nat) : Int)) = p := ⟨_, rfl⟩
  refine ja 53 rfl rfl (.bool p2) (jJ 3 _ _ _ rfl (((rawW l).length - j * 64 : Nat) : Int) 64 rfl rfl p2 hp2 _) ?_
  refine nr ?_; intro U h; simp only [z0, z1] at h; subst h
  cases p2
  have hlong : (rawW l).length - j * 64 ≤ 64 := by have := of_decide_eq_false hp2; omega
  refine qL (qF rfl (qK (qE ?_)))
  refine jl (A := ?Ax5) 12 [(0, 56), (1, 57), (2, 58), (3, 59), (4, 60), (5, 61), (6, 62), (7, 63), (8, 64), (9, 65), (10, 66), (11, 67)] [.val (vP mp 0), .val (vP mp 0), .val (vP mp 0), .val (vP rp 0), .val (vP mp 0), .val (vP mp 0), .val (vP mp 2), .val (nK h.u), .val (nK (2 + h.u)), .val (nK j), .val (nK (2 + h.u + j)), .val (.slice (cutA ao4 cap4 (j * 64)) ((rawW l).length - j * 64) (cap4 - j * 64))] follows (by kernel_rfl) rfl ?hAx5 (jb ?o0x5 (jb ?o1x5 (jb ?o2x5 (jb ?o3x5 (jb ?o4x5 (jb ?o5x5 (jb ?o6x5 (jb ?o7x5 (jb ?o8x5 (jb ?o9x5 (jb ?o10x5 (jb ?o11x5 jF)))))))))))) ?restx5
  case hAx5 =>
    intro ptrs
    simp only [full, foldSlots, filledE, postE, List.foldl_cons, List.foldl_nil, List.getD_cons_zero, List.getD_cons_succ, jI, List.set_cons_zero, List.set_cons_succ]
    exact rfl
  case o0x5 => exact fun _ _ _ _ => jg (v := vP mp 0) _ rfl rfl rfl
  case o1x5 => exact fun _ _ hw _ => jd (v := vP mp 0) rfl (jn _ rfl _ rfl)
  case o2x5 => exact fun _ _ hw _ => jd (v := vP mp 0) rfl (jf 79 _ 0 rfl _ _ rfl _ (by kernel_rfl))
  case o3x5 => exact fun _ _ hw _ => jd (v := vP rp 0) rfl (jq 23 _ rfl mp 0 rfl 79 _ (hw.has kmp) (na23 _) _ rfl)
  case o4x5 => exact fun _ _ _ _ => jg (v := vP mp 0) _ rfl rfl rfl
  case o5x5 => exact fun _ _ hw _ => jd (v := vP mp 0) rfl (jn _ rfl _ rfl)
  case o6x5 => exact fun _ _ hw _ => jd (v := vP mp 2) rfl (jf 79 _ 2 rfl _ _ rfl _ (by kernel_rfl))
  case o7x5 => exact fun _ _ hw _ => jd (v := nK h.u) rfl (jq 3 _ rfl mp 2 rfl 79 _ (hw.has kmp) (na3 _) _ rfl)
  case o8x5 => exact fun _ _ hw _ => jd (v := nK (2 + h.u)) rfl (jp _ _ _ rfl 2 ((h.u : Nat) : Int) _ rfl rfl (by omega) (by omega) (by omega) _)
  case o9x5 => exact fun _ _ _ _ => jg (v := nK j) _ rfl rfl rfl
  case o10x5 => exact fun _ _ hw _ => jd (v := nK (2 + h.u + j)) rfl (jp _ _ _ rfl ((2 + h.u : Nat) : Int) ((j : Nat) : Int) _ rfl rfl (by omega) (by omega) (by omega) _)
  case o11x5 => exact fun _ _ _ _ => jg (v := .slice (cutA ao4 cap4 (j * 64)) ((rawW l).length - j * 64) (cap4 - j * 64)) _ rfl rfl rfl
  intro ptrs w5 GD hxE
  simp only [List.drop_succ_cons, List.drop_zero]
  replace kmp := GD.has kmp
  replace HR := HR.gro ((Gro.refl _).drew.trans GD)
  replace HO := HO.gro ((Gro.refl _).drew.trans GD)
  replace GG := GG.drew.tg GD
  clear GD
  have hchl : (((rawW l).drop (j * 64)).take 64).length = (rawW l).length - j * 64 := by rw [List.length_take, List.length_drop, yj]; rw [yj] at hlong; omega
  have hnc := HO.nc.cutE (j * 64) (by rw [yj]; omega)
  rw [← List.take_of_length_le (show ((rawW l).drop (j * 64)).length ≤ 64 by rw [List.length_drop]; omega)] at hnc
  by_cases h0 : pj = 0
  have HX := vQ _ rp B ro rc n _ _ _ HR h0 (cutA ao4 cap4 (j * 64)) (cap4 - j * 64) (((rawW l).drop (j * 64)).take 64) (2 + h.u + j) (by omega) (ut l j)
  rw [hchl] at HX
  refine jy 68 rfl rfl _ 35 Try.call35 rfl rfl _ rfl [vP rp 0, nK (2 + h.u + j), .slice (cutA ao4 cap4 (j * 64)) ((rawW l).length - j * 64) (cap4 - j * 64)] rfl (HX) ?_
  intro w6 G
  replace kmp := G.has kmp
  replace HR := HR.gro G
  replace HO := HO.gro G
  replace GG := GG.tg G
  clear G
  refine nr ?_; intro U h; simp only [z0, z1] at h; subst h
  clear HX
  refine ja 9 rfl rfl (iK 8) (rfl) ?_
  refine nr ?_; intro U h; simp only [z0, z1] at h; subst h
  refine qA ?_
  refine ja 69 rfl rfl (iK 8) (rfl) ?_
  refine ja 70 rfl rfl (vT) (jh 26 .i64 _ _ _ rfl Try.underlying26 _ _ rfl rfl true rfl _) ?_
  refine nr ?_; intro U h; simp only [z0, z1] at h; subst h
  refine qL (qT rfl (qS ?_))
  refine ja 71 rfl rfl (vP mp 0) (rfl) ?_
  refine ja 72 rfl rfl (vP mp 0) (jn _ rfl _ rfl) ?_
  refine ja 73 rfl rfl (vP mp 4) (jf 79 _ 4 rfl _ _ rfl _ (by kernel_rfl)) ?_
  refine nr ?_; intro U h; simp only [z0, z1] at h; subst h
  refine jt rfl rfl 4 _ _ rfl mp 4 rfl (vT) rfl 79 _ kmp #[vT] rfl (by kernel_rfl) (Nat.le_of_ble_eq_true rfl) (by kernel_rfl) (c79 (some ⟨rp, 0, none⟩) ((h.g : Nat) : Int) ((h.u : Nat) : Int) ((h.c : Nat) : Int) true) (by kernel_rfl) ?_
  intro w8 St
  replace HR := HR.stq St (by omega) (fun ad ha => by have := hlro ad ha; first | omega | exact hrn ad ha)
  replace HO := HO.apart St (fun ad ha => by have := (HO.ge ad ha).1; omega)
  replace GG := GG.st St (.inr (by simp))
  replace kmp := St.new
  clear St
  refine qA ?_
  refine ja 74 rfl rfl (iK 8) (rfl) ?_
  refine ja 4 rfl rfl (iK 8) (rfl) ?_
  refine nr ?_; intro U h; simp only [z0, z1] at h; subst h
  refine qL (qR (zk (jr (jr (zk (jr ?_))))))
  refine bodyPost_ret (results_tmp Try.results11 _ _ _) rfl ?_
  have hA := apF hpj hj h0
  unfold RApP apL apH
  rw [hA.1, hA.2.1, hA.2.2]
  subst h0
  exact ⟨_, rfl, GG, (by omega), (by omega), HR, ⟨kmp⟩⟩
  have HX := Jo _ rp B ro rc n _ _ _ HR (cutA ao4 cap4 (j * 64)) (cap4 - j * 64) (((rawW l).drop (j * 64)).take 64) ⟨hnc, fun ad ha _ => by have h1 := (HO.ge _ (Jh ha).choose_spec.1).1; have h2 := (Jh ha).choose_spec.2; simp only [List.mem_cons, mem_blk, not_or]; exact ⟨by omega, fun ⟨a, h3, h4⟩ => by have := hlro a h3; omega⟩⟩ (2 + h.u + j) (by omega) (ut l j) (hpj.may h0) (hpj.lt hP) (by omega) (by omega)
  rw [hchl] at HX
  refine jx 68 rfl rfl _ 35 Try.call35 rfl rfl _ rfl [vP rp 0, nK (2 + h.u + j), .slice (cutA ao4 cap4 (j * 64)) ((rawW l).length - j * 64) (cap4 - j * 64)] rfl (HX) (fun _ _ ⟨he, _⟩ => ⟨_, he⟩) ?_
  rintro v w6 ⟨he, G, HR2⟩
  cases he
  rw [ZR hjn, ZZ (by rw [zG, hLn]; omega) (by rw [zG]; omega), show dn + (j : Int) + 1 = dn + ((j + 1 : Nat) : Int) by omega] at HR2
  replace kmp := G.has kmp hmpS
  replace HO := HO.gros G (fun ad ha => by have := (HO.ge ad ha).1; simp only [List.mem_cons, mem_blk, not_or]; exact ⟨by omega, fun ⟨a, h3, h4⟩ => by have := hlro a h3; omega⟩)
  replace GG := GG.trans (G.mono hsub)
  clear G HR HX hnc
  have HR := HR2
  clear HR2
  refine nr ?_; intro U h; simp only [z0, z1] at h; subst h
  refine ja 9 rfl rfl (iK 0) (rfl) ?_
  refine nr ?_; intro U h; simp only [z0, z1] at h; subst h
  refine qA ?_
  refine ja 69 rfl rfl (iK 0) (rfl) ?_
  refine ja 70 rfl rfl (vF) (jh 26 .i64 _ _ _ rfl Try.underlying26 _ _ rfl rfl false rfl _) ?_
  refine nr ?_; intro U h; simp only [z0, z1] at h; subst h
  refine qL (qF rfl (wp_skip (zh (jG (qG ?_)))))
  refine ja 45 rfl rfl (nK j) (rfl) ?_
  refine ja 46 rfl rfl (nK (j + 1)) (jp _ _ _ rfl ((j : Nat) : Int) 1 _ rfl rfl (by omega) (by omega) (by omega) _) ?_
  refine ja 7 rfl rfl (nK (j + 1)) (rfl) ?_
  refine nr ?_; intro U h; simp only [z0, z1] at h; subst h
  refine qL ?_
  exact ⟨_, (by omega : secN l.length - (j + 1) < secN l.length - j), j + 1, _, (fun kz => ([us1 0, .slice (cutA ao4 cap4 (j * 64)) ((rawW l).length - j * 64) (cap4 - j * 64), iK 0, nK j, nK (secN l.length), vT, nK j, nK (j + 1), .slice ao4 ((rawW l).length) cap4, nK j, nK (j * 64), .slice (cutA ao4 cap4 (j * 64)) ((rawW l).length - j * 64) (cap4 - j * 64), .slice (cutA ao4 cap4 (j * 64)) ((rawW l).length - j * 64) (cap4 - j * 64), iK (((rawW l).length - j * 64 : Nat) : Int), vF, us1 15, us1 16, vP mp 0, vP mp 0, vP mp 0, vP rp 0, vP mp 0, vP mp 0, vP mp 2, nK h.u, nK (2 + h.u), nK j, nK (2 + h.u + j), .slice (cutA ao4 cap4 (j * 64)) ((rawW l).length - j * 64) (cap4 - j * 64), iK 0, iK 0, vF, us1 32, us1 33, us1 34, us1 35] : List Value).getD kz uD), rfl, rfl, hjn, hpj.next h0, GG, kmp, HR, HO⟩
  have hlong : 64 < (rawW l).length - j * 64 := by have := of_decide_eq_true hp2; omega
  refine qL (qT rfl (qG ?_))
  refine ja 54 rfl rfl (.slice (cutA ao4 cap4 (j * 64)) ((rawW l).length - j * 64) (cap4 - j * 64)) (rfl) ?_
  refine ja 55 rfl rfl (.slice (cutA ao4 cap4 (j * 64)) 64 (cap4 - j * 64)) (KN bT _ _ rfl (cutA ao4 cap4 (j * 64)) ((rawW l).length - j * 64) (cap4 - j * 64) 64 rfl rfl (by have := HO.nc.fit; omega) _) ?_
  refine ja 8 rfl rfl (.slice (cutA ao4 cap4 (j * 64)) 64 (cap4 - j * 64)) (rfl) ?_
  refine nr ?_; intro U h; simp only [z0, z1] at h; subst h
  refine qL (qE ?_)
  refine jl (A := ?Ax6) 12 [(0, 56), (1, 57), (2, 58), (3, 59), (4, 60), (5, 61), (6, 62), (7, 63), (8, 64), (9, 65), (10, 66), (11, 67)] [.val (vP mp 0), .val (vP mp 0), .val (vP mp 0), .val (vP rp 0), .val (vP mp 0), .val (vP mp 0), .val (vP mp 2), .val (nK h.u), .val (nK (2 + h.u)), .val (nK j), .val (nK (2 + h.u + j)), .val (.slice (cutA ao4 cap4 (j * 64)) 64 (cap4 - j * 64))] follows (by kernel_rfl) rfl ?hAx6 (jb ?o0x6 (jb ?o1x6 (jb ?o2x6 (jb ?o3x6 (jb ?o4x6 (jb ?o5x6 (jb ?o6x6 (jb ?o7x6 (jb ?o8x6 (jb ?o9x6 (jb ?o10x6 (jb ?o11x6 jF)))))))))))) ?restx6
  case hAx6 =>
    intro ptrs
    simp only [full, foldSlots, filledE, postE, List.foldl_cons, List.foldl_nil, List.getD_cons_zero, List.getD_cons_succ, jI, List.set_cons_zero, List.set_cons_succ]
    exact rfl
  case o0x6 => exact fun _ _ _ _ => jg (v := vP mp 0) _ rfl rfl rfl
  case o1x6 => exact fun _ _ hw _ => jd (v := vP mp 0) rfl (jn _ rfl _ rfl)
  case o2x6 => exact fun _ _ hw _ => jd (v := vP mp 0) rfl (jf 79 _ 0 rfl _ _ rfl _ (by kernel_rfl))
  case o3x6 => exact fun _ _ hw _ => jd (v := vP rp 0) rfl (jq 23 _ rfl mp 0 rfl 79 _ (hw.has kmp) (na23 _) _ rfl)
  case o4x6 => exact fun _ _ _ _ => jg (v := vP mp 0) _ rfl rfl rfl
  case o5x6 => exact fun _ _ hw _ => jd (v := vP mp 0) rfl (jn _ rfl _ rfl)
  case o6x6 => exact fun _ _ hw _ => jd (v := vP mp 2) rfl (jf 79 _ 2 rfl _ _ rfl _ (by kernel_rfl))
  case o7x6 => exact fun _ _ hw _ => jd (v := nK h.u) rfl (jq 3 _ rfl mp 2 rfl 79 _ (hw.has kmp) (na3 _) _ rfl)
  case o8x6 => exact fun _ _ hw _ => jd (v := nK (2 + h.u)) rfl (jp _ _ _ rfl 2 ((h.u : Nat) : Int) _ rfl rfl (by omega) (by omega) (by omega) _)
  case o9x6 => exact fun _ _ _ _ => jg (v := nK j) _ rfl rfl rfl
  case o10x6 => exact fun _ _ hw _ => jd (v := nK (2 + h.u + j)) rfl (jp _ _ _ rfl ((2 + h.u : Nat) : Int) ((j : Nat) : Int) _ rfl rfl (by omega) (by omega) (by omega) _)
  case o11x6 => exact fun _ _ _ _ => jg (v := .slice (cutA ao4 cap4 (j * 64)) 64 (cap4 - j * 64)) _ rfl rfl rfl
  intro ptrs w5 GD hxE
  simp only [List.drop_succ_cons, List.drop_zero]
  replace kmp := GD.has kmp
  replace HR := HR.gro ((Gro.refl _).drew.trans GD)
  replace HO := HO.gro ((Gro.refl _).drew.trans GD)
  replace GG := GG.drew.tg GD
  clear GD
  have hchl : (((rawW l).drop (j * 64)).take 64).length = 64 := by rw [List.length_take, List.length_drop, yj]; rw [yj] at hlong; omega
  have hnc : NC _ .u8 (cutA ao4 cap4 (j * 64)) (cap4 - j * 64) (((rawW l).drop (j * 64)).take 64) := HO.nc.cutS (j * 64) 64 (by rw [yj]; omega) (by rw [yj] at *; omega)
  by_cases h0 : pj = 0
  have HX := vQ _ rp B ro rc n _ _ _ HR h0 (cutA ao4 cap4 (j * 64)) (cap4 - j * 64) (((rawW l).drop (j * 64)).take 64) (2 + h.u + j) (by omega) (ut l j)
  rw [hchl] at HX
  refine jy 68 rfl rfl _ 35 Try.call35 rfl rfl _ rfl [vP rp 0, nK (2 + h.u + j), .slice (cutA ao4 cap4 (j * 64)) 64 (cap4 - j * 64)] rfl (HX) ?_
  intro w6 G
  replace kmp := G.has kmp
  replace HR := HR.gro G
  replace HO := HO.gro G
  replace GG := GG.tg G
  clear G
  refine nr ?_; intro U h; simp only [z0, z1] at h; subst h
  clear HX
  refine ja 9 rfl rfl (iK 8) (rfl) ?_
  refine nr ?_; intro U h; simp only [z0, z1] at h; subst h
  refine qA ?_
  refine ja 69 rfl rfl (iK 8) (rfl) ?_
  refine ja 70 rfl rfl (vT) (jh 26 .i64 _ _ _ rfl Try.underlying26 _ _ rfl rfl true rfl _) ?_
  refine nr ?_; intro U h; simp only [z0, z1] at h; subst h
  refine qL (qT rfl (qS ?_))
  refine ja 71 rfl rfl (vP mp 0) (rfl) ?_
  refine ja 72 rfl rfl (vP mp 0) (jn _ rfl _ rfl) ?_
  refine ja 73 rfl rfl (vP mp 4) (jf 79 _ 4 rfl _ _ rfl _ (by kernel_rfl)) ?_
  refine nr ?_; intro U h; simp only [z0, z1] at h; subst h
  refine jt rfl rfl 4 _ _ rfl mp 4 rfl (vT) rfl 79 _ kmp #[vT] rfl (by kernel_rfl) (Nat.le_of_ble_eq_true rfl) (by kernel_rfl) (c79 (some ⟨rp, 0, none⟩) ((h.g : Nat) : Int) ((h.u : Nat) : Int) ((h.c : Nat) : Int) true) (by kernel_rfl) ?_
  intro w8 St
  replace HR := HR.stq St (by omega) (fun ad ha => by have := hlro ad ha; first | omega | exact hrn ad ha)
  replace HO := HO.apart St (fun ad ha => by have := (HO.ge ad ha).1; omega)
  replace GG := GG.st St (.inr (by simp))
  replace kmp := St.new
  clear St
  refine qA ?_
  refine ja 74 rfl rfl (iK 8) (rfl) ?_
  refine ja 4 rfl rfl (iK 8) (rfl) ?_
  refine nr ?_; intro U h; simp only [z0, z1] at h; subst h
  refine qL (qR (zk (jr (jr (zk (jr ?_))))))
  refine bodyPost_ret (results_tmp Try.results11 _ _ _) rfl ?_
  have hA := apF hpj hj h0
  unfold RApP apL apH
  rw [hA.1, hA.2.1, hA.2.2]
  subst h0
  exact ⟨_, rfl, GG, (by omega), (by omega), HR, ⟨kmp⟩⟩
  have HX := Jo _ rp B ro rc n _ _ _ HR (cutA ao4 cap4 (j * 64)) (cap4 - j * 64) (((rawW l).drop (j * 64)).take 64) ⟨hnc, fun ad ha _ => by have h1 := (HO.ge _ (Jh ha).choose_spec.1).1; have h2 := (Jh ha).choose_spec.2; simp only [List.mem_cons, mem_blk, not_or]; exact ⟨by omega, fun ⟨a, h3, h4⟩ => by have := hlro a h3; omega⟩⟩ (2 + h.u + j) (by omega) (ut l j) (hpj.may h0) (hpj.lt hP) (by omega) (by omega)
  rw [hchl] at HX
  refine jx 68 rfl rfl _ 35 Try.call35 rfl rfl _ rfl [vP rp 0, nK (2 + h.u + j), .slice (cutA ao4 cap4 (j * 64)) 64 (cap4 - j * 64)] rfl (HX) (fun _ _ ⟨he, _⟩ => ⟨_, he⟩) ?_
  rintro v w6 ⟨he, G, HR2⟩
  cases he
  rw [ZR hjn, ZZ (by rw [zG, hLn]; omega) (by rw [zG]; omega), show dn + (j : Int) + 1 = dn + ((j + 1 : Nat) : Int) by omega] at HR2
  replace kmp := G.has kmp hmpS
  replace HO := HO.gros G (fun ad ha => by have := (HO.ge ad ha).1; simp only [List.mem_cons, mem_blk, not_or]; exact ⟨by omega, fun ⟨a, h3, h4⟩ => by have := hlro a h3; omega⟩)
  replace GG := GG.trans (G.mono hsub)
  clear G HR HX hnc
  have HR := HR2
  clear HR2
  refine nr ?_; intro U h; simp only [z0, z1] at h; subst h
  refine ja 9 rfl rfl (iK 0) (rfl) ?_
  refine nr ?_; intro U h; simp only [z0, z1] at h; subst h
  refine qA ?_
  refine ja 69 rfl rfl (iK 0) (rfl) ?_
  refine ja 70 rfl rfl (vF) (jh 26 .i64 _ _ _ rfl Try.underlying26 _ _ rfl rfl false rfl _) ?_
  refine nr ?_; intro U h; simp only [z0, z1] at h; subst h
  refine qL (qF rfl (wp_skip (zh (jG (qG ?_)))))
  refine ja 45 rfl rfl (nK j) (rfl) ?_
  refine ja 46 rfl rfl (nK (j + 1)) (jp _ _ _ rfl ((j : Nat) : Int) 1 _ rfl rfl (by omega) (by omega) (by omega) _) ?_
  refine ja 7 rfl rfl (nK (j + 1)) (rfl) ?_
  refine nr ?_; intro U h; simp only [z0, z1] at h; subst h
  refine qL ?_
  exact ⟨_, (by omega : secN l.length - (j + 1) < secN l.length - j), j + 1, _, (fun kz => ([us1 0, .slice (cutA ao4 cap4 (j * 64)) 64 (cap4 - j * 64), iK 0, nK j, nK (secN l.length), vT, nK j, nK (j + 1), .slice ao4 ((rawW l).length) cap4, nK j, nK (j * 64), .slice (cutA ao4 cap4 (j * 64)) ((rawW l).length - j * 64) (cap4 - j * 64), .slice (cutA ao4 cap4 (j * 64)) ((rawW l).length - j * 64) (cap4 - j * 64), iK (((rawW l).length - j * 64 : Nat) : Int), vT, .slice (cutA ao4 cap4 (j * 64)) ((rawW l).length - j * 64) (cap4 - j * 64), .slice (cutA ao4 cap4 (j * 64)) 64 (cap4 - j * 64), vP mp 0, vP mp 0, vP mp 0, vP rp 0, vP mp 0, vP mp 0, vP mp 2, nK h.u, nK (2 + h.u), nK j, nK (2 + h.u + j), .slice (cutA ao4 cap4 (j * 64)) 64 (cap4 - j * 64), iK 0, iK 0, vF, us1 32, us1 33, us1 34, us1 35] : List Value).getD kz uD), rfl, rfl, hjn, hpj.next h0, GG, kmp, HR, HO⟩
end Go.Proofs.Ytgfnjekpafempaa
