import Derived.Test.YtgfnjekpafempaaGreatBE13
import Derived.Test.YtgfnjekpafempaaGreatBAb
namespace Go.Proofs.YtgfnjekpafempaaGreat
open Go.Proofs.Tryz
set_option maxHeartbeats 4000000
set_option maxRecDepth 100000
open Go.RowKit
def rawW (l : List Nat) : List Nat := (l.length / 256) :: (l.length % 256) :: l
theorem yl (l : List Nat) : (rawW l).length = l.length + 2 := by simp [rawW]
theorem jcu (l : List Nat) : recW l = rawW l ++ zs (secN l.length * 64 - (l.length + 2)) := by
  simp only [recW, rawW, List.cons_append]
  rw [Nat.sub_sub, Nat.add_comm 2]
theorem YF {l : List Nat} {j : Nat} (hj : j < secN l.length) : padS (((rawW l).drop (j * 64)).take 64) = ((recW l).drop (j * 64)).take 64 := by
  have hl := yl l
  have hk : secN l.length * 64 < l.length + 2 + 64 := by unfold secN; omega
  have h1 : j * 64 ≤ (rawW l).length := by rw [hl]; omega
  rw [jcu, List.drop_append_of_le_length h1, padS]
  by_cases h : 64 ≤ ((rawW l).drop (j * 64)).length
  · rw [List.take_append_of_le_length h, List.length_take, Nat.min_eq_left h]
    simp [zs]
  · have h2 : ((rawW l).drop (j * 64)).length = l.length + 2 - j * 64 := by rw [List.length_drop, hl]
    rw [List.take_of_length_le (by omega), List.take_append, List.take_of_length_le (by omega)]
    congr 1
    simp only [zs, List.take_replicate]
    congr 1
    have : (j + 1) * 64 ≤ secN l.length * 64 := Nat.mul_le_mul_right _ hj
    omega
theorem uO (l : List Nat) (j : Nat) : (((rawW l).drop (j * 64)).take 64).length ≤ 64 := by rw [List.length_take]; omega
theorem KL {P : Program} {o : Oper} {A : Act} (t t2 : TypeId) (x y : Operand) (ho : o.op = .binOp .quo t x y t2) (a m : Nat) (hx : A.eval x = .int .u64 (a : Int)) (hy : A.eval y = .int .u64 (m : Int)) (hm : m ≠ 0) (ha : a < lim) (w : World) : (execOp A.eval o).run P w = .ok (.value (.int .u64 ((a / m : Nat) : Int))) w := by
  refine jF .quo t x y t2 ho _ _ _ hx hy (by simp [eqGuard]) ?_
  have h1 : (a : Int).tdiv (m : Int) = ((a / m : Nat) : Int) := tdivN a m
  have h2 : (m : Int) ≠ 0 := by omega
  have h3 : IntKind.u64.wrap ((a / m : Nat) : Int) = ((a / m : Nat) : Int) := by
    have : a / m ≤ a := Nat.div_le_self _ _
    have hl : lim = 18446744073709551616 := rfl
    generalize a / m = c at *
    simp [IntKind.wrap, IntKind.bits, IntKind.signed]
    omega
  simp only [binOp, Op.intDiv, if_neg h2, h1, h3]
  rfl
def layB (C : List Nat) (off x j : Nat) : List Nat := wr C (off + 8 - j) ((beL 8 x).drop (8 - j))
theorem Qm (C : List Nat) (off x : Nat) : layB C off x 0 = C := by
  rw [layB, Nat.sub_zero, List.drop_of_length_le (by rw [jL]; exact Nat.le_refl _), YL]
theorem beL_drop {x j : Nat} (hj : j < 8) : (beL 8 x).drop (8 - (j + 1)) = (x / 256 ^ j % 256) :: (beL 8 x).drop (8 - j) := by
  have hl := jL 8 x
  rw [List.drop_eq_getElem_cons (by omega)]
  have h1 : (beL 8 x)[8 - (j + 1)]'(by omega) = x / 256 ^ j % 256 := by
    have := vn 8 x (8 - (j + 1)) (by omega)
    rw [List.getD_eq_getElem?_getD, List.getElem?_eq_getElem (by omega), Option.getD_some] at this
    rw [this, show 8 - 1 - (8 - (j + 1)) = j by omega]
  rw [h1, show 8 - (j + 1) + 1 = 8 - j by omega]
theorem vD {C : List Nat} {off x j : Nat} (hC : off + 8 ≤ C.length) (hj : j ≤ 8) : (layB C off x j).length = C.length := by
  rw [layB, yN]
  rw [List.length_drop, jL]
  omega
theorem JT {C : List Nat} {off x j : Nat} (hC : off + 8 ≤ C.length) (hj : j < 8) : (layB C off x j).set (off + 7 - j) (x / 256 ^ j % 256) = layB C off x (j + 1) := by
  have hl : ((beL 8 x).drop (8 - j)).length = j := by rw [List.length_drop, jL]; omega
  have h1 : (C.take (off + 8 - (j + 1))).length = off + 7 - j := by rw [List.length_take]; omega
  rw [layB, layB, beL_drop hj, wr, wr, hl, List.length_cons, hl]
  have e1 : C.take (off + 8 - j) = C.take (off + 8 - (j + 1)) ++ [C.getD (off + 7 - j) 0] := by
    rw [show off + 8 - j = (off + 8 - (j + 1)) + 1 by omega, yA _ 0 _ (by omega), show off + 8 - (j + 1) = off + 7 - j by omega]
  rw [e1, List.append_assoc, List.append_assoc, List.set_append_right _ _ (by omega), h1, Nat.sub_self]
  simp only [List.cons_append, List.nil_append, List.set_cons_zero, List.append_assoc]
  rw [show off + 8 - (j + 1) + (j + 1) = off + 8 - j + j by omega]
theorem Ql {C : List Nat} {off x : Nat} (_hC : off + 8 ≤ C.length) : layB C off x 8 = wr C off (beL 8 x) := by
  rw [layB, show off + 8 - 8 = off by omega, Nat.sub_self, List.drop_zero]
theorem jao (h : Hd) : wr (wr (wr (zs 24) 0 (beL 8 h.g)) 8 (beL 8 h.u)) 16 (beL 8 h.c) = hdL h := by
  have l1 := jL 8 h.g
  have l2 := jL 8 h.u
  have l3 := jL 8 h.c
  have e1 : wr (zs 24) 0 (beL 8 h.g) = beL 8 h.g ++ zs 16 := by rw [Qy, l1]
  have e2 : wr (beL 8 h.g ++ zs 16) 8 (beL 8 h.u) = beL 8 h.g ++ (beL 8 h.u ++ zs 8) := by
    rw [wr, List.take_left' l1, l2, ← List.drop_drop, List.drop_left' l1, List.append_assoc]
    rfl
  rw [e1, e2, wr, hdL, l3]
  have l4 : (beL 8 h.g ++ beL 8 h.u).length = 16 := by rw [List.length_append, l1, l2]
  rw [← List.append_assoc, List.take_left' l4, show 16 + 8 = 16 + 8 from rfl, ← List.drop_drop, List.drop_left' l4]
  simp [zs, List.append_assoc]
theorem Vs (x j : Nat) : x / 256 ^ j / 256 = x / 256 ^ (j + 1) := by rw [Nat.div_div_eq_div_mul, ← Nat.pow_succ]
def RApP (w : World) (mp rp B : Nat) (ro : Option Addr) (rc n : Nat) (L : List Nat) (pw dn : Int) (h : Hd) (l : List Nat) (e : Ending) (w' : World) : Prop :=
  ∃ dn', e = .returned (.int .i64 (bif apOK pw (secN l.length) then 0 else 8)) ∧ GroS (rp :: mp :: blk ro) w w' ∧ dn ≤ dn' ∧ dn' ≤ dn + 20 ∧ QK w' rp B ro rc n (apL L pw h l) (apP pw (secN l.length)) dn' ∧ MK w' mp rp (apH pw h l) (!apOK pw (secN l.length))
theorem Vc (w : World) (mp rp : Nat) (h : Hd) (HM : MK w mp rp h true) (ao : Option Addr) (cap : Nat) (l : List Nat) : Calls Tryz.prog 31 #[vP mp 0, .slice ao l.length cap] w fun e w' => e = .returned (iK 8) ∧ Gro w w' := by
  refine eN func31 rfl ntmps31 [vP mp 0, .slice ao l.length cap] ?_
  have GG := Gro.refl w
  have kmp := HM.box
  refine qE (qG (mv (iK 0) rfl (nq ?_)))
  refine qL (qE (qE (qG (mv (vP mp 0) rfl (sv (vP mp 0) (jl _ rfl _ rfl) rfl (sv (vP mp 4) (je 66 _ 4 rfl _ _ rfl _ (by kernel_rfl)) rfl (sv (vT) (jo 4 _ rfl mp 4 rfl 66 _ kmp (na4 _) _ rfl) rfl (nq ?_))))))))
  refine qL (qT rfl (qE (qG (mv (iK 8) rfl (nq ?_)))))
  refine qL (qR (jm ?_))
  refine bodyPost_ret (results_tmp results31 _ _ _) rfl ?_
  exact ⟨rfl, GG⟩
theorem Va (w : World) (mp rp : Nat) (h : Hd) (HM : MK w mp rp h false) (ao : Option Addr) (cap : Nat) (l : List Nat) (hl : 1024 < l.length) : Calls Tryz.prog 31 #[vP mp 0, .slice ao l.length cap] w fun e w' => e = .returned (iK 4) ∧ Gro w w' := by
  refine eN func31 rfl ntmps31 [vP mp 0, .slice ao l.length cap] ?_
  have GG := Gro.refl w
  have kmp := HM.box
  refine qE (qG (mv (iK 0) rfl (nq ?_)))
  refine qL (qE (qE (qG (mv (vP mp 0) rfl (sv (vP mp 0) (jl _ rfl _ rfl) rfl (sv (vP mp 4) (je 66 _ 4 rfl _ _ rfl _ (by kernel_rfl)) rfl (sv (vF) (jo 4 _ rfl mp 4 rfl 66 _ kmp (na4 _) _ rfl) rfl (nq ?_))))))))
  refine qL (qF rfl (qK (qE (qE (qG (mv (.slice ao l.length cap) rfl (sv (nK l.length) (js underlying27 _ rfl _ _ _ rfl _) rfl (sv (vT) (jy 3 _ _ _ rfl ((l.length : Nat) : Int) 1024 rfl rfl true (by first | exact decide_eq_true (by omega) | exact decide_eq_false (by omega)) _) rfl (nq ?_)))))))))
  refine qL (qT rfl (qE (qG (mv (iK 4) rfl (nq ?_)))))
  refine qL (qR (jm ?_))
  refine bodyPost_ret (results_tmp results31 _ _ _) rfl ?_
  exact ⟨rfl, GG⟩
theorem Vb (w : World) (mp rp : Nat) (h : Hd) (HM : MK w mp rp h false) (B : Nat) (ro : Option Addr) (rc n : Nat) (L : List Nat) (pw dn : Int) (HR : QK w rp B ro rc n L pw dn) (hu : h.u + 2 ≤ n) (ao : Option Addr) (cap : Nat) (l : List Nat) (hl : l.length ≤ 1024) (hf : n - 2 - h.u < secN l.length) : Calls Tryz.prog 31 #[vP mp 0, .slice ao l.length cap] w fun e w' => e = .returned (iK 5) ∧ Gro w w' := by
  refine eN func31 rfl ntmps31 [vP mp 0, .slice ao l.length cap] ?_
  have GG := Gro.refl w
  have kmp := HM.box
  refine qE (qG (mv (iK 0) rfl (nq ?_)))
  refine qL (qE (qE (qG (mv (vP mp 0) rfl (sv (vP mp 0) (jl _ rfl _ rfl) rfl (sv (vP mp 4) (je 66 _ 4 rfl _ _ rfl _ (by kernel_rfl)) rfl (sv (vF) (jo 4 _ rfl mp 4 rfl 66 _ kmp (na4 _) _ rfl) rfl (nq ?_))))))))
  refine qL (qF rfl (qK (qE (qE (qG (mv (.slice ao l.length cap) rfl (sv (nK l.length) (js underlying27 _ rfl _ _ _ rfl _) rfl (sv (vF) (jy 3 _ _ _ rfl ((l.length : Nat) : Int) 1024 rfl rfl false (by first | exact decide_eq_true (by omega) | exact decide_eq_false (by omega)) _) rfl (nq ?_)))))))))
  refine qL (qF rfl (qK (qE (qG (mv (.slice ao l.length cap) rfl (nq ?_))))))
  refine jr 26 rfl rfl _ 56 call56 rfl rfl _ rfl [.slice ao l.length cap] rfl (Jq _ ao cap l (by omega)) ?_
  intro w1 G
  replace kmp := G.has kmp
  replace HR := HR.gro G
  replace GG := GG.trans G
  clear G
  refine nq ?_
  refine mv (nK (secN l.length)) rfl (nq ?_)
  refine qL (qE (qE (qG (mv (nK (secN l.length)) rfl (mv (vP mp 0) rfl (nq ?_))))))
  refine jr 29 rfl rfl _ 57 call57 rfl rfl _ rfl [vP mp 0] rfl (Yw _ mp rp h false ⟨kmp⟩ B ro rc n L pw dn HR hu) ?_
  intro w2 G
  replace kmp := G.has kmp
  replace HR := HR.gro G
  replace GG := GG.trans G
  clear G
  refine nq ?_
  refine sv (vT) (jy 3 _ _ _ rfl ((secN l.length : Nat) : Int) ((n - 2 - h.u : Nat) : Int) rfl rfl true (by first | exact decide_eq_true (by omega) | exact decide_eq_false (by omega)) _) rfl (nq ?_)
  refine qL (qT rfl (qE (qG (mv (iK 5) rfl (nq ?_)))))
  refine qL (qR (jm ?_))
  refine bodyPost_ret (results_tmp results31 _ _ _) rfl ?_
  exact ⟨rfl, GG⟩
theorem JH {ao : Option Addr} {cap i : Nat} {ad : Addr} (h : cutA ao cap i = some ad) : ∃ a, ao = some a ∧ a.block = ad.block := by
  unfold cutA at h
  split at h
  · exact ⟨ad, h, rfl⟩
  · cases ao with
    | none => cases h
    | some a =>
      refine ⟨a, rfl, ?_⟩
      cases h
      rw [zY]
theorem wl1 (x : Nat) : (wr (zs 24) 0 (beL 8 x)).length = 24 := by
  rw [yN (by rw [jL, zo]; decide), zo]
theorem wl2 (x y : Nat) : (wr (wr (zs 24) 0 (beL 8 x)) 8 (beL 8 y)).length = 24 := by
  rw [yN (by rw [jL, wl1]; decide), wl1]
theorem QK.stq {w w' : World} {p B : Nat} {ao : Option Addr} {cap n : Nat} {L : List Nat} {pw dn : Int} {g : Nat} {x : Obj} (h : QK w p B ao cap n L pw dn) (St : Stored w w' g x) (h1 : g ≠ p) (h2 : ∀ ad, ao = some ad → ad.block ≠ g) : QK w' p B ao cap n L pw dn := ⟨St.has (Ne.symm h1) h.box, h.row.apart St h2, h.len, h.le⟩
theorem ZU (w : World) (mp rp : Nat) (h : Hd) (HM : MK w mp rp h false) (B : Nat) (ro : Option Addr) (rc n : Nat) (L : List Nat) (pw dn : Int) (HR : QK w rp B ro rc n L pw dn) (hu : h.u + 2 ≤ n) (ao : Option Addr) (cap : Nat) (l : List Nat) (HB : BS (rp :: mp :: blk ro) w ao cap l) (hl : l.length ≤ 1024) (hf : h.u + secN l.length + 2 ≤ n) (hP : okP pw) (hg : h.g + 1 < lim) (hc : h.c + 1 < 9223372036854775808) (hd : 0 ≤ dn) (hd2 : dn < 9223372036854760000) : Calls Tryz.prog 31 #[vP mp 0, .slice ao l.length cap] w (RApP w mp rp B ro rc n L pw dn h l) := by
  refine eN func31 rfl ntmps31 [vP mp 0, .slice ao l.length cap] ?_
  have GG := GroS.refl (rp :: mp :: blk ro) w
  have kmp := HM.box
  have hn4 := HR.le
  have hlim : lim = 18446744073709551616 := rfl
  have hsn : secN l.length ≤ 17 := by unfold secN; omega
  have hs2 : l.length + 2 ≤ secN l.length * 64 ∧ secN l.length * 64 < l.length + 66 := by unfold secN; omega
  have hlrp := ji HR.box
  have hlmp := ji kmp
  have hLn := HR.len
  have hlro : ∀ ad, ro = some ad → ad.block < w.heap.size := fun ad ha => (HR.row.ge ad ha).2
  have hrm : rp ≠ mp := jB HR.box kmp (by decide)
  have hrn : ∀ ad, ro = some ad → ad.block ≠ mp := fun ad ha => by obtain ⟨cur, hc⟩ := HR.row.blk5 ha; exact jB hc kmp (by decide)
  have hsub : ∀ x ∈ rp :: blk ro, x ∈ rp :: mp :: blk ro := fun x hx => by rcases List.mem_cons.1 hx with e | e; exact List.mem_cons.2 (.inl e); exact List.mem_cons.2 (.inr (List.mem_cons.2 (.inr e)))
  have hmpS : mp ∉ rp :: blk ro := fun hm => by rcases List.mem_cons.1 hm with e | e; exact hrm e.symm; obtain ⟨ad, ha, hb⟩ := mem_blk.1 e; exact hrn ad ha hb
  refine qE (qG (mv (iK 0) rfl (nq ?_)))
  refine qL (qE (qE (qG (mv (vP mp 0) rfl (sv (vP mp 0) (jl _ rfl _ rfl) rfl (sv (vP mp 4) (je 66 _ 4 rfl _ _ rfl _ (by kernel_rfl)) rfl (sv (vF) (jo 4 _ rfl mp 4 rfl 66 _ kmp (na4 _) _ rfl) rfl (nq ?_))))))))
  refine qL (qF rfl (qK (qE (qE (qG (mv (.slice ao l.length cap) rfl (sv (nK l.length) (js underlying27 _ rfl _ _ _ rfl _) rfl (sv (vF) (jy 3 _ _ _ rfl ((l.length : Nat) : Int) 1024 rfl rfl false (by first | exact decide_eq_true (by omega) | exact decide_eq_false (by omega)) _) rfl (nq ?_)))))))))
  refine qL (qF rfl (qK (qE (qG (mv (.slice ao l.length cap) rfl (nq ?_))))))
  refine jr 26 rfl rfl _ 56 call56 rfl rfl _ rfl [.slice ao l.length cap] rfl (Jq _ ao cap l (by omega)) ?_
  intro w1 G
  replace kmp := G.has kmp
  replace HR := HR.gro G
  replace HB := HB.gro G
  replace GG := GG.tg G
  clear G
  refine nq ?_
  refine mv (nK (secN l.length)) rfl (nq ?_)
  refine qL (qE (qE (qG (mv (nK (secN l.length)) rfl (mv (vP mp 0) rfl (nq ?_))))))
  refine jr 29 rfl rfl _ 57 call57 rfl rfl _ rfl [vP mp 0] rfl (Yw _ mp rp h false ⟨kmp⟩ B ro rc n L pw dn HR hu) ?_
  intro w2 G
  replace kmp := G.has kmp
  replace HR := HR.gro G
  replace HB := HB.gro G
  replace GG := GG.tg G
  clear G
  refine nq ?_
  refine sv (vF) (jy 3 _ _ _ rfl ((secN l.length : Nat) : Int) ((n - 2 - h.u : Nat) : Int) rfl rfl false (by first | exact decide_eq_true (by omega) | exact decide_eq_false (by omega)) _) rfl (nq ?_)
  refine qL (qF rfl (qK (qE (qG (mv (.slice ao l.length cap) rfl (sv (nK l.length) (js underlying27 _ rfl _ _ _ rfl _) rfl (sv (iK ((l.length / 256 : Nat) : Int)) (zn _ _ _ rfl ((l.length : Nat) : Int) 256 _ rfl rfl (by decide) (tdivN _ 256) (by omega) (by omega) _) rfl (sv (.int .u8 ((l.length / 256 : Nat) : Int)) (conv35 _ rfl (l.length / 256) (by omega) rfl _) rfl (mv (.slice ao l.length cap) rfl (sv (nK l.length) (js underlying27 _ rfl _ _ _ rfl _) rfl ?_))))))))))
  refine nq ?_
  refine sv (iK ((l.length % 256 : Nat) : Int)) (ut _ _ _ rfl ((l.length : Nat) : Int) 256 _ rfl rfl (by decide) (tmodN _ 256) (by omega) (by omega) _) rfl (sv (.int .u8 ((l.length % 256 : Nat) : Int)) (conv35 _ rfl (l.length % 256) (by omega) rfl _) rfl (nq ?_))
  refine ye 39 rfl rfl 27 2 _ rfl [(0, .int .u8 ((l.length / 256 : Nat) : Int)), (1, .int .u8 ((l.length % 256 : Nat) : Int))] rfl #[.int .u8 ((l.length / 256 : Nat) : Int), .int .u8 ((l.length % 256 : Nat) : Int)] 5 (by kernel_rfl) ?_
  intro w3 gb G1 egb kgb
  refine nq ?_
  refine mv (.slice ao l.length cap) rfl (nq ?_)
  have HO1 : OB _ 5 .u8 gb (some ⟨gb, 0, none⟩) 2 [l.length / 256, l.length % 256] := OB.made kgb (Nat.le_refl _) (Nat.le_refl _) (by decide) rfl rfl (fun x hx => by rw [yY]; simp at hx; omega)
  refine yH bT 41 rfl rfl _ _ rfl rfl HO1 (l' := l) rfl (HB.nc.gro G1) (by simp only [List.length_cons, List.length_nil]; omega) (by decide) (Nat.le_of_lt (ji kgb)) ?_
  intro ao4 cap4 w4 HO2 BB
  have G := zq G1 BB (Nat.le_of_eq egb)
  have bgb := jN GG egb
  have HO : OB _ 5 .u8 w.heap.size ao4 cap4 (rawW l) := HO2.mono bgb
  clear HO1 HO2 BB G1 egb kgb
  replace kmp := G.has kmp
  replace HR := HR.gro G
  replace HB := HB.gro G
  replace GG := GG.tg G
  clear G
  refine nq ?_
  refine mv (.slice ao4 ((rawW l).length) cap4) rfl (nq ?_)
  refine qL (qE (qE (qG (mv (iK 0) rfl (nq ?_)))))
  refine qL (qB ?_)
  refine jO (fun mz az wv => ∃ (j : Nat) (pj : Int) (us1 : Nat → Value), mz = secN l.length - j ∧ az = ⟨[vP mp 0, .slice ao l.length cap, uD, uD, us1 4, nK (secN l.length), .slice ao4 ((rawW l).length) cap4, nK j, us1 8, us1 9, uD, uD, uD, uD, uD, uD, uD, uD, vP mp 0, vP mp 0, vP mp 4, vF, .slice ao l.length cap, nK l.length, vF, .slice ao l.length cap, nK (secN l.length), nK (secN l.length), vP mp 0, nK (n - 2 - h.u), vF, .slice ao l.length cap, nK l.length, iK ((l.length / 256 : Nat) : Int), .int .u8 ((l.length / 256 : Nat) : Int), .slice ao l.length cap, nK l.length, iK ((l.length % 256 : Nat) : Int), .int .u8 ((l.length % 256 : Nat) : Int), .slice (some ⟨gb, 0, none⟩) 2 2, .slice ao l.length cap, .slice ao4 ((rawW l).length) cap4, us1 42, us1 43, us1 44, us1 45, us1 46, us1 47, us1 48, us1 49, us1 50, us1 51, us1 52, us1 53, us1 54, us1 55, us1 56, us1 57, us1 58, us1 59, us1 60, us1 61, us1 62, us1 63, us1 64, us1 65, us1 66, us1 67, us1 68, us1 69, us1 70, us1 71, us1 72, us1 73, us1 74, uD, uD, uD, uD, uD, uD, uD, uD, uD, uD, uD, uD, uD, uD, uD, uD, uD, uD, uD, uD, uD, uD, uD, uD, uD, uD, uD, uD, uD, uD, uD, uD, uD, uD, uD, uD, uD, uD, uD, uD, uD, uD, uD, uD, uD, uD, uD, uD, uD, uD, uD, uD, uD, uD, uD, uD, uD, uD, uD, uD, uD, uD, uD, uD, uD, uD, uD, uD, uD, uD, uD, uD, uD, uD, uD, uD, uD, uD, uD, uD, uD, uD, uD, uD, uD, uD, uD, uD, uD, uD, uD, uD, uD, uD, uD, uD, uD].toArray, []⟩ ∧ j ≤ secN l.length ∧ PJ pw j pj ∧ GroS (rp :: mp :: blk ro) w wv ∧ wv.heap[mp]? = some (.cells (c66 (some ⟨rp, 0, none⟩) ((h.g : Nat) : Int) ((h.u : Nat) : Int) ((h.c : Nat) : Int) false) 66 (0, 0)) ∧ QK wv rp B ro rc n (wr L ((2 + h.u) * 64) ((recW l).take (j * 64))) pj (dn + j) ∧ OB wv 5 .u8 w.heap.size ao4 cap4 (rawW l)) ?_ _ ⟨0, pw, usK ⟨Nat.zero_le _, PJ.zero hP, GG, kmp, (by simpa [YL] using HR), HO⟩⟩
  clear kmp GG HR HO
  rintro mz az wv ⟨j, pj, us1, rfl, rfl, hj, hpj, GG, kmp, HR, HO⟩
  refine qE (qE (qG (mv (nK j) rfl (mv (nK (secN l.length)) rfl (nq ?_)))))
  obtain ⟨p1, hp1⟩ : ∃ p, decide (((j : Nat) : Int) < ((secN l.length : Nat) : Int)) = p := ⟨_, rfl⟩
  refine sv (.bool p1) (jv 3 _ _ _ rfl ((j : Nat) : Int) ((secN l.length : Nat) : Int) rfl rfl p1 hp1 _) rfl (nq ?_)
  cases p1
  have hjn : j = secN l.length := by have := of_decide_eq_false hp1; omega
  rw [hjn, ZG] at HR
  refine qL (qF rfl (wp_exit (jG (jG (zp (jC (qS ?_)))))))
  refine ZI bT 75 rfl rfl _ _ rfl 24 rfl rfl (by omega) (by simp only [maxLen]; omega) ?_
  intro w5 gh G egh kgh
  have bgh := jN GG egh
  have dmpgh := jn kmp egh
  replace kmp := G.has kmp
  replace HR := HR.gro G
  replace HO := HO.gro G
  replace GG := GG.tg G
  clear G egh
  refine nq ?_
  refine mv (.slice (some ⟨gh, 0, none⟩) 24 24) rfl (nq ?_)
  refine qL (qE (qE ?_))
  refine exQ 6 [(0, 76), (1, 77), (2, 78), (3, 79), (4, 80), (5, 11)] [.val (vP mp 0), .val (vP mp 0), .val (vP mp 1), .val (.int .u64 ((h.g : Nat) : Int)), .val (.int .u64 ((h.g + 1 : Nat) : Int)), .val (iK 0)] follows (by kernel_rfl) rfl (ja ?_ (ja ?_ (ja ?_ (ja ?_ (ja ?_ (ja ?_ jD)))))) ?_
  exact fun _ _ _ _ => jf _ rfl rfl rfl
  exact fun _ _ hw _ => jb rfl (jl _ rfl _ rfl)
  exact fun _ _ hw _ => jb rfl (je 66 _ 1 rfl _ _ rfl _ (by kernel_rfl))
  exact fun _ _ hw _ => jb rfl (jo 64 _ rfl mp 1 rfl 66 _ (hw.has kmp) (na64 _) _ rfl)
  exact fun _ _ hw _ => jb rfl (yh 64 64 _ _ rfl h.g 1 rfl rfl (by omega) _)
  exact fun _ _ _ _ => yd _ rfl rfl rfl
  intro ptrs w6 GD hxE
  simp only [List.drop_succ_cons, List.drop_zero]
  replace kmp := GD.has kmp
  replace kgh := GD.has kgh
  replace HR := HR.gro ((Gro.refl _).drew.trans GD)
  replace HO := HO.gro ((Gro.refl _).drew.trans GD)
  replace GG := GG.drew.tg GD
  clear GD
  refine mv (.int .u64 ((h.g + 1 : Nat) : Int)) rfl (nq ?_)
  refine qL (qB ?_)
  obtain ⟨Lk, hLk⟩ : ∃ Lk, Lk = wr L ((2 + h.u) * 64) (recW l) := ⟨_, rfl⟩
  rw [← hLk] at HR
  obtain ⟨dnk, hdnk⟩ : ∃ d : Int, d = dn + (j : Int) := ⟨_, rfl⟩
  have hdk : dnk = dn + (secN l.length : Nat) := by rw [hdnk, hjn]
  rw [← hdk] at HR
  refine jO (fun mz az wv => ∃ (t0 : Nat) (v0 : Nat) (us2 : Nat → Value), mz = 8 - t0 ∧ az = ⟨[vP mp 0, .slice ao l.length cap, uD, uD, us1 4, nK (secN l.length), .slice ao4 ((rawW l).length) cap4, nK j, us1 8, us1 9, .slice (some ⟨gh, 0, none⟩) 24 24, nK t0, .int .u64 ((v0 : Nat) : Int), uD, uD, uD, uD, uD, vP mp 0, vP mp 0, vP mp 4, vF, .slice ao l.length cap, nK l.length, vF, .slice ao l.length cap, nK (secN l.length), nK (secN l.length), vP mp 0, nK (n - 2 - h.u), vF, .slice ao l.length cap, nK l.length, iK ((l.length / 256 : Nat) : Int), .int .u8 ((l.length / 256 : Nat) : Int), .slice ao l.length cap, nK l.length, iK ((l.length % 256 : Nat) : Int), .int .u8 ((l.length % 256 : Nat) : Int), .slice (some ⟨gb, 0, none⟩) 2 2, .slice ao l.length cap, .slice ao4 ((rawW l).length) cap4, nK j, nK (secN l.length), vF, us1 45, us1 46, us1 47, us1 48, us1 49, us1 50, us1 51, us1 52, us1 53, us1 54, us1 55, us1 56, us1 57, us1 58, us1 59, us1 60, us1 61, us1 62, us1 63, us1 64, us1 65, us1 66, us1 67, us1 68, us1 69, us1 70, us1 71, us1 72, us1 73, us1 74, .slice (some ⟨gh, 0, none⟩) 24 24, vP mp 0, vP mp 0, vP mp 1, .int .u64 ((h.g : Nat) : Int), .int .u64 ((h.g + 1 : Nat) : Int), us2 81, us2 82, us2 83, us2 84, us2 85, us2 86, us2 87, us2 88, us2 89, us2 90, us2 91, us2 92, us2 93, uD, uD, uD, uD, uD, uD, uD, uD, uD, uD, uD, uD, uD, uD, uD, uD, uD, uD, uD, uD, uD, uD, uD, uD, uD, uD, uD, uD, uD, uD, uD, uD, uD, uD, uD, uD, uD, uD, uD, uD, uD, uD, uD, uD, uD, uD, uD, uD, uD, uD, uD, uD, uD, uD, uD, uD, uD, uD, uD, uD, uD, uD, uD, uD, uD, uD, uD, uD, uD, uD, uD, uD, uD, uD, uD, uD, uD, uD].toArray, []⟩ ∧ t0 ≤ 8 ∧ v0 = (h.g + 1) / 256 ^ t0 ∧ GroS (rp :: mp :: blk ro) w wv ∧ wv.heap[mp]? = some (.cells (c66 (some ⟨rp, 0, none⟩) ((h.g : Nat) : Int) ((h.u : Nat) : Int) ((h.c : Nat) : Int) false) 66 (0, 0)) ∧ QK wv rp B ro rc n Lk pj dnk ∧ wv.heap[gh]? = some (.cells (bv (layB (zs 24) 0 (h.g + 1) t0)) 5 (0, 0))) ?_ _ ⟨0, (h.g + 1), usK ⟨Nat.zero_le _, (by simp), GG, kmp, HR, (by rw [Qm]; exact kgh)⟩⟩
  clear kmp kgh GG HR
  rintro mz az wv ⟨t0, v0, us2, rfl, rfl, ht, hv, GG, kmp, HR, kgh⟩
  have hvl : v0 ≤ (h.g + 1) := by rw [hv]; exact Nat.div_le_self _ _
  refine qE (qE (qG (mv (nK t0) rfl (nq ?_))))
  obtain ⟨p2, hp2⟩ : ∃ p, decide (((t0 : Nat) : Int) < 8) = p := ⟨_, rfl⟩
  refine sv (.bool p2) (jv 3 _ _ _ rfl ((t0 : Nat) : Int) 8 rfl rfl p2 hp2 _) rfl (nq ?_)
  cases p2
  have htn : t0 = 8 := by have := of_decide_eq_false hp2; omega
  rw [htn, Ql (by simp only [zo]; decide)] at kgh
  refine qL (qF rfl (wp_exit (jG (jG (zp (jC (qE (qE ?_))))))))
  refine exQ 7 [(0, 94), (1, 95), (2, 96), (3, 97), (4, 98), (5, 99), (6, 13)] [.val (vP mp 0), .val (vP mp 0), .val (vP mp 2), .val (nK h.u), .val (nK (secN l.length)), .val (nK (h.u + secN l.length)), .val (iK 0)] follows (by kernel_rfl) rfl (ja ?_ (ja ?_ (ja ?_ (ja ?_ (ja ?_ (ja ?_ (ja ?_ jD))))))) ?_
  exact fun _ _ _ _ => jf _ rfl rfl rfl
  exact fun _ _ hw _ => jb rfl (jl _ rfl _ rfl)
  exact fun _ _ hw _ => jb rfl (je 66 _ 2 rfl _ _ rfl _ (by kernel_rfl))
  exact fun _ _ hw _ => jb rfl (jo 3 _ rfl mp 2 rfl 66 _ (hw.has kmp) (na3 _) _ rfl)
  exact fun _ _ _ _ => jf _ rfl rfl rfl
  exact fun _ _ hw _ => jb rfl (jp _ _ _ rfl ((h.u : Nat) : Int) ((secN l.length : Nat) : Int) _ rfl rfl (by omega) (by omega) (by omega) _)
  exact fun _ _ _ _ => yd _ rfl rfl rfl
  intro ptrs w7 GD hxE
  simp only [List.drop_succ_cons, List.drop_zero]
  replace kmp := GD.has kmp
  replace kgh := GD.has kgh
  replace HR := HR.gro ((Gro.refl _).drew.trans GD)
  replace GG := GG.drew.tg GD
  clear GD
  refine mv (nK (h.u + secN l.length)) rfl (nq ?_)
  refine qL (qB ?_)
  refine jO (fun mz az wv => ∃ (t1 : Nat) (v1 : Nat) (us3 : Nat → Value), mz = 8 - t1 ∧ az = ⟨[vP mp 0, .slice ao l.length cap, uD, uD, us1 4, nK (secN l.length), .slice ao4 ((rawW l).length) cap4, nK j, us1 8, us1 9, .slice (some ⟨gh, 0, none⟩) 24 24, nK t0, .int .u64 ((v0 : Nat) : Int), nK t1, nK v1, uD, uD, uD, vP mp 0, vP mp 0, vP mp 4, vF, .slice ao l.length cap, nK l.length, vF, .slice ao l.length cap, nK (secN l.length), nK (secN l.length), vP mp 0, nK (n - 2 - h.u), vF, .slice ao l.length cap, nK l.length, iK ((l.length / 256 : Nat) : Int), .int .u8 ((l.length / 256 : Nat) : Int), .slice ao l.length cap, nK l.length, iK ((l.length % 256 : Nat) : Int), .int .u8 ((l.length % 256 : Nat) : Int), .slice (some ⟨gb, 0, none⟩) 2 2, .slice ao l.length cap, .slice ao4 ((rawW l).length) cap4, nK j, nK (secN l.length), vF, us1 45, us1 46, us1 47, us1 48, us1 49, us1 50, us1 51, us1 52, us1 53, us1 54, us1 55, us1 56, us1 57, us1 58, us1 59, us1 60, us1 61, us1 62, us1 63, us1 64, us1 65, us1 66, us1 67, us1 68, us1 69, us1 70, us1 71, us1 72, us1 73, us1 74, .slice (some ⟨gh, 0, none⟩) 24 24, vP mp 0, vP mp 0, vP mp 1, .int .u64 ((h.g : Nat) : Int), .int .u64 ((h.g + 1 : Nat) : Int), nK t0, vF, us2 83, us2 84, us2 85, us2 86, us2 87, us2 88, us2 89, us2 90, us2 91, us2 92, us2 93, vP mp 0, vP mp 0, vP mp 2, nK h.u, nK (secN l.length), nK (h.u + secN l.length), us3 100, us3 101, us3 102, us3 103, us3 104, us3 105, us3 106, us3 107, us3 108, us3 109, us3 110, us3 111, us3 112, uD, uD, uD, uD, uD, uD, uD, uD, uD, uD, uD, uD, uD, uD, uD, uD, uD, uD, uD, uD, uD, uD, uD, uD, uD, uD, uD, uD, uD, uD, uD, uD, uD, uD, uD, uD, uD, uD, uD, uD, uD, uD, uD, uD, uD, uD, uD, uD, uD, uD, uD, uD, uD, uD, uD, uD, uD, uD, uD].toArray, []⟩ ∧ t1 ≤ 8 ∧ v1 = (h.u + secN l.length) / 256 ^ t1 ∧ GroS (rp :: mp :: blk ro) w wv ∧ wv.heap[mp]? = some (.cells (c66 (some ⟨rp, 0, none⟩) ((h.g : Nat) : Int) ((h.u : Nat) : Int) ((h.c : Nat) : Int) false) 66 (0, 0)) ∧ QK wv rp B ro rc n Lk pj dnk ∧ wv.heap[gh]? = some (.cells (bv (layB (wr (zs 24) 0 (beL 8 (h.g + 1))) 8 (h.u + secN l.length) t1)) 5 (0, 0))) ?_ _ ⟨0, (h.u + secN l.length), usK ⟨Nat.zero_le _, (by simp), GG, kmp, HR, (by rw [Qm]; exact kgh)⟩⟩
  clear kmp kgh GG HR
  rintro mz az wv ⟨t1, v1, us3, rfl, rfl, ht, hv, GG, kmp, HR, kgh⟩
  have hvl : v1 ≤ (h.u + secN l.length) := by rw [hv]; exact Nat.div_le_self _ _
  refine qE (qE (qG (mv (nK t1) rfl (nq ?_))))
  obtain ⟨p3, hp3⟩ : ∃ p, decide (((t1 : Nat) : Int) < 8) = p := ⟨_, rfl⟩
  refine sv (.bool p3) (jv 3 _ _ _ rfl ((t1 : Nat) : Int) 8 rfl rfl p3 hp3 _) rfl (nq ?_)
  cases p3
  have htn : t1 = 8 := by have := of_decide_eq_false hp3; omega
  rw [htn, Ql (by simp only [wl1]; decide)] at kgh
  refine qL (qF rfl (wp_exit (jG (jG (zp (jC (qE (qE ?_))))))))
  refine exQ 6 [(0, 113), (1, 114), (2, 115), (3, 116), (4, 117), (5, 15)] [.val (vP mp 0), .val (vP mp 0), .val (vP mp 3), .val (nK h.c), .val (nK (h.c + 1)), .val (iK 0)] follows (by kernel_rfl) rfl (ja ?_ (ja ?_ (ja ?_ (ja ?_ (ja ?_ (ja ?_ jD)))))) ?_
  exact fun _ _ _ _ => jf _ rfl rfl rfl
  exact fun _ _ hw _ => jb rfl (jl _ rfl _ rfl)
  exact fun _ _ hw _ => jb rfl (je 66 _ 3 rfl _ _ rfl _ (by kernel_rfl))
  exact fun _ _ hw _ => jb rfl (jo 3 _ rfl mp 3 rfl 66 _ (hw.has kmp) (na3 _) _ rfl)
  exact fun _ _ hw _ => jb rfl (jp _ _ _ rfl ((h.c : Nat) : Int) 1 _ rfl rfl (by omega) (by omega) (by omega) _)
  exact fun _ _ _ _ => yd _ rfl rfl rfl
  intro ptrs w8 GD hxE
  simp only [List.drop_succ_cons, List.drop_zero]
  replace kmp := GD.has kmp
  replace kgh := GD.has kgh
  replace HR := HR.gro ((Gro.refl _).drew.trans GD)
  replace GG := GG.drew.tg GD
  clear GD
  refine mv (nK (h.c + 1)) rfl (nq ?_)
  refine qL (qB ?_)
  refine jO (fun mz az wv => ∃ (t2 : Nat) (v2 : Nat) (us4 : Nat → Value), mz = 8 - t2 ∧ az = ⟨[vP mp 0, .slice ao l.length cap, uD, uD, us1 4, nK (secN l.length), .slice ao4 ((rawW l).length) cap4, nK j, us1 8, us1 9, .slice (some ⟨gh, 0, none⟩) 24 24, nK t0, .int .u64 ((v0 : Nat) : Int), nK t1, nK v1, nK t2, nK v2, uD, vP mp 0, vP mp 0, vP mp 4, vF, .slice ao l.length cap, nK l.length, vF, .slice ao l.length cap, nK (secN l.length), nK (secN l.length), vP mp 0, nK (n - 2 - h.u), vF, .slice ao l.length cap, nK l.length, iK ((l.length / 256 : Nat) : Int), .int .u8 ((l.length / 256 : Nat) : Int), .slice ao l.length cap, nK l.length, iK ((l.length % 256 : Nat) : Int), .int .u8 ((l.length % 256 : Nat) : Int), .slice (some ⟨gb, 0, none⟩) 2 2, .slice ao l.length cap, .slice ao4 ((rawW l).length) cap4, nK j, nK (secN l.length), vF, us1 45, us1 46, us1 47, us1 48, us1 49, us1 50, us1 51, us1 52, us1 53, us1 54, us1 55, us1 56, us1 57, us1 58, us1 59, us1 60, us1 61, us1 62, us1 63, us1 64, us1 65, us1 66, us1 67, us1 68, us1 69, us1 70, us1 71, us1 72, us1 73, us1 74, .slice (some ⟨gh, 0, none⟩) 24 24, vP mp 0, vP mp 0, vP mp 1, .int .u64 ((h.g : Nat) : Int), .int .u64 ((h.g + 1 : Nat) : Int), nK t0, vF, us2 83, us2 84, us2 85, us2 86, us2 87, us2 88, us2 89, us2 90, us2 91, us2 92, us2 93, vP mp 0, vP mp 0, vP mp 2, nK h.u, nK (secN l.length), nK (h.u + secN l.length), nK t1, vF, us3 102, us3 103, us3 104, us3 105, us3 106, us3 107, us3 108, us3 109, us3 110, us3 111, us3 112, vP mp 0, vP mp 0, vP mp 3, nK h.c, nK (h.c + 1), us4 118, us4 119, us4 120, us4 121, us4 122, us4 123, us4 124, us4 125, us4 126, us4 127, us4 128, us4 129, us4 130, uD, uD, uD, uD, uD, uD, uD, uD, uD, uD, uD, uD, uD, uD, uD, uD, uD, uD, uD, uD, uD, uD, uD, uD, uD, uD, uD, uD, uD, uD, uD, uD, uD, uD, uD, uD, uD, uD, uD, uD, uD].toArray, []⟩ ∧ t2 ≤ 8 ∧ v2 = (h.c + 1) / 256 ^ t2 ∧ GroS (rp :: mp :: blk ro) w wv ∧ wv.heap[mp]? = some (.cells (c66 (some ⟨rp, 0, none⟩) ((h.g : Nat) : Int) ((h.u : Nat) : Int) ((h.c : Nat) : Int) false) 66 (0, 0)) ∧ QK wv rp B ro rc n Lk pj dnk ∧ wv.heap[gh]? = some (.cells (bv (layB (wr (wr (zs 24) 0 (beL 8 (h.g + 1))) 8 (beL 8 (h.u + secN l.length))) 16 (h.c + 1) t2)) 5 (0, 0))) ?_ _ ⟨0, (h.c + 1), usK ⟨Nat.zero_le _, (by simp), GG, kmp, HR, (by rw [Qm]; exact kgh)⟩⟩
  clear kmp kgh GG HR
  rintro mz az wv ⟨t2, v2, us4, rfl, rfl, ht, hv, GG, kmp, HR, kgh⟩
  have hvl : v2 ≤ (h.c + 1) := by rw [hv]; exact Nat.div_le_self _ _
  refine qE (qE (qG (mv (nK t2) rfl (nq ?_))))
  obtain ⟨p4, hp4⟩ : ∃ p, decide (((t2 : Nat) : Int) < 8) = p := ⟨_, rfl⟩
  refine sv (.bool p4) (jv 3 _ _ _ rfl ((t2 : Nat) : Int) 8 rfl rfl p4 hp4 _) rfl (nq ?_)
  cases p4
  have htn : t2 = 8 := by have := of_decide_eq_false hp4; omega
  rw [htn, Ql (by simp only [wl2]; decide)] at kgh
  rw [jao ⟨h.g + 1, h.u + secN l.length, h.c + 1⟩] at kgh
  refine qL (qF rfl (wp_exit (jG (jG (zp (jC (qE (qE ?_))))))))
  refine exQ 12 [(0, 131), (1, 132), (2, 133), (3, 134), (4, 135), (5, 136), (6, 137), (7, 138), (8, 139), (9, 140), (10, 141), (11, 142)] [.val (vP mp 0), .val (vP mp 0), .val (vP mp 0), .val (vP rp 0), .val (vP mp 0), .val (vP mp 0), .val (vP mp 1), .val (.int .u64 ((h.g : Nat) : Int)), .val (.int .u64 ((h.g + 1 : Nat) : Int)), .val (.int .u64 (((h.g + 1) % 2 : Nat) : Int)), .val (iK (((h.g + 1) % 2 : Nat) : Int)), .val (.slice (some ⟨gh, 0, none⟩) 24 24)] follows (by kernel_rfl) rfl (ja ?_ (ja ?_ (ja ?_ (ja ?_ (ja ?_ (ja ?_ (ja ?_ (ja ?_ (ja ?_ (ja ?_ (ja ?_ (ja ?_ jD)))))))))))) ?_
  exact fun _ _ _ _ => jf _ rfl rfl rfl
  exact fun _ _ hw _ => jb rfl (jl _ rfl _ rfl)
  exact fun _ _ hw _ => jb rfl (je 66 _ 0 rfl _ _ rfl _ (by kernel_rfl))
  exact fun _ _ hw _ => jb rfl (jo 24 _ rfl mp 0 rfl 66 _ (hw.has kmp) (na24 _) _ rfl)
  exact fun _ _ _ _ => jf _ rfl rfl rfl
  exact fun _ _ hw _ => jb rfl (jl _ rfl _ rfl)
  exact fun _ _ hw _ => jb rfl (je 66 _ 1 rfl _ _ rfl _ (by kernel_rfl))
  exact fun _ _ hw _ => jb rfl (jo 64 _ rfl mp 1 rfl 66 _ (hw.has kmp) (na64 _) _ rfl)
  exact fun _ _ hw _ => jb rfl (yh 64 64 _ _ rfl h.g 1 rfl rfl (by omega) _)
  exact fun _ _ hw _ => jb rfl (Ys 64 64 _ _ rfl (h.g + 1) rfl rfl _)
  exact fun _ _ hw _ => jb rfl (conv253 _ rfl ((h.g + 1) % 2) (by omega) rfl _)
  exact fun _ _ _ _ => jf _ rfl rfl rfl
  intro ptrs w9 GD hxE
  simp only [List.drop_succ_cons, List.drop_zero]
  replace kmp := GD.has kmp
  replace kgh := GD.has kgh
  replace HR := HR.gro ((Gro.refl _).drew.trans GD)
  replace GG := GG.drew.tg GD
  clear GD
  have h24 := JF ⟨h.g + 1, h.u + secN l.length, h.c + 1⟩
  have hncq := Qi kgh (jee ⟨h.g + 1, h.u + secN l.length, h.c + 1⟩)
  by_cases h0 : pj = 0
  have HX := uh _ rp B ro rc n _ _ _ HR h0 (some ⟨gh, 0, none⟩) 24 (hdL ⟨h.g + 1, h.u + secN l.length, h.c + 1⟩) ((h.g + 1) % 2) (by omega) (by omega)
  rw [h24] at HX
  refine jr 143 rfl rfl _ 58 call58 rfl rfl _ rfl [vP rp 0, iK (((h.g + 1) % 2 : Nat) : Int), .slice (some ⟨gh, 0, none⟩) 24 24] rfl (HX) ?_
  intro w10 G
  replace kmp := G.has kmp
  replace kgh := G.has kgh
  replace HR := HR.gro G
  replace GG := GG.tg G
  clear G
  refine nq ?_
  clear HX
  refine mv (iK 8) rfl (nq ?_)
  refine qL (qE (qG (mv (iK 8) rfl (sv (vT) (jj 31 .i64 _ _ _ rfl underlying31 _ _ rfl rfl true rfl _) rfl (nq ?_)))))
  refine qL (qT rfl (qE (qG (mv (vP mp 0) rfl (sv (vP mp 0) (jl _ rfl _ rfl) rfl (sv (vP mp 4) (je 66 _ 4 rfl _ _ rfl _ (by kernel_rfl)) rfl (nq ?_)))))))
  refine jE rfl rfl 4 _ _ rfl mp 4 rfl (vT) rfl 66 _ kmp #[vT] rfl (by kernel_rfl) (Nat.le_of_ble_eq_true rfl) (by kernel_rfl) (c66 (some ⟨rp, 0, none⟩) ((h.g : Nat) : Int) ((h.u : Nat) : Int) ((h.c : Nat) : Int) true) (by kernel_rfl) ?_
  intro w12 St
  replace kgh := St.has (by omega) kgh
  replace HR := HR.stq St (by omega) (fun ad ha => by have := hlro ad ha; first | omega | exact hrn ad ha)
  replace GG := GG.st St (.inr (by simp))
  replace kmp := St.new
  clear St
  refine qL (qE (qG (mv (iK 8) rfl (mv (iK 8) rfl (nq ?_)))))
  refine qL (qR (jm ?_))
  refine bodyPost_ret (results_tmp results31 _ _ _) rfl ?_
  rw [hjn] at hpj
  have hA := apF hpj (Nat.le_refl _) h0
  unfold RApP apL apH
  rw [hA.1, hA.2.1, hA.2.2, cond_false, ZG, ← hLk]
  subst h0
  exact ⟨_, rfl, GG, (by omega), (by omega), HR, ⟨kmp⟩⟩
  rw [h24] at hncq
  have HX := JR _ rp B ro rc n _ _ _ HR (some ⟨gh, 0, none⟩) 24 (hdL ⟨h.g + 1, h.u + secN l.length, h.c + 1⟩) ⟨hncq, fun ad ha _ => by cases ha; simp only [List.mem_cons, mem_blk, not_or]; exact ⟨by omega, fun ⟨a, h3, h4⟩ => by have := hlro a h3; omega⟩⟩ ((h.g + 1) % 2) (by omega) (by omega) (hpj.may h0) (hpj.lt hP) (by omega) (by omega)
  rw [h24] at HX
  refine jq 143 rfl rfl _ 58 call58 rfl rfl _ rfl [vP rp 0, iK (((h.g + 1) % 2 : Nat) : Int), .slice (some ⟨gh, 0, none⟩) 24 24] rfl (HX) (fun _ _ ⟨he, _⟩ => ⟨_, he⟩) ?_
  rintro v w10 ⟨he, G, HR2⟩
  cases he
  replace kmp := G.has kmp hmpS
  replace GG := GG.trans (G.mono hsub)
  clear G HR HX hncq kgh
  have HR := HR2
  clear HR2
  refine nq ?_
  refine mv (iK 0) rfl (nq ?_)
  refine qL (qE (qG (mv (iK 0) rfl (sv (vF) (jj 31 .i64 _ _ _ rfl underlying31 _ _ rfl rfl false rfl _) rfl (nq ?_)))))
  refine qL (qF rfl (qK (qE (qG (mv (vP mp 0) rfl (sv (vP mp 0) (jl _ rfl _ rfl) rfl (sv (vP mp 1) (je 66 _ 1 rfl _ _ rfl _ (by kernel_rfl)) rfl (sv (.int .u64 ((h.g : Nat) : Int)) (jo 64 _ rfl mp 1 rfl 66 _ kmp (na64 _) _ rfl) rfl (sv (.int .u64 ((h.g + 1 : Nat) : Int)) (yh 64 64 _ _ rfl h.g 1 rfl rfl (by omega) _) rfl (sv (vP mp 0) (jl _ rfl _ rfl) rfl ?_))))))))))
  refine nq ?_
  refine sv (vP mp 1) (je 66 _ 1 rfl _ _ rfl _ (by kernel_rfl)) rfl (nq ?_)
  refine jE rfl rfl 64 _ _ rfl mp 1 rfl (.int .u64 ((h.g + 1 : Nat) : Int)) rfl 66 _ kmp #[.int .u64 ((h.g + 1 : Nat) : Int)] rfl (by kernel_rfl) (Nat.le_of_ble_eq_true rfl) (by kernel_rfl) (c66 (some ⟨rp, 0, none⟩) ((h.g + 1 : Nat) : Int) ((h.u : Nat) : Int) ((h.c : Nat) : Int) false) (by kernel_rfl) ?_
  intro w12 St
  replace HR := HR.stq St (by omega) (fun ad ha => by have := hlro ad ha; first | omega | exact hrn ad ha)
  replace GG := GG.st St (.inr (by simp))
  replace kmp := St.new
  clear St
  refine qL (qE (qG (mv (vP mp 0) rfl (sv (vP mp 0) (jl _ rfl _ rfl) rfl (sv (vP mp 2) (je 66 _ 2 rfl _ _ rfl _ (by kernel_rfl)) rfl (sv (nK h.u) (jo 3 _ rfl mp 2 rfl 66 _ kmp (na3 _) _ rfl) rfl (mv (nK (secN l.length)) rfl (sv (nK (h.u + secN l.length)) (jp _ _ _ rfl ((h.u : Nat) : Int) ((secN l.length : Nat) : Int) _ rfl rfl (by omega) (by omega) (by omega) _) rfl ?_))))))))
  refine nq ?_
  refine sv (vP mp 0) (jl _ rfl _ rfl) rfl (sv (vP mp 2) (je 66 _ 2 rfl _ _ rfl _ (by kernel_rfl)) rfl (nq ?_))
  refine jE rfl rfl 3 _ _ rfl mp 2 rfl (nK (h.u + secN l.length)) rfl 66 _ kmp #[nK (h.u + secN l.length)] rfl (by kernel_rfl) (Nat.le_of_ble_eq_true rfl) (by kernel_rfl) (c66 (some ⟨rp, 0, none⟩) ((h.g + 1 : Nat) : Int) ((h.u + secN l.length : Nat) : Int) ((h.c : Nat) : Int) false) (by kernel_rfl) ?_
  intro w14 St
  replace HR := HR.stq St (by omega) (fun ad ha => by have := hlro ad ha; first | omega | exact hrn ad ha)
  replace GG := GG.st St (.inr (by simp))
  replace kmp := St.new
  clear St
  refine qL (qE (qG (mv (vP mp 0) rfl (sv (vP mp 0) (jl _ rfl _ rfl) rfl (sv (vP mp 3) (je 66 _ 3 rfl _ _ rfl _ (by kernel_rfl)) rfl (sv (nK h.c) (jo 3 _ rfl mp 3 rfl 66 _ kmp (na3 _) _ rfl) rfl (sv (nK (h.c + 1)) (jp _ _ _ rfl ((h.c : Nat) : Int) 1 _ rfl rfl (by omega) (by omega) (by omega) _) rfl (sv (vP mp 0) (jl _ rfl _ rfl) rfl ?_))))))))
  refine nq ?_
  refine sv (vP mp 3) (je 66 _ 3 rfl _ _ rfl _ (by kernel_rfl)) rfl (nq ?_)
  refine jE rfl rfl 3 _ _ rfl mp 3 rfl (nK (h.c + 1)) rfl 66 _ kmp #[nK (h.c + 1)] rfl (by kernel_rfl) (Nat.le_of_ble_eq_true rfl) (by kernel_rfl) (c66 (some ⟨rp, 0, none⟩) ((h.g + 1 : Nat) : Int) ((h.u + secN l.length : Nat) : Int) ((h.c + 1 : Nat) : Int) false) (by kernel_rfl) ?_
  intro w16 St
  replace HR := HR.stq St (by omega) (fun ad ha => by have := hlro ad ha; first | omega | exact hrn ad ha)
  replace GG := GG.st St (.inr (by simp))
  replace kmp := St.new
  clear St
  refine qL (qE (qG (mv (iK 0) rfl (nq ?_))))
  refine qL (qR ?_)
  refine bodyPost_ret (results_tmp results31 _ _ _) rfl ?_
  rw [hjn] at hpj
  have hA := apS hpj h0
  unfold RApP apL apH
  rw [hA.1, hA.2]
  rw [hLk] at HR
  exact ⟨_, rfl, GG, (by omega), (by omega), HR, ⟨kmp⟩⟩
  have htn : t2 < 8 := by have := of_decide_eq_true hp4; omega
  refine qL (qT rfl (qK (qE (qB (qG (mv (.slice (some ⟨gh, 0, none⟩) 24 24) rfl (mv (nK t2) rfl (sv (nK (16 + 7 - t2)) (jP _ _ _ rfl 23 ((t2 : Nat) : Int) _ rfl rfl (by omega) (by omega) (by omega) _) rfl (mv (nK v2) rfl (sv (iK ((v2 % 256 : Nat) : Int)) (ut _ _ _ rfl ((v2 : Nat) : Int) 256 _ rfl rfl (by decide) (tmodN _ 256) (by omega) (by omega) _) rfl (sv (.int .u8 ((v2 % 256 : Nat) : Int)) (conv35 _ rfl (v2 % 256) (Nat.mod_lt _ (by decide)) rfl _) rfl ?_)))))))))))
  refine nq ?_
  refine sv (.pointer (some ⟨gh, 16 + 7 - t2, none⟩)) (bat _ _ rfl gh 24 24 (16 + 7 - t2) rfl rfl (by omega) _) rfl (nq ?_)
  refine jE rfl rfl 5 _ _ rfl gh (16 + 7 - t2) rfl (.int .u8 (((v2 % 256) : Nat) : Int)) rfl 5 _ kgh #[.int .u8 (((v2 % 256) : Nat) : Int)] rfl si5 (by simp only [List.size_toArray, List.length_cons, List.length_nil, zE]; rw [vD (by simp only [wl2]; decide) ht]; simp only [wl2]; omega) (one1 _) _ (Yj (layB (wr (wr (zs 24) 0 (beL 8 (h.g + 1))) 8 (beL 8 (h.u + secN l.length))) 16 (h.c + 1) t2) (16 + 7 - t2) (v2 % 256) (by rw [vD (by simp only [wl2]; decide) ht]; simp only [wl2]; omega)) ?_
  intro w9 St
  replace kmp := St.has (by omega) kmp
  replace HR := HR.stq St (by omega) (fun ad ha => by have := hlro ad ha; first | omega | exact hrn ad ha)
  replace GG := GG.st St (.inl bgh)
  replace kgh := St.new
  clear St
  rw [show v2 % 256 = (h.c + 1) / 256 ^ t2 % 256 by rw [hv], JT (by simp only [wl2]; decide) htn] at kgh
  refine qN (zb (jC (qG (mv (nK t2) rfl (sv (nK (t2 + 1)) (jp _ _ _ rfl ((t2 : Nat) : Int) 1 _ rfl rfl (by omega) (by omega) (by omega) _) rfl (mv (nK v2) rfl (sv (iK ((v2 / 256 : Nat) : Int)) (zn _ _ _ rfl ((v2 : Nat) : Int) 256 _ rfl rfl (by decide) (tdivN _ 256) (by omega) (by omega) _) rfl (mv (nK (t2 + 1)) rfl (mv (iK ((v2 / 256 : Nat) : Int)) rfl ?_)))))))))
  refine nq ?_
  refine qL ?_
  exact ⟨_, (by omega : 8 - (t2 + 1) < 8 - t2), t2 + 1, v2 / 256, usK ⟨htn, (by rw [hv]; exact Vs _ _), GG, kmp, HR, kgh⟩⟩
  have htn : t1 < 8 := by have := of_decide_eq_true hp3; omega
  refine qL (qT rfl (qK (qE (qB (qG (mv (.slice (some ⟨gh, 0, none⟩) 24 24) rfl (mv (nK t1) rfl (sv (nK (8 + 7 - t1)) (jP _ _ _ rfl 15 ((t1 : Nat) : Int) _ rfl rfl (by omega) (by omega) (by omega) _) rfl (mv (nK v1) rfl (sv (iK ((v1 % 256 : Nat) : Int)) (ut _ _ _ rfl ((v1 : Nat) : Int) 256 _ rfl rfl (by decide) (tmodN _ 256) (by omega) (by omega) _) rfl (sv (.int .u8 ((v1 % 256 : Nat) : Int)) (conv35 _ rfl (v1 % 256) (Nat.mod_lt _ (by decide)) rfl _) rfl ?_)))))))))))
  refine nq ?_
  refine sv (.pointer (some ⟨gh, 8 + 7 - t1, none⟩)) (bat _ _ rfl gh 24 24 (8 + 7 - t1) rfl rfl (by omega) _) rfl (nq ?_)
  refine jE rfl rfl 5 _ _ rfl gh (8 + 7 - t1) rfl (.int .u8 (((v1 % 256) : Nat) : Int)) rfl 5 _ kgh #[.int .u8 (((v1 % 256) : Nat) : Int)] rfl si5 (by simp only [List.size_toArray, List.length_cons, List.length_nil, zE]; rw [vD (by simp only [wl1]; decide) ht]; simp only [wl1]; omega) (one1 _) _ (Yj (layB (wr (zs 24) 0 (beL 8 (h.g + 1))) 8 (h.u + secN l.length) t1) (8 + 7 - t1) (v1 % 256) (by rw [vD (by simp only [wl1]; decide) ht]; simp only [wl1]; omega)) ?_
  intro w8 St
  replace kmp := St.has (by omega) kmp
  replace HR := HR.stq St (by omega) (fun ad ha => by have := hlro ad ha; first | omega | exact hrn ad ha)
  replace GG := GG.st St (.inl bgh)
  replace kgh := St.new
  clear St
  rw [show v1 % 256 = (h.u + secN l.length) / 256 ^ t1 % 256 by rw [hv], JT (by simp only [wl1]; decide) htn] at kgh
  refine qN (zb (jC (qG (mv (nK t1) rfl (sv (nK (t1 + 1)) (jp _ _ _ rfl ((t1 : Nat) : Int) 1 _ rfl rfl (by omega) (by omega) (by omega) _) rfl (mv (nK v1) rfl (sv (iK ((v1 / 256 : Nat) : Int)) (zn _ _ _ rfl ((v1 : Nat) : Int) 256 _ rfl rfl (by decide) (tdivN _ 256) (by omega) (by omega) _) rfl (mv (nK (t1 + 1)) rfl (mv (iK ((v1 / 256 : Nat) : Int)) rfl ?_)))))))))
  refine nq ?_
  refine qL ?_
  exact ⟨_, (by omega : 8 - (t1 + 1) < 8 - t1), t1 + 1, v1 / 256, usK ⟨htn, (by rw [hv]; exact Vs _ _), GG, kmp, HR, kgh⟩⟩
  have htn : t0 < 8 := by have := of_decide_eq_true hp2; omega
  refine qL (qT rfl (qK (qE (qB (qG (mv (.slice (some ⟨gh, 0, none⟩) 24 24) rfl (mv (nK t0) rfl (sv (nK (0 + 7 - t0)) (jP _ _ _ rfl 7 ((t0 : Nat) : Int) _ rfl rfl (by omega) (by omega) (by omega) _) rfl (mv (.int .u64 ((v0 : Nat) : Int)) rfl (sv (.int .u64 ((v0 % 256 : Nat) : Int)) (yU 64 64 _ _ rfl v0 256 rfl rfl (by decide) _) rfl (sv (.int .u8 ((v0 % 256 : Nat) : Int)) (conv255 _ rfl (v0 % 256) (v0 % 256) (Nat.mod_mod _ _) rfl _) rfl ?_)))))))))))
  refine nq ?_
  refine sv (.pointer (some ⟨gh, 0 + 7 - t0, none⟩)) (bat _ _ rfl gh 24 24 (0 + 7 - t0) rfl rfl (by omega) _) rfl (nq ?_)
  refine jE rfl rfl 5 _ _ rfl gh (0 + 7 - t0) rfl (.int .u8 (((v0 % 256) : Nat) : Int)) rfl 5 _ kgh #[.int .u8 (((v0 % 256) : Nat) : Int)] rfl si5 (by simp only [List.size_toArray, List.length_cons, List.length_nil, zE]; rw [vD (by simp only [zo]; decide) ht]; simp only [zo]; omega) (one1 _) _ (Yj (layB (zs 24) 0 (h.g + 1) t0) (0 + 7 - t0) (v0 % 256) (by rw [vD (by simp only [zo]; decide) ht]; simp only [zo]; omega)) ?_
  intro w7 St
  replace kmp := St.has (by omega) kmp
  replace HR := HR.stq St (by omega) (fun ad ha => by have := hlro ad ha; first | omega | exact hrn ad ha)
  replace GG := GG.st St (.inl bgh)
  replace kgh := St.new
  clear St
  rw [show v0 % 256 = (h.g + 1) / 256 ^ t0 % 256 by rw [hv], JT (by simp only [zo]; decide) htn] at kgh
  refine qN (zb (jC (qG (mv (nK t0) rfl (sv (nK (t0 + 1)) (jp _ _ _ rfl ((t0 : Nat) : Int) 1 _ rfl rfl (by omega) (by omega) (by omega) _) rfl (mv (.int .u64 ((v0 : Nat) : Int)) rfl (sv (.int .u64 ((v0 / 256 : Nat) : Int)) (KL 64 64 _ _ rfl v0 256 rfl rfl (by decide) (by omega) _) rfl (mv (nK (t0 + 1)) rfl (mv (.int .u64 ((v0 / 256 : Nat) : Int)) rfl ?_)))))))))
  refine nq ?_
  refine qL ?_
  exact ⟨_, (by omega : 8 - (t0 + 1) < 8 - t0), t0 + 1, v0 / 256, usK ⟨htn, (by rw [hv]; exact Vs _ _), GG, kmp, HR, kgh⟩⟩
  have hjn : j < secN l.length := by have := of_decide_eq_true hp1; omega
  refine qL (qT rfl (qK (qE (qB (qE (qG (mv (.slice ao4 ((rawW l).length) cap4) rfl (mv (nK j) rfl (sv (nK (j * 64)) (zd _ _ _ rfl 64 ((j : Nat) : Int) _ rfl rfl (by omega) (by omega) (by omega) _) rfl (sv (.slice (cutA ao4 cap4 (j * 64)) ((rawW l).length - j * 64) (cap4 - j * 64)) (Jm _ _ rfl ao4 (rawW l).length cap4 (j * 64) rfl rfl (by rw [yl]; omega) _) rfl (mv (.slice (cutA ao4 cap4 (j * 64)) ((rawW l).length - j * 64) (cap4 - j * 64)) rfl (nq ?_))))))))))))
  refine qL (qE (qE (qG (mv (.slice (cutA ao4 cap4 (j * 64)) ((rawW l).length - j * 64) (cap4 - j * 64)) rfl (sv (iK (((rawW l).length - j * 64 : Nat) : Int)) (js underlying27 _ rfl _ _ _ rfl _) rfl (nq ?_))))))
  obtain ⟨p2, hp2⟩ : ∃ p, decide (64 < (((rawW l).length - j * 64 : Nat) : Int)) = p := ⟨_, rfl⟩
  refine sv (.bool p2) (jy 3 _ _ _ rfl (((rawW l).length - j * 64 : Nat) : Int) 64 rfl rfl p2 hp2 _) rfl (nq ?_)
  cases p2
  have hlong : (rawW l).length - j * 64 ≤ 64 := by have := of_decide_eq_false hp2; omega
  refine qL (qF rfl (qK (qE ?_)))
  refine exQ 12 [(0, 56), (1, 57), (2, 58), (3, 59), (4, 60), (5, 61), (6, 62), (7, 63), (8, 64), (9, 65), (10, 66), (11, 67)] [.val (vP mp 0), .val (vP mp 0), .val (vP mp 0), .val (vP rp 0), .val (vP mp 0), .val (vP mp 0), .val (vP mp 2), .val (nK h.u), .val (nK (2 + h.u)), .val (nK j), .val (nK (2 + h.u + j)), .val (.slice (cutA ao4 cap4 (j * 64)) ((rawW l).length - j * 64) (cap4 - j * 64))] follows (by kernel_rfl) rfl (ja ?_ (ja ?_ (ja ?_ (ja ?_ (ja ?_ (ja ?_ (ja ?_ (ja ?_ (ja ?_ (ja ?_ (ja ?_ (ja ?_ jD)))))))))))) ?_
  exact fun _ _ _ _ => jf _ rfl rfl rfl
  exact fun _ _ hw _ => jb rfl (jl _ rfl _ rfl)
  exact fun _ _ hw _ => jb rfl (je 66 _ 0 rfl _ _ rfl _ (by kernel_rfl))
  exact fun _ _ hw _ => jb rfl (jo 24 _ rfl mp 0 rfl 66 _ (hw.has kmp) (na24 _) _ rfl)
  exact fun _ _ _ _ => jf _ rfl rfl rfl
  exact fun _ _ hw _ => jb rfl (jl _ rfl _ rfl)
  exact fun _ _ hw _ => jb rfl (je 66 _ 2 rfl _ _ rfl _ (by kernel_rfl))
  exact fun _ _ hw _ => jb rfl (jo 3 _ rfl mp 2 rfl 66 _ (hw.has kmp) (na3 _) _ rfl)
  exact fun _ _ hw _ => jb rfl (jp _ _ _ rfl 2 ((h.u : Nat) : Int) _ rfl rfl (by omega) (by omega) (by omega) _)
  exact fun _ _ _ _ => jf _ rfl rfl rfl
  exact fun _ _ hw _ => jb rfl (jp _ _ _ rfl ((2 + h.u : Nat) : Int) ((j : Nat) : Int) _ rfl rfl (by omega) (by omega) (by omega) _)
  exact fun _ _ _ _ => jf _ rfl rfl rfl
  intro ptrs w5 GD hxE
  simp only [List.drop_succ_cons, List.drop_zero]
  replace kmp := GD.has kmp
  replace HR := HR.gro ((Gro.refl _).drew.trans GD)
  replace HO := HO.gro ((Gro.refl _).drew.trans GD)
  replace GG := GG.drew.tg GD
  clear GD
  have hchl : (((rawW l).drop (j * 64)).take 64).length = (rawW l).length - j * 64 := by rw [List.length_take, List.length_drop, yl]; rw [yl] at hlong; omega
  have hnc := HO.nc.cutE (j * 64) (by rw [yl]; omega)
  rw [← List.take_of_length_le (show ((rawW l).drop (j * 64)).length ≤ 64 by rw [List.length_drop]; omega)] at hnc
  by_cases h0 : pj = 0
  have HX := uh _ rp B ro rc n _ _ _ HR h0 (cutA ao4 cap4 (j * 64)) (cap4 - j * 64) (((rawW l).drop (j * 64)).take 64) (2 + h.u + j) (by omega) (uO l j)
  rw [hchl] at HX
  refine jr 68 rfl rfl _ 58 call58 rfl rfl _ rfl [vP rp 0, nK (2 + h.u + j), .slice (cutA ao4 cap4 (j * 64)) ((rawW l).length - j * 64) (cap4 - j * 64)] rfl (HX) ?_
  intro w6 G
  replace kmp := G.has kmp
  replace HR := HR.gro G
  replace HO := HO.gro G
  replace GG := GG.tg G
  clear G
  refine nq ?_
  clear HX
  refine mv (iK 8) rfl (nq ?_)
  refine qL (qE (qG (mv (iK 8) rfl (sv (vT) (jj 31 .i64 _ _ _ rfl underlying31 _ _ rfl rfl true rfl _) rfl (nq ?_)))))
  refine qL (qT rfl (qE (qG (mv (vP mp 0) rfl (sv (vP mp 0) (jl _ rfl _ rfl) rfl (sv (vP mp 4) (je 66 _ 4 rfl _ _ rfl _ (by kernel_rfl)) rfl (nq ?_)))))))
  refine jE rfl rfl 4 _ _ rfl mp 4 rfl (vT) rfl 66 _ kmp #[vT] rfl (by kernel_rfl) (Nat.le_of_ble_eq_true rfl) (by kernel_rfl) (c66 (some ⟨rp, 0, none⟩) ((h.g : Nat) : Int) ((h.u : Nat) : Int) ((h.c : Nat) : Int) true) (by kernel_rfl) ?_
  intro w8 St
  replace HR := HR.stq St (by omega) (fun ad ha => by have := hlro ad ha; first | omega | exact hrn ad ha)
  replace HO := HO.apart St (fun ad ha => by have := (HO.ge ad ha).1; omega)
  replace GG := GG.st St (.inr (by simp))
  replace kmp := St.new
  clear St
  refine qL (qE (qG (mv (iK 8) rfl (mv (iK 8) rfl (nq ?_)))))
  refine qL (qR (ze (jm (jm (ze (jm ?_))))))
  refine bodyPost_ret (results_tmp results31 _ _ _) rfl ?_
  have hA := apF hpj hj h0
  unfold RApP apL apH
  rw [hA.1, hA.2.1, hA.2.2]
  subst h0
  exact ⟨_, rfl, GG, (by omega), (by omega), HR, ⟨kmp⟩⟩
  have HX := JR _ rp B ro rc n _ _ _ HR (cutA ao4 cap4 (j * 64)) (cap4 - j * 64) (((rawW l).drop (j * 64)).take 64) ⟨hnc, fun ad ha _ => by have h1 := (HO.ge _ (JH ha).choose_spec.1).1; have h2 := (JH ha).choose_spec.2; simp only [List.mem_cons, mem_blk, not_or]; exact ⟨by omega, fun ⟨a, h3, h4⟩ => by have := hlro a h3; omega⟩⟩ (2 + h.u + j) (by omega) (uO l j) (hpj.may h0) (hpj.lt hP) (by omega) (by omega)
  rw [hchl] at HX
  refine jq 68 rfl rfl _ 58 call58 rfl rfl _ rfl [vP rp 0, nK (2 + h.u + j), .slice (cutA ao4 cap4 (j * 64)) ((rawW l).length - j * 64) (cap4 - j * 64)] rfl (HX) (fun _ _ ⟨he, _⟩ => ⟨_, he⟩) ?_
  rintro v w6 ⟨he, G, HR2⟩
  cases he
  rw [YF hjn, YM (by rw [zF, hLn]; omega) (by rw [zF]; omega), show dn + (j : Int) + 1 = dn + ((j + 1 : Nat) : Int) by omega] at HR2
  replace kmp := G.has kmp hmpS
  replace HO := HO.gros G (fun ad ha => by have := (HO.ge ad ha).1; simp only [List.mem_cons, mem_blk, not_or]; exact ⟨by omega, fun ⟨a, h3, h4⟩ => by have := hlro a h3; omega⟩)
  replace GG := GG.trans (G.mono hsub)
  clear G HR HX hnc
  have HR := HR2
  clear HR2
  refine nq ?_
  refine mv (iK 0) rfl (nq ?_)
  refine qL (qE (qG (mv (iK 0) rfl (sv (vF) (jj 31 .i64 _ _ _ rfl underlying31 _ _ rfl rfl false rfl _) rfl (nq ?_)))))
  refine qL (qF rfl (wp_skip (zb (jC (qG (mv (nK j) rfl (sv (nK (j + 1)) (jp _ _ _ rfl ((j : Nat) : Int) 1 _ rfl rfl (by omega) (by omega) (by omega) _) rfl (mv (nK (j + 1)) rfl (nq ?_)))))))))
  refine qL ?_
  exact ⟨_, (by omega : secN l.length - (j + 1) < secN l.length - j), j + 1, _, usK ⟨hjn, hpj.next h0, GG, kmp, HR, HO⟩⟩
  have hlong : 64 < (rawW l).length - j * 64 := by have := of_decide_eq_true hp2; omega
  refine qL (qT rfl (qG (mv (.slice (cutA ao4 cap4 (j * 64)) ((rawW l).length - j * 64) (cap4 - j * 64)) rfl (sv (.slice (cutA ao4 cap4 (j * 64)) 64 (cap4 - j * 64)) (jck bT _ _ rfl (cutA ao4 cap4 (j * 64)) ((rawW l).length - j * 64) (cap4 - j * 64) 64 rfl rfl (by have := HO.nc.fit; omega) _) rfl (mv (.slice (cutA ao4 cap4 (j * 64)) 64 (cap4 - j * 64)) rfl (nq ?_))))))
  refine qL (qE ?_)
  refine exQ 12 [(0, 56), (1, 57), (2, 58), (3, 59), (4, 60), (5, 61), (6, 62), (7, 63), (8, 64), (9, 65), (10, 66), (11, 67)] [.val (vP mp 0), .val (vP mp 0), .val (vP mp 0), .val (vP rp 0), .val (vP mp 0), .val (vP mp 0), .val (vP mp 2), .val (nK h.u), .val (nK (2 + h.u)), .val (nK j), .val (nK (2 + h.u + j)), .val (.slice (cutA ao4 cap4 (j * 64)) 64 (cap4 - j * 64))] follows (by kernel_rfl) rfl (ja ?_ (ja ?_ (ja ?_ (ja ?_ (ja ?_ (ja ?_ (ja ?_ (ja ?_ (ja ?_ (ja ?_ (ja ?_ (ja ?_ jD)))))))))))) ?_
  exact fun _ _ _ _ => jf _ rfl rfl rfl
  exact fun _ _ hw _ => jb rfl (jl _ rfl _ rfl)
  exact fun _ _ hw _ => jb rfl (je 66 _ 0 rfl _ _ rfl _ (by kernel_rfl))
  exact fun _ _ hw _ => jb rfl (jo 24 _ rfl mp 0 rfl 66 _ (hw.has kmp) (na24 _) _ rfl)
  exact fun _ _ _ _ => jf _ rfl rfl rfl
  exact fun _ _ hw _ => jb rfl (jl _ rfl _ rfl)
  exact fun _ _ hw _ => jb rfl (je 66 _ 2 rfl _ _ rfl _ (by kernel_rfl))
  exact fun _ _ hw _ => jb rfl (jo 3 _ rfl mp 2 rfl 66 _ (hw.has kmp) (na3 _) _ rfl)
  exact fun _ _ hw _ => jb rfl (jp _ _ _ rfl 2 ((h.u : Nat) : Int) _ rfl rfl (by omega) (by omega) (by omega) _)
  exact fun _ _ _ _ => jf _ rfl rfl rfl
  exact fun _ _ hw _ => jb rfl (jp _ _ _ rfl ((2 + h.u : Nat) : Int) ((j : Nat) : Int) _ rfl rfl (by omega) (by omega) (by omega) _)
  exact fun _ _ _ _ => jf _ rfl rfl rfl
  intro ptrs w5 GD hxE
  simp only [List.drop_succ_cons, List.drop_zero]
  replace kmp := GD.has kmp
  replace HR := HR.gro ((Gro.refl _).drew.trans GD)
  replace HO := HO.gro ((Gro.refl _).drew.trans GD)
  replace GG := GG.drew.tg GD
  clear GD
  have hchl : (((rawW l).drop (j * 64)).take 64).length = 64 := by rw [List.length_take, List.length_drop, yl]; rw [yl] at hlong; omega
  have hnc : NC _ .u8 (cutA ao4 cap4 (j * 64)) (cap4 - j * 64) (((rawW l).drop (j * 64)).take 64) := HO.nc.cutS (j * 64) 64 (by rw [yl]; omega) (by rw [yl] at *; omega)
  by_cases h0 : pj = 0
  have HX := uh _ rp B ro rc n _ _ _ HR h0 (cutA ao4 cap4 (j * 64)) (cap4 - j * 64) (((rawW l).drop (j * 64)).take 64) (2 + h.u + j) (by omega) (uO l j)
  rw [hchl] at HX
  refine jr 68 rfl rfl _ 58 call58 rfl rfl _ rfl [vP rp 0, nK (2 + h.u + j), .slice (cutA ao4 cap4 (j * 64)) 64 (cap4 - j * 64)] rfl (HX) ?_
  intro w6 G
  replace kmp := G.has kmp
  replace HR := HR.gro G
  replace HO := HO.gro G
  replace GG := GG.tg G
  clear G
  refine nq ?_
  clear HX
  refine mv (iK 8) rfl (nq ?_)
  refine qL (qE (qG (mv (iK 8) rfl (sv (vT) (jj 31 .i64 _ _ _ rfl underlying31 _ _ rfl rfl true rfl _) rfl (nq ?_)))))
  refine qL (qT rfl (qE (qG (mv (vP mp 0) rfl (sv (vP mp 0) (jl _ rfl _ rfl) rfl (sv (vP mp 4) (je 66 _ 4 rfl _ _ rfl _ (by kernel_rfl)) rfl (nq ?_)))))))
  refine jE rfl rfl 4 _ _ rfl mp 4 rfl (vT) rfl 66 _ kmp #[vT] rfl (by kernel_rfl) (Nat.le_of_ble_eq_true rfl) (by kernel_rfl) (c66 (some ⟨rp, 0, none⟩) ((h.g : Nat) : Int) ((h.u : Nat) : Int) ((h.c : Nat) : Int) true) (by kernel_rfl) ?_
  intro w8 St
  replace HR := HR.stq St (by omega) (fun ad ha => by have := hlro ad ha; first | omega | exact hrn ad ha)
  replace HO := HO.apart St (fun ad ha => by have := (HO.ge ad ha).1; omega)
  replace GG := GG.st St (.inr (by simp))
  replace kmp := St.new
  clear St
  refine qL (qE (qG (mv (iK 8) rfl (mv (iK 8) rfl (nq ?_)))))
  refine qL (qR (ze (jm (jm (ze (jm ?_))))))
  refine bodyPost_ret (results_tmp results31 _ _ _) rfl ?_
  have hA := apF hpj hj h0
  unfold RApP apL apH
  rw [hA.1, hA.2.1, hA.2.2]
  subst h0
  exact ⟨_, rfl, GG, (by omega), (by omega), HR, ⟨kmp⟩⟩
  have HX := JR _ rp B ro rc n _ _ _ HR (cutA ao4 cap4 (j * 64)) (cap4 - j * 64) (((rawW l).drop (j * 64)).take 64) ⟨hnc, fun ad ha _ => by have h1 := (HO.ge _ (JH ha).choose_spec.1).1; have h2 := (JH ha).choose_spec.2; simp only [List.mem_cons, mem_blk, not_or]; exact ⟨by omega, fun ⟨a, h3, h4⟩ => by have := hlro a h3; omega⟩⟩ (2 + h.u + j) (by omega) (uO l j) (hpj.may h0) (hpj.lt hP) (by omega) (by omega)
  rw [hchl] at HX
  refine jq 68 rfl rfl _ 58 call58 rfl rfl _ rfl [vP rp 0, nK (2 + h.u + j), .slice (cutA ao4 cap4 (j * 64)) 64 (cap4 - j * 64)] rfl (HX) (fun _ _ ⟨he, _⟩ => ⟨_, he⟩) ?_
  rintro v w6 ⟨he, G, HR2⟩
  cases he
  rw [YF hjn, YM (by rw [zF, hLn]; omega) (by rw [zF]; omega), show dn + (j : Int) + 1 = dn + ((j + 1 : Nat) : Int) by omega] at HR2
  replace kmp := G.has kmp hmpS
  replace HO := HO.gros G (fun ad ha => by have := (HO.ge ad ha).1; simp only [List.mem_cons, mem_blk, not_or]; exact ⟨by omega, fun ⟨a, h3, h4⟩ => by have := hlro a h3; omega⟩)
  replace GG := GG.trans (G.mono hsub)
  clear G HR HX hnc
  have HR := HR2
  clear HR2
  refine nq ?_
  refine mv (iK 0) rfl (nq ?_)
  refine qL (qE (qG (mv (iK 0) rfl (sv (vF) (jj 31 .i64 _ _ _ rfl underlying31 _ _ rfl rfl false rfl _) rfl (nq ?_)))))
  refine qL (qF rfl (wp_skip (zb (jC (qG (mv (nK j) rfl (sv (nK (j + 1)) (jp _ _ _ rfl ((j : Nat) : Int) 1 _ rfl rfl (by omega) (by omega) (by omega) _) rfl (mv (nK (j + 1)) rfl (nq ?_)))))))))
  refine qL ?_
  exact ⟨_, (by omega : secN l.length - (j + 1) < secN l.length - j), j + 1, _, usK ⟨hjn, hpj.next h0, GG, kmp, HR, HO⟩⟩
end Go.Proofs.YtgfnjekpafempaaGreat
