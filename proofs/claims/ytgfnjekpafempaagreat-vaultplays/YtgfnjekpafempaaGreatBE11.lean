import Derived.Test.YtgfnjekpafempaaGreatBE8
import Derived.Test.YtgfnjekpafempaaGreatBAb
namespace Go.Proofs.YtgfnjekpafempaaGreat
open Go.Proofs.Tryz
set_option maxHeartbeats 4000000
set_option maxRecDepth 100000
open Go.RowKit
def c66 (x0 : Option Addr) (x1 : Int) (x2 : Int) (x3 : Int) (x4 : Bool) : Array Value := #[.pointer x0, .int .u64 x1, .int .i64 x2, .int .i64 x3, .bool x4]
theorem na24 (w : World) : (isAgg 24).run Tryz.prog w = .ok false w := by kernel_rfl
structure QK (w : World) (p : Nat) (B : Nat) (ao : Option Addr) (cap n : Nat) (L : List Nat) (pw dn : Int) : Prop where
  box : w.heap[p]? = some (.cells (c47 ⟨ao, n * 64, cap⟩ pw dn) 47 (0, 0))
  row : OB w 5 .u8 B ao cap L
  len : L.length = n * 64
  le : n ≤ 4096
theorem QK.gro {w w' : World} {p B : Nat} {ao : Option Addr} {cap n : Nat} {L : List Nat} {pw dn : Int} (h : QK w p B ao cap n L pw dn) (G : Gro w w') : QK w' p B ao cap n L pw dn := ⟨G.has h.box, h.row.gro G, h.len, h.le⟩
theorem QK.byte {w : World} {p B : Nat} {ao : Option Addr} {cap n : Nat} {L : List Nat} {pw dn : Int} (h : QK w p B ao cap n L pw dn) : ∀ x ∈ L, x < 256 := h.row.nc.lt256
theorem QK.ne {w : World} {p B : Nat} {ao : Option Addr} {cap n : Nat} {L : List Nat} {pw dn : Int} (h : QK w p B ao cap n L pw dn) {ad : Addr} (ha : ao = some ad) : ad.block ≠ p := by
  obtain ⟨cur, hc⟩ := h.row.blk5 ha
  exact jB hc h.box (by decide)
theorem OB.ext {w w' : World} {B : Nat} {ao : Option Addr} {cap : Nat} {l : List Nat} {g : Nat} {x : Obj} (h : OB w 5 .u8 B ao cap l) (S : Stored w w' g x) (hne : ∀ ad, ao = some ad → ad.block ≠ g) : OB w' 5 .u8 B ao cap l := h.apart S hne
theorem uh (w : World) (p B : Nat) (ro : Option Addr) (rc n : Nat) (L : List Nat) (pw dn : Int) (H : QK w p B ro rc n L pw dn) (h0 : pw = 0) (ao : Option Addr) (cap : Nat) (l : List Nat) (i : Nat) (hi : i < n) (hl : l.length ≤ 64) : Calls Tryz.prog 58 #[vP p 0, nK i, .slice ao l.length cap] w fun e w' => e = .returned (iK 8) ∧ Gro w w' := by
  refine eN func58 rfl ntmps58 [vP p 0, nK i, .slice ao l.length cap] ?_
  have GG := Gro.refl w
  have kp := H.box
  have hn4 := H.le
  have HO := H.row
  refine qE (qG (mv (iK 0) rfl (nq ?_)))
  refine qL (qE (qE ?_))
  refine jg ?_
  intro OPS hY
  have y2 := hY 2 10 rfl
  clear hY
  refine mv (nK i) rfl (sv (vF) (jv 3 _ _ _ rfl ((i : Nat) : Int) 0 rfl rfl false (by first | exact decide_eq_true (by omega) | exact decide_eq_false (by omega)) _) rfl (mv (vF) rfl (jd 11 rfl rfl y2 rfl (nK i) (rfl) (jd 12 rfl rfl y2 rfl (vP p 0) (rfl) (jd 13 rfl rfl y2 rfl (vP p 0) (jl _ rfl _ rfl) ?_)))))
  refine nq ?_
  refine jd 14 rfl rfl y2 rfl (vP p 0) (je 47 _ 0 rfl _ _ rfl _ (by kernel_rfl)) (jd 15 rfl rfl y2 rfl (.slice ro (n * 64) rc) (jo 27 _ rfl p 0 rfl 47 _ kp (na27 _) _ rfl) (jd 16 rfl rfl y2 rfl (nK (n * 64)) (js underlying27 _ rfl _ _ _ rfl _) (jd 17 rfl rfl y2 rfl (nK n) (zn _ _ _ rfl ((n * 64 : Nat) : Int) 64 _ rfl rfl (by decide) quoN (by omega) (by omega) _) (jd 18 rfl rfl y2 rfl (vF) (ZN 3 _ _ _ rfl ((i : Nat) : Int) ((n : Nat) : Int) rfl rfl false (by first | exact decide_eq_true (by omega) | exact decide_eq_false (by omega)) _) (mv (vF) rfl ?_)))))
  refine nq ?_
  refine qL (qF rfl (qK (qE (qE (qG (mv (.slice ao l.length cap) rfl (sv (nK l.length) (js underlying27 _ rfl _ _ _ rfl _) rfl (sv (vF) (jy 3 _ _ _ rfl ((l.length : Nat) : Int) 64 rfl rfl false (decide_eq_false (by omega)) _) rfl (nq ?_)))))))))
  refine qL (qF rfl (qK (qE (qE (qG (mv (vP p 0) rfl (sv (vP p 0) (jl _ rfl _ rfl) rfl (sv (vP p 1) (je 47 _ 1 rfl _ _ rfl _ (by kernel_rfl)) rfl (sv (iK pw) (jo 3 _ rfl p 1 rfl 47 _ kp (na3 _) _ rfl) rfl (sv (vT) (jw 3 .i64 _ _ _ rfl underlying3 pw 0 rfl rfl true (decide_eq_true h0) _) rfl (nq ?_)))))))))))
  refine qL (qT rfl (qE (qG (mv (iK 8) rfl (nq ?_)))))
  refine qL (qR (jm ?_))
  refine bodyPost_ret (results_tmp results58 _ _ _) rfl ?_
  exact ⟨rfl, GG⟩
theorem Qc (w : World) (p B : Nat) (ro : Option Addr) (rc n : Nat) (L : List Nat) (pw dn : Int) (H : QK w p B ro rc n L pw dn) (ao : Option Addr) (cap : Nat) (l : List Nat) (HB : BS (p :: blk ro) w ao cap l) (i : Nat) (hi : i < n) (hl : l.length ≤ 64) (h1 : pw = -1) (hd : 0 ≤ dn) (hd2 : dn < 9223372036854775807) : Calls Tryz.prog 58 #[vP p 0, nK i, .slice ao l.length cap] w fun e w' => e = .returned (iK 0) ∧ GroS (p :: blk ro) w w' ∧ QK w' p B ro rc n (wr L (i * 64) (padS l)) pw (dn + 1) := by
  refine eN func58 rfl ntmps58 [vP p 0, nK i, .slice ao l.length cap] ?_
  have GG := GroS.refl (p :: blk ro) w
  have kp := H.box
  have hn4 := H.le
  have HO := H.row
  have HN := HB
  have hlen := H.len
  refine qE (qG (mv (iK 0) rfl (nq ?_)))
  refine qL (qE (qE ?_))
  refine jg ?_
  intro OPS hY
  have y2 := hY 2 10 rfl
  clear hY
  refine mv (nK i) rfl (sv (vF) (jv 3 _ _ _ rfl ((i : Nat) : Int) 0 rfl rfl false (by first | exact decide_eq_true (by omega) | exact decide_eq_false (by omega)) _) rfl (mv (vF) rfl (jd 11 rfl rfl y2 rfl (nK i) (rfl) (jd 12 rfl rfl y2 rfl (vP p 0) (rfl) (jd 13 rfl rfl y2 rfl (vP p 0) (jl _ rfl _ rfl) ?_)))))
  refine nq ?_
  refine jd 14 rfl rfl y2 rfl (vP p 0) (je 47 _ 0 rfl _ _ rfl _ (by kernel_rfl)) (jd 15 rfl rfl y2 rfl (.slice ro (n * 64) rc) (jo 27 _ rfl p 0 rfl 47 _ kp (na27 _) _ rfl) (jd 16 rfl rfl y2 rfl (nK (n * 64)) (js underlying27 _ rfl _ _ _ rfl _) (jd 17 rfl rfl y2 rfl (nK n) (zn _ _ _ rfl ((n * 64 : Nat) : Int) 64 _ rfl rfl (by decide) quoN (by omega) (by omega) _) (jd 18 rfl rfl y2 rfl (vF) (ZN 3 _ _ _ rfl ((i : Nat) : Int) ((n : Nat) : Int) rfl rfl false (by first | exact decide_eq_true (by omega) | exact decide_eq_false (by omega)) _) (mv (vF) rfl ?_)))))
  refine nq ?_
  refine qL (qF rfl (qK (qE (qE (qG (mv (.slice ao l.length cap) rfl (sv (nK l.length) (js underlying27 _ rfl _ _ _ rfl _) rfl (sv (vF) (jy 3 _ _ _ rfl ((l.length : Nat) : Int) 64 rfl rfl false (decide_eq_false (by omega)) _) rfl (nq ?_)))))))))
  refine qL (qF rfl (qK (qE (qE (qG (mv (vP p 0) rfl (sv (vP p 0) (jl _ rfl _ rfl) rfl (sv (vP p 1) (je 47 _ 1 rfl _ _ rfl _ (by kernel_rfl)) rfl (sv (iK pw) (jo 3 _ rfl p 1 rfl 47 _ kp (na3 _) _ rfl) rfl (sv (vF) (jw 3 .i64 _ _ _ rfl underlying3 pw 0 rfl rfl false (decide_eq_false (by omega)) _) rfl (nq ?_)))))))))))
  refine qL (qF rfl (qK (qE (qE (qG (mv (iK 0) rfl (nq ?_)))))))
  refine qL (qB ?_)
  refine jO (fun mz az wv => ∃ (k : Nat) (us1 : Nat → Value), mz = 64 - k ∧ az = ⟨[vP p 0, nK i, .slice ao l.length cap, uD, uD, uD, iK 0, nK k, nK i, vF, vF, nK i, vP p 0, vP p 0, vP p 0, .slice ro (n * 64) rc, nK (n * 64), nK n, vF, vF, .slice ao l.length cap, nK l.length, vF, vP p 0, vP p 0, vP p 1, iK pw, vF, us1 28, us1 29, us1 30, us1 31, us1 32, us1 33, us1 34, us1 35, us1 36, us1 37, us1 38, us1 39, us1 40, us1 41, us1 42, us1 43, us1 44, us1 45, us1 46, us1 47, us1 48, us1 49, us1 50, us1 51, us1 52, us1 53, us1 54, us1 55, us1 56, us1 57, uD, uD, uD, uD, uD, uD, uD, uD, uD, uD, uD, uD, uD, uD, uD, uD, uD, uD, uD].toArray, []⟩ ∧ k ≤ 64 ∧ GroS (p :: blk ro) w wv ∧ wv.heap[p]? = some (.cells (c47 ⟨ro, n * 64, rc⟩ pw dn) 47 (0, 0)) ∧ OB wv 5 .u8 B ro rc (wr L (i * 64) ((padS l).take k)) ∧ BS (p :: blk ro) wv ao cap l) ?_ _ ⟨0, usK ⟨Nat.zero_le _, GG, kp, by simpa [wr] using HO, HN⟩⟩
  clear kp GG HO HN
  rintro mz az wv ⟨k, us1, rfl, rfl, hk, GG, kp, HO, HN⟩
  refine qE (qE (qG (mv (nK k) rfl (nq ?_))))
  obtain ⟨p1, hp1⟩ : ∃ p, decide (((k : Nat) : Int) < 64) = p := ⟨_, rfl⟩
  refine sv (.bool p1) (jv 3 _ _ _ rfl ((k : Nat) : Int) 64 rfl rfl p1 hp1 _) rfl (nq ?_)
  cases p1
  replace hk : k = 64 := by have := of_decide_eq_false hp1; omega
  refine qL (qF rfl (wp_exit (jG (jG (zp (jC (qE (qE (qG (mv (vP p 0) rfl (sv (vP p 0) (jl _ rfl _ rfl) rfl (sv (vP p 1) (je 47 _ 1 rfl _ _ rfl _ (by kernel_rfl)) rfl (sv (iK pw) (jo 3 _ rfl p 1 rfl 47 _ kp (na3 _) _ rfl) rfl (sv (vF) (jy 3 _ _ _ rfl pw 0 rfl rfl false (by first | exact decide_eq_true (by omega) | exact decide_eq_false (by omega)) _) rfl (nq ?_)))))))))))))))
  refine qL (qF rfl (qK (qE (qG (mv (vP p 0) rfl (sv (vP p 0) (jl _ rfl _ rfl) rfl (sv (vP p 2) (je 47 _ 2 rfl _ _ rfl _ (by kernel_rfl)) rfl (sv (iK dn) (jo 3 _ rfl p 2 rfl 47 _ kp (na3 _) _ rfl) rfl (sv (iK (dn + 1)) (jp _ _ _ rfl dn 1 _ rfl rfl rfl (by omega) (by omega) _) rfl (sv (vP p 0) (jl _ rfl _ rfl) rfl ?_))))))))))
  refine nq ?_
  refine sv (vP p 2) (je 47 _ 2 rfl _ _ rfl _ (by kernel_rfl)) rfl (nq ?_)
  refine jE rfl rfl 3 _ _ rfl p 2 rfl (iK (dn + 1)) rfl 47 _ kp #[iK (dn + 1)] rfl (by kernel_rfl) (Nat.le_of_ble_eq_true rfl) (by kernel_rfl) (c47 ⟨ro, n * 64, rc⟩ pw (dn + 1)) (by kernel_rfl) ?_
  intro w2 St
  replace HO := HO.apart St (fun ad ha => H.ne ha)
  replace HN := HN.gros ((GroS.refl (p :: blk ro) _).st St (.inr (by simp)))
  replace GG := GG.st St (.inr (by simp))
  replace kp := St.new
  clear St
  refine qL (qE (qG (mv (iK 0) rfl (nq ?_))))
  refine qL (qR ?_)
  refine bodyPost_ret (results_tmp results58 _ _ _) rfl ?_
  subst hk
  rw [List.take_of_length_le (by rw [zg hl]; exact Nat.le_refl _)] at HO
  exact ⟨rfl, GG, kp, HO, by rw [yN (by rw [zg hl]; exact yb H.len hi)]; exact H.len, H.le⟩
  replace hk : k < 64 := by have := of_decide_eq_true hp1; omega
  refine qL (qT rfl (qK (qE (qB (qE (qG (mv (vP p 0) rfl (sv (vP p 0) (jl _ rfl _ rfl) rfl (sv (vP p 0) (je 47 _ 0 rfl _ _ rfl _ (by kernel_rfl)) rfl (sv (.slice ro (n * 64) rc) (jo 27 _ rfl p 0 rfl 47 _ kp (na27 _) _ rfl) rfl (mv (nK i) rfl (sv (nK (i * 64)) (zd _ _ _ rfl 64 ((i : Nat) : Int) _ rfl rfl (by omega) (by omega) (by omega) _) rfl ?_))))))))))))
  refine nq ?_
  refine mv (nK k) rfl (sv (nK (i * 64 + k)) (jp _ _ _ rfl ((i * 64 : Nat) : Int) ((k : Nat) : Int) _ rfl rfl (by omega) (by omega) (by omega) _) rfl (nq ?_))
  have hwl : (wr L (i * 64) ((padS l).take k)).length = n * 64 := by rw [Qx H.len hi (Nat.le_of_lt hk) hl]; exact H.len
  obtain ⟨ga, curga, hga, hBga, kga, hcga, hmga, hsga, htga⟩ := HO.blk (j := i * 64 + k) (by simp only [hwl]; omega)
  refine sv (.pointer (some ⟨ga, i * 64 + k, none⟩)) (bat _ _ rfl ga (n * 64) rc (i * 64 + k) (by exact congrArg (fun a => Value.slice a (n * 64) rc) hga) rfl (by omega) _) rfl (nq ?_)
  refine jE rfl rfl 5 _ _ rfl ga (i * 64 + k) rfl (.int .u8 0) rfl 5 _ kga #[.int .u8 ((0 : Nat) : Int)] rfl si5 (by simp only [List.size_toArray, List.length_cons, List.length_nil, hwl] at *; omega) (one1 _) _ rfl ?_
  intro w1 St
  replace kp := St.has (fun e => H.ne hga e.symm) kp
  replace HN := HN.gros ((GroS.refl (p :: blk ro) _).st St (.inr (by rw [hga]; simp [blk])))
  replace HO := HO.put hga kga (by simp only [hwl]; omega) (0) (by decide) St
  replace GG := GG.st St (.inr (by rw [hga]; simp [blk]))
  clear St kga
  refine qL (qE (qG (mv (nK k) rfl (mv (.slice ao l.length cap) rfl (sv (nK l.length) (js underlying27 _ rfl _ _ _ rfl _) rfl (nq ?_))))))
  obtain ⟨p2, hp2⟩ : ∃ p, decide (((k : Nat) : Int) < ((l.length : Nat) : Int)) = p := ⟨_, rfl⟩
  refine sv (.bool p2) (jv 3 _ _ _ rfl ((k : Nat) : Int) ((l.length : Nat) : Int) rfl rfl p2 hp2 _) rfl (nq ?_)
  cases p2
  have hkl : l.length ≤ k := by have := of_decide_eq_false hp2; omega
  refine qL (qF rfl (wp_skip (zb (jC (qG (mv (nK k) rfl (sv (nK (k + 1)) (jp _ _ _ rfl ((k : Nat) : Int) 1 _ rfl rfl (by omega) (by omega) (by omega) _) rfl (mv (nK (k + 1)) rfl (nq ?_)))))))))
  refine qL ?_
  rw [Zn (Um hkl) (by rw [zg hl]; omega) (by rw [zg hl]; exact yb H.len hi)] at HO
  exact ⟨_, (by omega : 64 - (k + 1) < 64 - k), k + 1, usK ⟨hk, GG, kp, HO, HN⟩⟩
  have hkl : k < l.length := by have := of_decide_eq_true hp2; omega
  obtain ⟨ad, hao, _⟩ := HN.nc.at hkl
  obtain ⟨gb, curgz, hgb, _, _, _, _, _, _⟩ := HO.blk (j := i * 64 + k) (by simp only [List.length_set, hwl]; omega)
  refine qL (qT rfl ?_)
  refine exQ 12 [(0, 45), (1, 46), (2, 47), (3, 48), (4, 49), (5, 50), (6, 51), (7, 52), (8, 53), (9, 54), (10, 55), (11, 56)] [.val (vP p 0), .val (vP p 0), .val (vP p 0), .val (.slice ro (n * 64) rc), .val (nK i), .val (nK (i * 64)), .val (nK k), .val (nK (i * 64 + k)), .val (.slice ao l.length cap), .val (nK k), .val (.pointer (some (ad.add k))), .val (.int .u8 ((l.getD k 0 : Nat) : Int))] follows (by kernel_rfl) rfl (ja ?_ (ja ?_ (ja ?_ (ja ?_ (ja ?_ (ja ?_ (ja ?_ (ja ?_ (ja ?_ (ja ?_ (ja ?_ (ja ?_ jD)))))))))))) ?_
  exact fun _ _ _ _ => jf _ rfl rfl rfl
  exact fun _ _ hw _ => jb rfl (jl _ rfl _ rfl)
  exact fun _ _ hw _ => jb rfl (je 47 _ 0 rfl _ _ rfl _ (by kernel_rfl))
  exact fun _ _ hw _ => jb rfl (jo 27 _ rfl p 0 rfl 47 _ (hw.has kp) (na27 _) _ rfl)
  exact fun _ _ _ _ => jf _ rfl rfl rfl
  exact fun _ _ hw _ => jb rfl (zd _ _ _ rfl 64 ((i : Nat) : Int) _ rfl rfl (by omega) (by omega) (by omega) _)
  exact fun _ _ _ _ => jf _ rfl rfl rfl
  exact fun _ _ hw _ => jb rfl (jp _ _ _ rfl ((i * 64 : Nat) : Int) ((k : Nat) : Int) _ rfl rfl (by omega) (by omega) (by omega) _)
  exact fun _ _ _ _ => jf _ rfl rfl rfl
  exact fun _ _ _ _ => jf _ rfl rfl rfl
  exact fun _ _ hw _ => jb rfl (zf bT _ _ rfl ad l.length cap k (by exact congrArg (fun a => Value.slice a l.length cap) hao) rfl hkl _)
  exact fun _ _ hw _ => jb rfl (zj bT _ rfl (ad.add k) rfl _ _ ((HN.nc.gro ((Gro.refl _).drew.trans hw)).cell ad hao k hkl))
  intro ptrs w2 GD hxE
  simp only [List.drop_succ_cons, List.drop_zero]
  replace kp := GD.has kp
  replace HO := HO.gro ((Gro.refl _).drew.trans GD)
  replace HN := HN.gro ((Gro.refl _).drew.trans GD)
  replace GG := GG.drew.tg GD
  clear GD
  refine sv (.pointer (some ⟨gb, i * 64 + k, none⟩)) (bat _ _ rfl gb (n * 64) rc (i * 64 + k) (by exact congrArg (fun a => Value.slice a (n * 64) rc) hgb) rfl (by omega) _) rfl (nq ?_)
  obtain ⟨gc, curgb, hgc, hBgb, kgb, hcgb, hmgb, hsgb, htgb⟩ := HO.blk (j := i * 64 + k) (by simp only [List.length_set, hwl]; omega)
  have egc : gb = gc := by rw [hgb] at hgc; injection hgc with e; injection e with e
  subst egc
  refine jE rfl rfl 5 _ _ rfl gb (i * 64 + k) rfl (.int .u8 ((l.getD k 0 : Nat) : Int)) rfl 5 _ kgb #[.int .u8 (((l.getD k 0) : Nat) : Int)] rfl si5 (by simp only [List.size_toArray, List.length_cons, List.length_nil, List.length_set, hwl] at *; omega) (one1 _) _ rfl ?_
  intro w3 St
  replace kp := St.has (fun e => H.ne hgb e.symm) kp
  replace HN := HN.gros ((GroS.refl (p :: blk ro) _).st St (.inr (by rw [hgb]; simp [blk])))
  replace HO := HO.put hgb kgb (by simp only [List.length_set, hwl]; omega) ((l.getD k 0)) (by have := zt HB.nc.lt256 k; rw [yY]; omega) St
  replace GG := GG.st St (.inr (by rw [hgb]; simp [blk]))
  clear St kgb
  refine qN (zb (jC (qG (mv (nK k) rfl (sv (nK (k + 1)) (jp _ _ _ rfl ((k : Nat) : Int) 1 _ rfl rfl (by omega) (by omega) (by omega) _) rfl (mv (nK (k + 1)) rfl (nq ?_)))))))
  refine qL ?_
  rw [List.set_set, Zn (QW hkl) (by rw [zg hl]; omega) (by rw [zg hl]; exact yb H.len hi)] at HO
  exact ⟨_, (by omega : 64 - (k + 1) < 64 - k), k + 1, usK ⟨hk, GG, kp, HO, HN⟩⟩
theorem KX (w : World) (p B : Nat) (ro : Option Addr) (rc n : Nat) (L : List Nat) (pw dn : Int) (H : QK w p B ro rc n L pw dn) (ao : Option Addr) (cap : Nat) (l : List Nat) (HB : BS (p :: blk ro) w ao cap l) (i : Nat) (hi : i < n) (hl : l.length ≤ 64) (h1 : 0 < pw) (h2 : pw < 9223372036854775808) (hd : 0 ≤ dn) (hd2 : dn < 9223372036854775807) : Calls Tryz.prog 58 #[vP p 0, nK i, .slice ao l.length cap] w fun e w' => e = .returned (iK 0) ∧ GroS (p :: blk ro) w w' ∧ QK w' p B ro rc n (wr L (i * 64) (padS l)) (pw - 1) (dn + 1) := by
  refine eN func58 rfl ntmps58 [vP p 0, nK i, .slice ao l.length cap] ?_
  have GG := GroS.refl (p :: blk ro) w
  have kp := H.box
  have hn4 := H.le
  have HO := H.row
  have HN := HB
  have hlen := H.len
  refine qE (qG (mv (iK 0) rfl (nq ?_)))
  refine qL (qE (qE ?_))
  refine jg ?_
  intro OPS hY
  have y2 := hY 2 10 rfl
  clear hY
  refine mv (nK i) rfl (sv (vF) (jv 3 _ _ _ rfl ((i : Nat) : Int) 0 rfl rfl false (by first | exact decide_eq_true (by omega) | exact decide_eq_false (by omega)) _) rfl (mv (vF) rfl (jd 11 rfl rfl y2 rfl (nK i) (rfl) (jd 12 rfl rfl y2 rfl (vP p 0) (rfl) (jd 13 rfl rfl y2 rfl (vP p 0) (jl _ rfl _ rfl) ?_)))))
  refine nq ?_
  refine jd 14 rfl rfl y2 rfl (vP p 0) (je 47 _ 0 rfl _ _ rfl _ (by kernel_rfl)) (jd 15 rfl rfl y2 rfl (.slice ro (n * 64) rc) (jo 27 _ rfl p 0 rfl 47 _ kp (na27 _) _ rfl) (jd 16 rfl rfl y2 rfl (nK (n * 64)) (js underlying27 _ rfl _ _ _ rfl _) (jd 17 rfl rfl y2 rfl (nK n) (zn _ _ _ rfl ((n * 64 : Nat) : Int) 64 _ rfl rfl (by decide) quoN (by omega) (by omega) _) (jd 18 rfl rfl y2 rfl (vF) (ZN 3 _ _ _ rfl ((i : Nat) : Int) ((n : Nat) : Int) rfl rfl false (by first | exact decide_eq_true (by omega) | exact decide_eq_false (by omega)) _) (mv (vF) rfl ?_)))))
  refine nq ?_
  refine qL (qF rfl (qK (qE (qE (qG (mv (.slice ao l.length cap) rfl (sv (nK l.length) (js underlying27 _ rfl _ _ _ rfl _) rfl (sv (vF) (jy 3 _ _ _ rfl ((l.length : Nat) : Int) 64 rfl rfl false (decide_eq_false (by omega)) _) rfl (nq ?_)))))))))
  refine qL (qF rfl (qK (qE (qE (qG (mv (vP p 0) rfl (sv (vP p 0) (jl _ rfl _ rfl) rfl (sv (vP p 1) (je 47 _ 1 rfl _ _ rfl _ (by kernel_rfl)) rfl (sv (iK pw) (jo 3 _ rfl p 1 rfl 47 _ kp (na3 _) _ rfl) rfl (sv (vF) (jw 3 .i64 _ _ _ rfl underlying3 pw 0 rfl rfl false (decide_eq_false (by omega)) _) rfl (nq ?_)))))))))))
  refine qL (qF rfl (qK (qE (qE (qG (mv (iK 0) rfl (nq ?_)))))))
  refine qL (qB ?_)
  refine jO (fun mz az wv => ∃ (k : Nat) (us1 : Nat → Value), mz = 64 - k ∧ az = ⟨[vP p 0, nK i, .slice ao l.length cap, uD, uD, uD, iK 0, nK k, nK i, vF, vF, nK i, vP p 0, vP p 0, vP p 0, .slice ro (n * 64) rc, nK (n * 64), nK n, vF, vF, .slice ao l.length cap, nK l.length, vF, vP p 0, vP p 0, vP p 1, iK pw, vF, us1 28, us1 29, us1 30, us1 31, us1 32, us1 33, us1 34, us1 35, us1 36, us1 37, us1 38, us1 39, us1 40, us1 41, us1 42, us1 43, us1 44, us1 45, us1 46, us1 47, us1 48, us1 49, us1 50, us1 51, us1 52, us1 53, us1 54, us1 55, us1 56, us1 57, uD, uD, uD, uD, uD, uD, uD, uD, uD, uD, uD, uD, uD, uD, uD, uD, uD, uD, uD].toArray, []⟩ ∧ k ≤ 64 ∧ GroS (p :: blk ro) w wv ∧ wv.heap[p]? = some (.cells (c47 ⟨ro, n * 64, rc⟩ pw dn) 47 (0, 0)) ∧ OB wv 5 .u8 B ro rc (wr L (i * 64) ((padS l).take k)) ∧ BS (p :: blk ro) wv ao cap l) ?_ _ ⟨0, usK ⟨Nat.zero_le _, GG, kp, by simpa [wr] using HO, HN⟩⟩
  clear kp GG HO HN
  rintro mz az wv ⟨k, us1, rfl, rfl, hk, GG, kp, HO, HN⟩
  refine qE (qE (qG (mv (nK k) rfl (nq ?_))))
  obtain ⟨p1, hp1⟩ : ∃ p, decide (((k : Nat) : Int) < 64) = p := ⟨_, rfl⟩
  refine sv (.bool p1) (jv 3 _ _ _ rfl ((k : Nat) : Int) 64 rfl rfl p1 hp1 _) rfl (nq ?_)
  cases p1
  replace hk : k = 64 := by have := of_decide_eq_false hp1; omega
  refine qL (qF rfl (wp_exit (jG (jG (zp (jC (qE (qE (qG (mv (vP p 0) rfl (sv (vP p 0) (jl _ rfl _ rfl) rfl (sv (vP p 1) (je 47 _ 1 rfl _ _ rfl _ (by kernel_rfl)) rfl (sv (iK pw) (jo 3 _ rfl p 1 rfl 47 _ kp (na3 _) _ rfl) rfl (sv (vT) (jy 3 _ _ _ rfl pw 0 rfl rfl true (by first | exact decide_eq_true (by omega) | exact decide_eq_false (by omega)) _) rfl (nq ?_)))))))))))))))
  refine qL (qT rfl (qG (mv (vP p 0) rfl (sv (vP p 0) (jl _ rfl _ rfl) rfl (sv (vP p 1) (je 47 _ 1 rfl _ _ rfl _ (by kernel_rfl)) rfl (sv (iK pw) (jo 3 _ rfl p 1 rfl 47 _ kp (na3 _) _ rfl) rfl (sv (iK (pw - 1)) (jP _ _ _ rfl pw 1 _ rfl rfl rfl (by omega) (by omega) _) rfl (sv (vP p 0) (jl _ rfl _ rfl) rfl ?_))))))))
  refine nq ?_
  refine sv (vP p 1) (je 47 _ 1 rfl _ _ rfl _ (by kernel_rfl)) rfl (nq ?_)
  refine jE rfl rfl 3 _ _ rfl p 1 rfl (iK (pw - 1)) rfl 47 _ kp #[iK (pw - 1)] rfl (by kernel_rfl) (Nat.le_of_ble_eq_true rfl) (by kernel_rfl) (c47 ⟨ro, n * 64, rc⟩ (pw - 1) dn) (by kernel_rfl) ?_
  intro w2 St
  replace HO := HO.apart St (fun ad ha => H.ne ha)
  replace HN := HN.gros ((GroS.refl (p :: blk ro) _).st St (.inr (by simp)))
  replace GG := GG.st St (.inr (by simp))
  replace kp := St.new
  clear St
  refine qL (qE (qG (mv (vP p 0) rfl (sv (vP p 0) (jl _ rfl _ rfl) rfl (sv (vP p 2) (je 47 _ 2 rfl _ _ rfl _ (by kernel_rfl)) rfl (sv (iK dn) (jo 3 _ rfl p 2 rfl 47 _ kp (na3 _) _ rfl) rfl (sv (iK (dn + 1)) (jp _ _ _ rfl dn 1 _ rfl rfl rfl (by omega) (by omega) _) rfl (sv (vP p 0) (jl _ rfl _ rfl) rfl ?_))))))))
  refine nq ?_
  refine sv (vP p 2) (je 47 _ 2 rfl _ _ rfl _ (by kernel_rfl)) rfl (nq ?_)
  refine jE rfl rfl 3 _ _ rfl p 2 rfl (iK (dn + 1)) rfl 47 _ kp #[iK (dn + 1)] rfl (by kernel_rfl) (Nat.le_of_ble_eq_true rfl) (by kernel_rfl) (c47 ⟨ro, n * 64, rc⟩ (pw - 1) (dn + 1)) (by kernel_rfl) ?_
  intro w4 St
  replace HO := HO.apart St (fun ad ha => H.ne ha)
  replace HN := HN.gros ((GroS.refl (p :: blk ro) _).st St (.inr (by simp)))
  replace GG := GG.st St (.inr (by simp))
  replace kp := St.new
  clear St
  refine qL (qE (qG (mv (iK 0) rfl (nq ?_))))
  refine qL (qR ?_)
  refine bodyPost_ret (results_tmp results58 _ _ _) rfl ?_
  subst hk
  rw [List.take_of_length_le (by rw [zg hl]; exact Nat.le_refl _)] at HO
  exact ⟨rfl, GG, kp, HO, by rw [yN (by rw [zg hl]; exact yb H.len hi)]; exact H.len, H.le⟩
  replace hk : k < 64 := by have := of_decide_eq_true hp1; omega
  refine qL (qT rfl (qK (qE (qB (qE (qG (mv (vP p 0) rfl (sv (vP p 0) (jl _ rfl _ rfl) rfl (sv (vP p 0) (je 47 _ 0 rfl _ _ rfl _ (by kernel_rfl)) rfl (sv (.slice ro (n * 64) rc) (jo 27 _ rfl p 0 rfl 47 _ kp (na27 _) _ rfl) rfl (mv (nK i) rfl (sv (nK (i * 64)) (zd _ _ _ rfl 64 ((i : Nat) : Int) _ rfl rfl (by omega) (by omega) (by omega) _) rfl ?_))))))))))))
  refine nq ?_
  refine mv (nK k) rfl (sv (nK (i * 64 + k)) (jp _ _ _ rfl ((i * 64 : Nat) : Int) ((k : Nat) : Int) _ rfl rfl (by omega) (by omega) (by omega) _) rfl (nq ?_))
  have hwl : (wr L (i * 64) ((padS l).take k)).length = n * 64 := by rw [Qx H.len hi (Nat.le_of_lt hk) hl]; exact H.len
  obtain ⟨ga, curga, hga, hBga, kga, hcga, hmga, hsga, htga⟩ := HO.blk (j := i * 64 + k) (by simp only [hwl]; omega)
  refine sv (.pointer (some ⟨ga, i * 64 + k, none⟩)) (bat _ _ rfl ga (n * 64) rc (i * 64 + k) (by exact congrArg (fun a => Value.slice a (n * 64) rc) hga) rfl (by omega) _) rfl (nq ?_)
  refine jE rfl rfl 5 _ _ rfl ga (i * 64 + k) rfl (.int .u8 0) rfl 5 _ kga #[.int .u8 ((0 : Nat) : Int)] rfl si5 (by simp only [List.size_toArray, List.length_cons, List.length_nil, hwl] at *; omega) (one1 _) _ rfl ?_
  intro w1 St
  replace kp := St.has (fun e => H.ne hga e.symm) kp
  replace HN := HN.gros ((GroS.refl (p :: blk ro) _).st St (.inr (by rw [hga]; simp [blk])))
  replace HO := HO.put hga kga (by simp only [hwl]; omega) (0) (by decide) St
  replace GG := GG.st St (.inr (by rw [hga]; simp [blk]))
  clear St kga
  refine qL (qE (qG (mv (nK k) rfl (mv (.slice ao l.length cap) rfl (sv (nK l.length) (js underlying27 _ rfl _ _ _ rfl _) rfl (nq ?_))))))
  obtain ⟨p2, hp2⟩ : ∃ p, decide (((k : Nat) : Int) < ((l.length : Nat) : Int)) = p := ⟨_, rfl⟩
  refine sv (.bool p2) (jv 3 _ _ _ rfl ((k : Nat) : Int) ((l.length : Nat) : Int) rfl rfl p2 hp2 _) rfl (nq ?_)
  cases p2
  have hkl : l.length ≤ k := by have := of_decide_eq_false hp2; omega
  refine qL (qF rfl (wp_skip (zb (jC (qG (mv (nK k) rfl (sv (nK (k + 1)) (jp _ _ _ rfl ((k : Nat) : Int) 1 _ rfl rfl (by omega) (by omega) (by omega) _) rfl (mv (nK (k + 1)) rfl (nq ?_)))))))))
  refine qL ?_
  rw [Zn (Um hkl) (by rw [zg hl]; omega) (by rw [zg hl]; exact yb H.len hi)] at HO
  exact ⟨_, (by omega : 64 - (k + 1) < 64 - k), k + 1, usK ⟨hk, GG, kp, HO, HN⟩⟩
  have hkl : k < l.length := by have := of_decide_eq_true hp2; omega
  obtain ⟨ad, hao, _⟩ := HN.nc.at hkl
  obtain ⟨gb, curgz, hgb, _, _, _, _, _, _⟩ := HO.blk (j := i * 64 + k) (by simp only [List.length_set, hwl]; omega)
  refine qL (qT rfl ?_)
  refine exQ 12 [(0, 45), (1, 46), (2, 47), (3, 48), (4, 49), (5, 50), (6, 51), (7, 52), (8, 53), (9, 54), (10, 55), (11, 56)] [.val (vP p 0), .val (vP p 0), .val (vP p 0), .val (.slice ro (n * 64) rc), .val (nK i), .val (nK (i * 64)), .val (nK k), .val (nK (i * 64 + k)), .val (.slice ao l.length cap), .val (nK k), .val (.pointer (some (ad.add k))), .val (.int .u8 ((l.getD k 0 : Nat) : Int))] follows (by kernel_rfl) rfl (ja ?_ (ja ?_ (ja ?_ (ja ?_ (ja ?_ (ja ?_ (ja ?_ (ja ?_ (ja ?_ (ja ?_ (ja ?_ (ja ?_ jD)))))))))))) ?_
  exact fun _ _ _ _ => jf _ rfl rfl rfl
  exact fun _ _ hw _ => jb rfl (jl _ rfl _ rfl)
  exact fun _ _ hw _ => jb rfl (je 47 _ 0 rfl _ _ rfl _ (by kernel_rfl))
  exact fun _ _ hw _ => jb rfl (jo 27 _ rfl p 0 rfl 47 _ (hw.has kp) (na27 _) _ rfl)
  exact fun _ _ _ _ => jf _ rfl rfl rfl
  exact fun _ _ hw _ => jb rfl (zd _ _ _ rfl 64 ((i : Nat) : Int) _ rfl rfl (by omega) (by omega) (by omega) _)
  exact fun _ _ _ _ => jf _ rfl rfl rfl
  exact fun _ _ hw _ => jb rfl (jp _ _ _ rfl ((i * 64 : Nat) : Int) ((k : Nat) : Int) _ rfl rfl (by omega) (by omega) (by omega) _)
  exact fun _ _ _ _ => jf _ rfl rfl rfl
  exact fun _ _ _ _ => jf _ rfl rfl rfl
  exact fun _ _ hw _ => jb rfl (zf bT _ _ rfl ad l.length cap k (by exact congrArg (fun a => Value.slice a l.length cap) hao) rfl hkl _)
  exact fun _ _ hw _ => jb rfl (zj bT _ rfl (ad.add k) rfl _ _ ((HN.nc.gro ((Gro.refl _).drew.trans hw)).cell ad hao k hkl))
  intro ptrs w2 GD hxE
  simp only [List.drop_succ_cons, List.drop_zero]
  replace kp := GD.has kp
  replace HO := HO.gro ((Gro.refl _).drew.trans GD)
  replace HN := HN.gro ((Gro.refl _).drew.trans GD)
  replace GG := GG.drew.tg GD
  clear GD
  refine sv (.pointer (some ⟨gb, i * 64 + k, none⟩)) (bat _ _ rfl gb (n * 64) rc (i * 64 + k) (by exact congrArg (fun a => Value.slice a (n * 64) rc) hgb) rfl (by omega) _) rfl (nq ?_)
  obtain ⟨gc, curgb, hgc, hBgb, kgb, hcgb, hmgb, hsgb, htgb⟩ := HO.blk (j := i * 64 + k) (by simp only [List.length_set, hwl]; omega)
  have egc : gb = gc := by rw [hgb] at hgc; injection hgc with e; injection e with e
  subst egc
  refine jE rfl rfl 5 _ _ rfl gb (i * 64 + k) rfl (.int .u8 ((l.getD k 0 : Nat) : Int)) rfl 5 _ kgb #[.int .u8 (((l.getD k 0) : Nat) : Int)] rfl si5 (by simp only [List.size_toArray, List.length_cons, List.length_nil, List.length_set, hwl] at *; omega) (one1 _) _ rfl ?_
  intro w3 St
  replace kp := St.has (fun e => H.ne hgb e.symm) kp
  replace HN := HN.gros ((GroS.refl (p :: blk ro) _).st St (.inr (by rw [hgb]; simp [blk])))
  replace HO := HO.put hgb kgb (by simp only [List.length_set, hwl]; omega) ((l.getD k 0)) (by have := zt HB.nc.lt256 k; rw [yY]; omega) St
  replace GG := GG.st St (.inr (by rw [hgb]; simp [blk]))
  clear St kgb
  refine qN (zb (jC (qG (mv (nK k) rfl (sv (nK (k + 1)) (jp _ _ _ rfl ((k : Nat) : Int) 1 _ rfl rfl (by omega) (by omega) (by omega) _) rfl (mv (nK (k + 1)) rfl (nq ?_)))))))
  refine qL ?_
  rw [List.set_set, Zn (QW hkl) (by rw [zg hl]; omega) (by rw [zg hl]; exact yb H.len hi)] at HO
  exact ⟨_, (by omega : 64 - (k + 1) < 64 - k), k + 1, usK ⟨hk, GG, kp, HO, HN⟩⟩
theorem JR (w : World) (p B : Nat) (ro : Option Addr) (rc n : Nat) (L : List Nat) (pw dn : Int) (H : QK w p B ro rc n L pw dn) (ao : Option Addr) (cap : Nat) (l : List Nat) (HB : BS (p :: blk ro) w ao cap l) (i : Nat) (hi : i < n) (hl : l.length ≤ 64) (h1 : pw = -1 ∨ 0 < pw) (h2 : pw < 9223372036854775808) (hd : 0 ≤ dn) (hd2 : dn < 9223372036854775807) : Calls Tryz.prog 58 #[.pointer (some ⟨p, 0, none⟩), .int .i64 ((i : Nat) : Int), .slice ao l.length cap] w fun e w' => e = .returned (.int .i64 0) ∧ GroS (p :: blk ro) w w' ∧ QK w' p B ro rc n (wr L (i * 64) (padS l)) (if pw = -1 then -1 else pw - 1) (dn + 1) := by
  rcases h1 with h1 | h1
  · rw [if_pos h1]
    have := Qc w p B ro rc n L pw dn H ao cap l HB i hi hl h1 hd hd2
    rwa [h1] at this
  · rw [if_neg (by omega)]
    exact KX w p B ro rc n L pw dn H ao cap l HB i hi hl h1 h2 hd hd2
end Go.Proofs.YtgfnjekpafempaaGreat
