/- The document's disk with a row of its own; its writes. -/
import Derived.Test.YtgfnjekpafempaaGE8
import Derived.Test.YtgfnjekpafempaaGAb
namespace Go.Proofs.Ytgfnjekpafempaa
set_option maxHeartbeats 4000000
set_option maxRecDepth 100000
open Go.RowKit
def c79 (x0 : Option Addr) (x1 : Int) (x2 : Int) (x3 : Int) (x4 : Bool) : Array Value := #[.pointer x0, .int .u64 x1, .int .i64 x2, .int .i64 x3, .bool x4]
theorem na23 (w : World) : (isAgg 23).run Try.prog w = .ok false w := by kernel_rfl
structure QK (w : World) (p : Nat) (B : Nat) (ao : Option Addr) (cap n : Nat) (L : List Nat) (pw dn : Int) : Prop where
  box : w.heap[p]? = some (.cells (c36 ⟨ao, n * 64, cap⟩ pw dn) 36 (0, 0))
  row : OB w 5 .u8 B ao cap L
  len : L.length = n * 64
  le : n ≤ 4096
theorem QK.gro {w w' : World} {p B : Nat} {ao : Option Addr} {cap n : Nat} {L : List Nat} {pw dn : Int} (h : QK w p B ao cap n L pw dn) (G : Gro w w') : QK w' p B ao cap n L pw dn := ⟨G.has h.box, h.row.gro G, h.len, h.le⟩
theorem QK.byte {w : World} {p B : Nat} {ao : Option Addr} {cap n : Nat} {L : List Nat} {pw dn : Int} (h : QK w p B ao cap n L pw dn) : ∀ x ∈ L, x < 256 := h.row.nc.lt256
theorem QK.ne {w : World} {p B : Nat} {ao : Option Addr} {cap n : Nat} {L : List Nat} {pw dn : Int} (h : QK w p B ao cap n L pw dn) {ad : Addr} (ha : ao = some ad) : ad.block ≠ p := by
  obtain ⟨cur, hc⟩ := h.row.blk5 ha
  exact zj hc h.box (by decide)
theorem OB.ext {w w' : World} {B : Nat} {ao : Option Addr} {cap : Nat} {l : List Nat} {g : Nat} {x : Obj} (h : OB w 5 .u8 B ao cap l) (S : Stored w w' g x) (hne : ∀ ad, ao = some ad → ad.block ≠ g) : OB w' 5 .u8 B ao cap l := h.apart S hne
theorem vQ (w : World) (p B : Nat) (ro : Option Addr) (rc n : Nat) (L : List Nat) (pw dn : Int) (H : QK w p B ro rc n L pw dn) (h0 : pw = 0) (ao : Option Addr) (cap : Nat) (l : List Nat) (i : Nat) (hi : i < n) (hl : l.length ≤ 64) : Calls Try.prog 35 #[vP p 0, nK i, .slice ao l.length cap] w fun e w' => e = .returned (iK 8) ∧ Gro w w' := by
  refine js Try.func35 rfl Try.ntmps35 [vP p 0, nK i, .slice ao l.length cap] [vP p 0, nK i, .slice ao l.length cap, uD, uD, uD, uD, uD, uD, uD, uD, uD, uD, uD, uD, uD, uD, uD, uD, uD, uD, uD, uD, uD, uD, uD, uD, uD, uD, uD, uD, uD, uD, uD, uD, uD, uD, uD, uD, uD, uD, uD, uD, uD, uD, uD, uD, uD, uD, uD, uD, uD, uD, uD, uD, uD, uD, uD, uD, uD, uD, uD, uD, uD, uD, uD, uD, uD, uD, uD, uD, uD, uD, uD, uD, uD, uD] rfl ?_
  have GG := Gro.refl w
  have kp := H.box
  have hn4 := H.le
  have HO := H.row
  refine qS ?_
  refine ja 6 rfl rfl (iK 0) (rfl) ?_
  refine nr ?_; intro U h; simp only [z0, z1] at h; subst h
  refine qL (qE (qE ?_))
  refine jj ?_
  intro OPS hY
  have y2 := hY 2 10 rfl
  clear hY
  refine ja 8 rfl rfl (nK i) (rfl) ?_
  refine ja 9 rfl rfl (vF) (jE 3 _ _ _ rfl ((i : Nat) : Int) 0 rfl rfl false (by first | exact decide_eq_true (by omega) | exact decide_eq_false (by omega)) _) ?_
  refine ja 10 rfl rfl (vF) (rfl) ?_
  refine je 11 rfl rfl y2 rfl (nK i) (rfl) ?_
  refine je 12 rfl rfl y2 rfl (vP p 0) (rfl) ?_
  refine je 13 rfl rfl y2 rfl (vP p 0) (jn _ rfl _ rfl) ?_
  refine je 14 rfl rfl y2 rfl (vP p 0) (jf 36 _ 0 rfl _ _ rfl _ (by kernel_rfl)) ?_
  refine je 15 rfl rfl y2 rfl (.slice ro (n * 64) rc) (jq 30 _ rfl p 0 rfl 36 _ kp (na30 _) _ rfl) ?_
  refine je 16 rfl rfl y2 rfl (nK (n * 64)) (jA Try.underlying30 _ rfl _ _ _ rfl _) ?_
  refine je 17 rfl rfl y2 rfl (nK n) (zp _ _ _ rfl ((n * 64 : Nat) : Int) 64 _ rfl rfl (by decide) quoN (by omega) (by omega) _) ?_
  refine je 18 rfl rfl y2 rfl (vF) (Zh 3 _ _ _ rfl ((i : Nat) : Int) ((n : Nat) : Int) rfl rfl false (by first | exact decide_eq_true (by omega) | exact decide_eq_false (by omega)) _) ?_
  refine ja 19 rfl rfl (vF) (rfl) ?_
  refine nr ?_; intro U h; simp only [z0, z1] at h; subst h
  refine qL (qF rfl (qK (qE (qS ?_))))
  refine ja 20 rfl rfl (.slice ao l.length cap) (rfl) ?_
  refine ja 21 rfl rfl (nK l.length) (jA Try.underlying30 _ rfl _ _ _ rfl _) ?_
  refine ja 22 rfl rfl (vF) (jJ 3 _ _ _ rfl ((l.length : Nat) : Int) 64 rfl rfl false (decide_eq_false (by omega)) _) ?_
  refine nr ?_; intro U h; simp only [z0, z1] at h; subst h
  refine qL (qF rfl (qK (qE (qS ?_))))
  refine ja 23 rfl rfl (vP p 0) (rfl) ?_
  refine ja 24 rfl rfl (vP p 0) (jn _ rfl _ rfl) ?_
  refine ja 25 rfl rfl (vP p 1) (jf 36 _ 1 rfl _ _ rfl _ (by kernel_rfl)) ?_
  refine ja 26 rfl rfl (iK pw) (jq 3 _ rfl p 1 rfl 36 _ kp (na3 _) _ rfl) ?_
  refine ja 27 rfl rfl (vT) (jB 3 .i64 _ _ _ rfl Try.underlying3 pw 0 rfl rfl true (decide_eq_true h0) _) ?_
  refine nr ?_; intro U h; simp only [z0, z1] at h; subst h
  refine qL (qT rfl (qS ?_))
  refine ja 6 rfl rfl (iK 8) (rfl) ?_
  refine nr ?_; intro U h; simp only [z0, z1] at h; subst h
  refine qL (qR (jr ?_))
  refine bodyPost_ret (results_tmp Try.results35 _ _ _) rfl ?_
  exact ⟨rfl, GG⟩
theorem VL (w : World) (p B : Nat) (ro : Option Addr) (rc n : Nat) (L : List Nat) (pw dn : Int) (H : QK w p B ro rc n L pw dn) (ao : Option Addr) (cap : Nat) (l : List Nat) (HB : BS (p :: blk ro) w ao cap l) (i : Nat) (hi : i < n) (hl : l.length ≤ 64) (h1 : pw = -1) (hd : 0 ≤ dn) (hd2 : dn < 9223372036854775807) : Calls Try.prog 35 #[vP p 0, nK i, .slice ao l.length cap] w fun e w' => e = .returned (iK 0) ∧ GroS (p :: blk ro) w w' ∧ QK w' p B ro rc n (wr L (i * 64) (padS l)) pw (dn + 1) := by
  refine js Try.func35 rfl Try.ntmps35 [vP p 0, nK i, .slice ao l.length cap] [vP p 0, nK i, .slice ao l.length cap, uD, uD, uD, uD, uD, uD, uD, uD, uD, uD, uD, uD, uD, uD, uD, uD, uD, uD, uD, uD, uD, uD, uD, uD, uD, uD, uD, uD, uD, uD, uD, uD, uD, uD, uD, uD, uD, uD, uD, uD, uD, uD, uD, uD, uD, uD, uD, uD, uD, uD, uD, uD, uD, uD, uD, uD, uD, uD, uD, uD, uD, uD, uD, uD, uD, uD, uD, uD, uD, uD, uD, uD, uD, uD] rfl ?_
  have GG := GroS.refl (p :: blk ro) w
  have kp := H.box
  have hn4 := H.le
  have HO := H.row
  have HN := HB
  have hlen := H.len
  refine qS ?_
  refine ja 6 rfl rfl (iK 0) (rfl) ?_
  refine nr ?_; intro U h; simp only [z0, z1] at h; subst h
  refine qL (qE (qE ?_))
  refine jj ?_
  intro OPS hY
  have y2 := hY 2 10 rfl
  clear hY
  refine ja 8 rfl rfl (nK i) (rfl) ?_
  refine ja 9 rfl rfl (vF) (jE 3 _ _ _ rfl ((i : Nat) : Int) 0 rfl rfl false (by first | exact decide_eq_true (by omega) | exact decide_eq_false (by omega)) _) ?_
  refine ja 10 rfl rfl (vF) (rfl) ?_
  refine je 11 rfl rfl y2 rfl (nK i) (rfl) ?_
  refine je 12 rfl rfl y2 rfl (vP p 0) (rfl) ?_
  refine je 13 rfl rfl y2 rfl (vP p 0) (jn _ rfl _ rfl) ?_
  refine je 14 rfl rfl y2 rfl (vP p 0) (jf 36 _ 0 rfl _ _ rfl _ (by kernel_rfl)) ?_
  refine je 15 rfl rfl y2 rfl (.slice ro (n * 64) rc) (jq 30 _ rfl p 0 rfl 36 _ kp (na30 _) _ rfl) ?_
  refine je 16 rfl rfl y2 rfl (nK (n * 64)) (jA Try.underlying30 _ rfl _ _ _ rfl _) ?_
  refine je 17 rfl rfl y2 rfl (nK n) (zp _ _ _ rfl ((n * 64 : Nat) : Int) 64 _ rfl rfl (by decide) quoN (by omega) (by omega) _) ?_
  refine je 18 rfl rfl y2 rfl (vF) (Zh 3 _ _ _ rfl ((i : Nat) : Int) ((n : Nat) : Int) rfl rfl false (by first | exact decide_eq_true (by omega) | exact decide_eq_false (by omega)) _) ?_
  refine ja 19 rfl rfl (vF) (rfl) ?_
  refine nr ?_; intro U h; simp only [z0, z1] at h; subst h
  refine qL (qF rfl (qK (qE (qS ?_))))
  refine ja 20 rfl rfl (.slice ao l.length cap) (rfl) ?_
  refine ja 21 rfl rfl (nK l.length) (jA Try.underlying30 _ rfl _ _ _ rfl _) ?_
  refine ja 22 rfl rfl (vF) (jJ 3 _ _ _ rfl ((l.length : Nat) : Int) 64 rfl rfl false (decide_eq_false (by omega)) _) ?_
  refine nr ?_; intro U h; simp only [z0, z1] at h; subst h
  refine qL (qF rfl (qK (qE (qS ?_))))
  refine ja 23 rfl rfl (vP p 0) (rfl) ?_
  refine ja 24 rfl rfl (vP p 0) (jn _ rfl _ rfl) ?_
  refine ja 25 rfl rfl (vP p 1) (jf 36 _ 1 rfl _ _ rfl _ (by kernel_rfl)) ?_
  refine ja 26 rfl rfl (iK pw) (jq 3 _ rfl p 1 rfl 36 _ kp (na3 _) _ rfl) ?_
  refine ja 27 rfl rfl (vF) (jB 3 .i64 _ _ _ rfl Try.underlying3 pw 0 rfl rfl false (decide_eq_false (by omega)) _) ?_
  refine nr ?_; intro U h; simp only [z0, z1] at h; subst h
  refine qL (qF rfl (qK (qE (qS ?_))))
  refine ja 7 rfl rfl (iK 0) (rfl) ?_
  refine nr ?_; intro U h; simp only [z0, z1] at h; subst h
  refine qL (qB ?_)
  refine jV (fun mz az wv => ∃ (k : Nat) (us1 : Nat → Value), mz = 64 - k ∧ az = ⟨[vP p 0, nK i, .slice ao l.length cap, uD, uD, uD, iK 0, nK k, nK i, vF, vF, nK i, vP p 0, vP p 0, vP p 0, .slice ro (n * 64) rc, nK (n * 64), nK n, vF, vF, .slice ao l.length cap, nK l.length, vF, vP p 0, vP p 0, vP p 1, iK pw, vF, us1 0, us1 1, us1 2, us1 3, us1 4, us1 5, us1 6, us1 7, us1 8, us1 9, us1 10, us1 11, us1 12, us1 13, us1 14, us1 15, us1 16, us1 17, us1 18, us1 19, us1 20, us1 21, us1 22, us1 23, us1 24, us1 25, us1 26, us1 27, us1 28, us1 29, uD, uD, uD, uD, uD, uD, uD, uD, uD, uD, uD, uD, uD, uD, uD, uD, uD, uD, uD].toArray, []⟩ ∧ k ≤ 64 ∧ GroS (p :: blk ro) w wv ∧ wv.heap[p]? = some (.cells (c36 ⟨ro, n * 64, rc⟩ pw dn) 36 (0, 0)) ∧ OB wv 5 .u8 B ro rc (wr L (i * 64) ((padS l).take k)) ∧ BS (p :: blk ro) wv ao cap l) ?_ _ ⟨0, (fun kz => ([uD, uD, uD, uD, uD, uD, uD, uD, uD, uD, uD, uD, uD, uD, uD, uD, uD, uD, uD, uD, uD, uD, uD, uD, uD, uD, uD, uD, uD, uD] : List Value).getD kz uD), rfl, rfl, Nat.zero_le _, GG, kp, by simpa [wr] using HO, HN⟩
  clear kp GG HO HN
  rintro mz az wv ⟨k, us1, rfl, rfl, hk, GG, kp, HO, HN⟩
  refine qE (qS ?_)
  refine ja 28 rfl rfl (nK k) (rfl) ?_
  refine nr ?_; intro U h; simp only [z0, z1] at h; subst h
  obtain ⟨p1, hp1⟩ : ∃ p, decide (((k : Nat) : Int) < 64) = p := ⟨_, rfl⟩
  refine ja 29 rfl rfl (.bool p1) (jE 3 _ _ _ rfl ((k : Nat) : Int) 64 rfl rfl p1 hp1 _) ?_
  refine nr ?_; intro U h; simp only [z0, z1] at h; subst h
  cases p1
  replace hk : k = 64 := by have := of_decide_eq_false hp1; omega
  refine qL (qF rfl (wp_exit (jL (jL (zC (jG (qE (qS ?_))))))))
  refine ja 58 rfl rfl (vP p 0) (rfl) ?_
  refine ja 59 rfl rfl (vP p 0) (jn _ rfl _ rfl) ?_
  refine ja 60 rfl rfl (vP p 1) (jf 36 _ 1 rfl _ _ rfl _ (by kernel_rfl)) ?_
  refine ja 61 rfl rfl (iK pw) (jq 3 _ rfl p 1 rfl 36 _ kp (na3 _) _ rfl) ?_
  refine ja 62 rfl rfl (vF) (jJ 3 _ _ _ rfl pw 0 rfl rfl false (by first | exact decide_eq_true (by omega) | exact decide_eq_false (by omega)) _) ?_
  refine nr ?_; intro U h; simp only [z0, z1] at h; subst h
  refine qL (qF rfl (qK (qS ?_)))
  refine ja 70 rfl rfl (vP p 0) (rfl) ?_
  refine ja 71 rfl rfl (vP p 0) (jn _ rfl _ rfl) ?_
  refine ja 72 rfl rfl (vP p 2) (jf 36 _ 2 rfl _ _ rfl _ (by kernel_rfl)) ?_
  refine ja 73 rfl rfl (iK dn) (jq 3 _ rfl p 2 rfl 36 _ kp (na3 _) _ rfl) ?_
  refine ja 74 rfl rfl (iK (dn + 1)) (jp _ _ _ rfl dn 1 _ rfl rfl rfl (by omega) (by omega) _) ?_
  refine ja 75 rfl rfl (vP p 0) (jn _ rfl _ rfl) ?_
  refine ja 76 rfl rfl (vP p 2) (jf 36 _ 2 rfl _ _ rfl _ (by kernel_rfl)) ?_
  refine nr ?_; intro U h; simp only [z0, z1] at h; subst h
  refine jt rfl rfl 3 _ _ rfl p 2 rfl (iK (dn + 1)) rfl 36 _ kp #[iK (dn + 1)] rfl (by kernel_rfl) (Nat.le_of_ble_eq_true rfl) (by kernel_rfl) (c36 ⟨ro, n * 64, rc⟩ pw (dn + 1)) (by kernel_rfl) ?_
  intro w2 St
  replace HO := HO.apart St (fun ad ha => H.ne ha)
  replace HN := HN.gros ((GroS.refl (p :: blk ro) _).st St (.inr (by simp)))
  replace GG := GG.st St (.inr (by simp))
  replace kp := St.new
  clear St
  refine qA ?_
  refine ja 6 rfl rfl (iK 0) (rfl) ?_
  refine nr ?_; intro U h; simp only [z0, z1] at h; subst h
  refine qL (qR ?_)
  refine bodyPost_ret (results_tmp Try.results35 _ _ _) rfl ?_
  subst hk
  rw [List.take_of_length_le (by rw [ze hl]; exact Nat.le_refl _)] at HO
  exact ⟨rfl, GG, kp, HO, by rw [yG (by rw [ze hl]; exact zY H.len hi)]; exact H.len, H.le⟩
  replace hk : k < 64 := by have := of_decide_eq_true hp1; omega
  refine qL (qT rfl (qK (qE (qB (qS ?_)))))
  refine ja 32 rfl rfl (vP p 0) (rfl) ?_
  refine ja 33 rfl rfl (vP p 0) (jn _ rfl _ rfl) ?_
  refine ja 34 rfl rfl (vP p 0) (jf 36 _ 0 rfl _ _ rfl _ (by kernel_rfl)) ?_
  refine ja 35 rfl rfl (.slice ro (n * 64) rc) (jq 30 _ rfl p 0 rfl 36 _ kp (na30 _) _ rfl) ?_
  refine ja 36 rfl rfl (nK i) (rfl) ?_
  refine ja 37 rfl rfl (nK (i * 64)) (zb _ _ _ rfl 64 ((i : Nat) : Int) _ rfl rfl (by omega) (by omega) (by omega) _) ?_
  refine ja 38 rfl rfl (nK k) (rfl) ?_
  refine ja 39 rfl rfl (nK (i * 64 + k)) (jp _ _ _ rfl ((i * 64 : Nat) : Int) ((k : Nat) : Int) _ rfl rfl (by omega) (by omega) (by omega) _) ?_
  refine nr ?_; intro U h; simp only [z0, z1] at h; subst h
  have hwl : (wr L (i * 64) ((padS l).take k)).length = n * 64 := by rw [Uc H.len hi (Nat.le_of_lt hk) hl]; exact H.len
  obtain ⟨ga, curga, hga, hBga, kga, hcga, hmga, hsga, htga⟩ := HO.blk (j := i * 64 + k) (by simp only [hwl]; omega)
  refine ja 40 rfl rfl (.pointer (some ⟨ga, i * 64 + k, none⟩)) (bat _ _ rfl ga (n * 64) rc (i * 64 + k) (by exact congrArg (fun a => Value.slice a (n * 64) rc) hga) rfl (by omega) _) ?_
  refine nr ?_; intro U h; simp only [z0, z1] at h; subst h
  refine jt rfl rfl 5 _ _ rfl ga (i * 64 + k) rfl (.int .u8 0) rfl 5 _ kga #[.int .u8 ((0 : Nat) : Int)] rfl si5 (by simp only [List.size_toArray, List.length_cons, List.length_nil, hwl] at *; omega) (one1 _) _ rfl ?_
  intro w1 St
  replace kp := St.has (fun e => H.ne hga e.symm) kp
  replace HN := HN.gros ((GroS.refl (p :: blk ro) _).st St (.inr (by rw [hga]; simp [blk])))
  replace HO := HO.put hga kga (by simp only [hwl]; omega) (0) (by decide) St
  replace GG := GG.st St (.inr (by rw [hga]; simp [blk]))
  clear St kga
  refine qA ?_
  refine ja 41 rfl rfl (nK k) (rfl) ?_
  refine ja 42 rfl rfl (.slice ao l.length cap) (rfl) ?_
  refine ja 43 rfl rfl (nK l.length) (jA Try.underlying30 _ rfl _ _ _ rfl _) ?_
  refine nr ?_; intro U h; simp only [z0, z1] at h; subst h
  obtain ⟨p2, hp2⟩ : ∃ p, decide (((k : Nat) : Int) < ((l.length : Nat) : Int)) = p := ⟨_, rfl⟩
  refine ja 44 rfl rfl (.bool p2) (jE 3 _ _ _ rfl ((k : Nat) : Int) ((l.length : Nat) : Int) rfl rfl p2 hp2 _) ?_
  refine nr ?_; intro U h; simp only [z0, z1] at h; subst h
  cases p2
  have hkl : l.length ≤ k := by have := of_decide_eq_false hp2; omega
  refine qL (qF rfl (wp_skip (zh (jG (qG ?_)))))
  refine ja 30 rfl rfl (nK k) (rfl) ?_
  refine ja 31 rfl rfl (nK (k + 1)) (jp _ _ _ rfl ((k : Nat) : Int) 1 _ rfl rfl (by omega) (by omega) (by omega) _) ?_
  refine ja 7 rfl rfl (nK (k + 1)) (rfl) ?_
  refine nr ?_; intro U h; simp only [z0, z1] at h; subst h
  refine qL ?_
  rw [JJ (Va hkl) (by rw [ze hl]; omega) (by rw [ze hl]; exact zY H.len hi)] at HO
  exact ⟨_, (by omega : 64 - (k + 1) < 64 - k), k + 1, (fun kz => ([nK k, vT, nK k, nK (k + 1), vP p 0, vP p 0, vP p 0, .slice ro (n * 64) rc, nK i, nK (i * 64), nK k, nK (i * 64 + k), .pointer (some ⟨ga, i * 64 + k, none⟩), nK k, .slice ao l.length cap, nK l.length, vF, us1 17, us1 18, us1 19, us1 20, us1 21, us1 22, us1 23, us1 24, us1 25, us1 26, us1 27, us1 28, us1 29] : List Value).getD kz uD), rfl, rfl, hk, GG, kp, HO, HN⟩
  have hkl : k < l.length := by have := of_decide_eq_true hp2; omega
  obtain ⟨ad, hao, _⟩ := HN.nc.at hkl
  obtain ⟨gb, curgz, hgb, _, _, _, _, _, _⟩ := HO.blk (j := i * 64 + k) (by simp only [List.length_set, hwl]; omega)
  refine qL (qT rfl ?_)
  refine jl (A := ?Ax1) 12 [(0, 45), (1, 46), (2, 47), (3, 48), (4, 49), (5, 50), (6, 51), (7, 52), (8, 53), (9, 54), (10, 55), (11, 56)] [.val (vP p 0), .val (vP p 0), .val (vP p 0), .val (.slice ro (n * 64) rc), .val (nK i), .val (nK (i * 64)), .val (nK k), .val (nK (i * 64 + k)), .val (.slice ao l.length cap), .val (nK k), .val (.pointer (some (ad.add k))), .val (.int .u8 ((l.getD k 0 : Nat) : Int))] follows (by kernel_rfl) rfl ?hAx1 (jb ?o0x1 (jb ?o1x1 (jb ?o2x1 (jb ?o3x1 (jb ?o4x1 (jb ?o5x1 (jb ?o6x1 (jb ?o7x1 (jb ?o8x1 (jb ?o9x1 (jb ?o10x1 (jb ?o11x1 jF)))))))))))) ?restx1
  case hAx1 =>
    intro ptrs
    simp only [full, foldSlots, filledE, postE, List.foldl_cons, List.foldl_nil, List.getD_cons_zero, List.getD_cons_succ, jI, List.set_cons_zero, List.set_cons_succ]
    exact rfl
  case o0x1 => exact fun _ _ _ _ => jg (v := vP p 0) _ rfl rfl rfl
  case o1x1 => exact fun _ _ hw _ => jd (v := vP p 0) rfl (jn _ rfl _ rfl)
  case o2x1 => exact fun _ _ hw _ => jd (v := vP p 0) rfl (jf 36 _ 0 rfl _ _ rfl _ (by kernel_rfl))
  case o3x1 => exact fun _ _ hw _ => jd (v := .slice ro (n * 64) rc) rfl (jq 30 _ rfl p 0 rfl 36 _ (hw.has kp) (na30 _) _ rfl)
  case o4x1 => exact fun _ _ _ _ => jg (v := nK i) _ rfl rfl rfl
  case o5x1 => exact fun _ _ hw _ => jd (v := nK (i * 64)) rfl (zb _ _ _ rfl 64 ((i : Nat) : Int) _ rfl rfl (by omega) (by omega) (by omega) _)
  case o6x1 => exact fun _ _ _ _ => jg (v := nK k) _ rfl rfl rfl
  case o7x1 => exact fun _ _ hw _ => jd (v := nK (i * 64 + k)) rfl (jp _ _ _ rfl ((i * 64 : Nat) : Int) ((k : Nat) : Int) _ rfl rfl (by omega) (by omega) (by omega) _)
  case o8x1 => exact fun _ _ _ _ => jg (v := .slice ao l.length cap) _ rfl rfl rfl
  case o9x1 => exact fun _ _ _ _ => jg (v := nK k) _ rfl rfl rfl
  case o10x1 => exact fun _ _ hw _ => jd (v := .pointer (some (ad.add k))) rfl (zd bT _ _ rfl ad l.length cap k (by exact congrArg (fun a => Value.slice a l.length cap) hao) rfl hkl _)
  case o11x1 => exact fun _ _ hw _ => jd (v := .int .u8 ((l.getD k 0 : Nat) : Int)) rfl (zo bT _ rfl (ad.add k) rfl _ _ ((HN.nc.gro ((Gro.refl _).drew.trans hw)).cell ad hao k hkl))
  intro ptrs w2 GD hxE
  simp only [List.drop_succ_cons, List.drop_zero]
  replace kp := GD.has kp
  replace HO := HO.gro ((Gro.refl _).drew.trans GD)
  replace HN := HN.gro ((Gro.refl _).drew.trans GD)
  replace GG := GG.drew.tg GD
  clear GD
  refine ja 57 rfl rfl (.pointer (some ⟨gb, i * 64 + k, none⟩)) (bat _ _ rfl gb (n * 64) rc (i * 64 + k) (by exact congrArg (fun a => Value.slice a (n * 64) rc) hgb) rfl (by omega) _) ?_
  refine nr ?_; intro U h; simp only [z0, z1] at h; subst h
  obtain ⟨gc, curgb, hgc, hBgb, kgb, hcgb, hmgb, hsgb, htgb⟩ := HO.blk (j := i * 64 + k) (by simp only [List.length_set, hwl]; omega)
  have egc : gb = gc := by rw [hgb] at hgc; injection hgc with e; injection e with e
  subst egc
  refine jt rfl rfl 5 _ _ rfl gb (i * 64 + k) rfl (.int .u8 ((l.getD k 0 : Nat) : Int)) rfl 5 _ kgb #[.int .u8 (((l.getD k 0) : Nat) : Int)] rfl si5 (by simp only [List.size_toArray, List.length_cons, List.length_nil, List.length_set, hwl] at *; omega) (one1 _) _ rfl ?_
  intro w3 St
  replace kp := St.has (fun e => H.ne hgb e.symm) kp
  replace HN := HN.gros ((GroS.refl (p :: blk ro) _).st St (.inr (by rw [hgb]; simp [blk])))
  replace HO := HO.put hgb kgb (by simp only [List.length_set, hwl]; omega) ((l.getD k 0)) (by have := zx HB.nc.lt256 k; rw [yW]; omega) St
  replace GG := GG.st St (.inr (by rw [hgb]; simp [blk]))
  clear St kgb
  refine qN (zh (jG (qG ?_)))
  refine ja 30 rfl rfl (nK k) (rfl) ?_
  refine ja 31 rfl rfl (nK (k + 1)) (jp _ _ _ rfl ((k : Nat) : Int) 1 _ rfl rfl (by omega) (by omega) (by omega) _) ?_
  refine ja 7 rfl rfl (nK (k + 1)) (rfl) ?_
  refine nr ?_; intro U h; simp only [z0, z1] at h; subst h
  refine qL ?_
  rw [List.set_set, JJ (UE hkl) (by rw [ze hl]; omega) (by rw [ze hl]; exact zY H.len hi)] at HO
  exact ⟨_, (by omega : 64 - (k + 1) < 64 - k), k + 1, (fun kz => ([nK k, vT, nK k, nK (k + 1), vP p 0, vP p 0, vP p 0, .slice ro (n * 64) rc, nK i, nK (i * 64), nK k, nK (i * 64 + k), .pointer (some ⟨ga, i * 64 + k, none⟩), nK k, .slice ao l.length cap, nK l.length, vT, vP p 0, vP p 0, vP p 0, .slice ro (n * 64) rc, nK i, nK (i * 64), nK k, nK (i * 64 + k), .slice ao l.length cap, nK k, .pointer (some (ad.add k)), .int .u8 ((l.getD k 0 : Nat) : Int), .pointer (some ⟨gb, i * 64 + k, none⟩)] : List Value).getD kz uD), rfl, rfl, hk, GG, kp, HO, HN⟩
theorem Qz (w : World) (p B : Nat) (ro : Option Addr) (rc n : Nat) (L : List Nat) (pw dn : Int) (H : QK w p B ro rc n L pw dn) (ao : Option Addr) (cap : Nat) (l : List Nat) (HB : BS (p :: blk ro) w ao cap l) (i : Nat) (hi : i < n) (hl : l.length ≤ 64) (h1 : 0 < pw) (h2 : pw < 9223372036854775808) (hd : 0 ≤ dn) (hd2 : dn < 9223372036854775807) : Calls Try.prog 35 #[vP p 0, nK i, .slice ao l.length cap] w fun e w' => e = .returned (iK 0) ∧ GroS (p :: blk ro) w w' ∧ QK w' p B ro rc n (wr L (i * 64) (padS l)) (pw - 1) (dn + 1) := by
  refine js Try.func35 rfl Try.ntmps35 [vP p 0, nK i, .slice ao l.length cap] [vP p 0, nK i, .slice ao l.length cap, uD, uD, uD, uD, uD, uD, uD, uD, uD, uD, uD, uD, uD, uD, uD, uD, uD, uD, uD, uD, uD, uD, uD, uD, uD, uD, uD, uD, uD, uD, uD, uD, uD, uD, uD, uD, uD, uD, uD, uD, uD, uD, uD, uD, uD, uD, uD, uD, uD, uD, uD, uD, uD, uD, uD, uD, uD, uD, uD, uD, uD, uD, uD, uD, uD, uD, uD, uD, uD, uD, uD, uD, uD, uD] rfl ?_
  have GG := GroS.refl (p :: blk ro) w
  have kp := H.box
  have hn4 := H.le
  have HO := H.row
  have HN := HB
  have hlen := H.len
  refine qS ?_
  refine ja 6 rfl rfl (iK 0) (rfl) ?_
  refine nr ?_; intro U h; simp only [z0, z1] at h; subst h
  refine qL (qE (qE ?_))
  refine jj ?_
  intro OPS hY
  have y2 := hY 2 10 rfl
  clear hY
  refine ja 8 rfl rfl (nK i) (rfl) ?_
  refine ja 9 rfl rfl (vF) (jE 3 _ _ _ rfl ((i : Nat) : Int) 0 rfl rfl false (by first | exact decide_eq_true (by omega) | exact decide_eq_false (by omega)) _) ?_
  refine ja 10 rfl rfl (vF) (rfl) ?_
  refine je 11 rfl rfl y2 rfl (nK i) (rfl) ?_
  refine je 12 rfl rfl y2 rfl (vP p 0) (rfl) ?_
  refine je 13 rfl rfl y2 rfl (vP p 0) (jn _ rfl _ rfl) ?_
  refine je 14 rfl rfl y2 rfl (vP p 0) (jf 36 _ 0 rfl _ _ rfl _ (by kernel_rfl)) ?_
  refine je 15 rfl rfl y2 rfl (.slice ro (n * 64) rc) (jq 30 _ rfl p 0 rfl 36 _ kp (na30 _) _ rfl) ?_
  refine je 16 rfl rfl y2 rfl (nK (n * 64)) (jA Try.underlying30 _ rfl _ _ _ rfl _) ?_
  refine je 17 rfl rfl y2 rfl (nK n) (zp _ _ _ rfl ((n * 64 : Nat) : Int) 64 _ rfl rfl (by decide) quoN (by omega) (by omega) _) ?_
  refine je 18 rfl rfl y2 rfl (vF) (Zh 3 _ _ _ rfl ((i : Nat) : Int) ((n : Nat) : Int) rfl rfl false (by first | exact decide_eq_true (by omega) | exact decide_eq_false (by omega)) _) ?_
  refine ja 19 rfl rfl (vF) (rfl) ?_
  refine nr ?_; intro U h; simp only [z0, z1] at h; subst h
  refine qL (qF rfl (qK (qE (qS ?_))))
  refine ja 20 rfl rfl (.slice ao l.length cap) (rfl) ?_
  refine ja 21 rfl rfl (nK l.length) (jA Try.underlying30 _ rfl _ _ _ rfl _) ?_
  refine ja 22 rfl rfl (vF) (jJ 3 _ _ _ rfl ((l.length : Nat) : Int) 64 rfl rfl false (decide_eq_false (by omega)) _) ?_
  refine nr ?_; intro U h; simp only [z0, z1] at h; subst h
  refine qL (qF rfl (qK (qE (qS ?_))))
  refine ja 23 rfl rfl (vP p 0) (rfl) ?_
  refine ja 24 rfl rfl (vP p 0) (jn _ rfl _ rfl) ?_
  refine ja 25 rfl rfl (vP p 1) (jf 36 _ 1 rfl _ _ rfl _ (by kernel_rfl)) ?_
  refine ja 26 rfl rfl (iK pw) (jq 3 _ rfl p 1 rfl 36 _ kp (na3 _) _ rfl) ?_
  refine ja 27 rfl rfl (vF) (jB 3 .i64 _ _ _ rfl Try.underlying3 pw 0 rfl rfl false (decide_eq_false (by omega)) _) ?_
  refine nr ?_; intro U h; simp only [z0, z1] at h; subst h
  refine qL (qF rfl (qK (qE (qS ?_))))
  refine ja 7 rfl rfl (iK 0) (rfl) ?_
  refine nr ?_; intro U h; simp only [z0, z1] at h; subst h
  refine qL (qB ?_)
  refine jV (fun mz az wv => ∃ (k : Nat) (us1 : Nat → Value), mz = 64 - k ∧ az = ⟨[vP p 0, nK i, .slice ao l.length cap, uD, uD, uD, iK 0, nK k, nK i, vF, vF, nK i, vP p 0, vP p 0, vP p 0, .slice ro (n * 64) rc, nK (n * 64), nK n, vF, vF, .slice ao l.length cap, nK l.length, vF, vP p 0, vP p 0, vP p 1, iK pw, vF, us1 0, us1 1, us1 2, us1 3, us1 4, us1 5, us1 6, us1 7, us1 8, us1 9, us1 10, us1 11, us1 12, us1 13, us1 14, us1 15, us1 16, us1 17, us1 18, us1 19, us1 20, us1 21, us1 22, us1 23, us1 24, us1 25, us1 26, us1 27, us1 28, us1 29, uD, uD, uD, uD, uD, uD, uD, uD, uD, uD, uD, uD, uD, uD, uD, uD, uD, uD, uD].toArray, []⟩ ∧ k ≤ 64 ∧ GroS (p :: blk ro) w wv ∧ wv.heap[p]? = some (.cells (c36 ⟨ro, n * 64, rc⟩ pw dn) 36 (0, 0)) ∧ OB wv 5 .u8 B ro rc (wr L (i * 64) ((padS l).take k)) ∧ BS (p :: blk ro) wv ao cap l) ?_ _ ⟨0, (fun kz => ([uD, uD, uD, uD, uD, uD, uD, uD, uD, uD, uD, uD, uD, uD, uD, uD, uD, uD, uD, uD, uD, uD, uD, uD, uD, uD, uD, uD, uD, uD] : List Value).getD kz uD), rfl, rfl, Nat.zero_le _, GG, kp, by simpa [wr] using HO, HN⟩
  clear kp GG HO HN
  rintro mz az wv ⟨k, us1, rfl, rfl, hk, GG, kp, HO, HN⟩
  refine qE (qS ?_)
  refine ja 28 rfl rfl (nK k) (rfl) ?_
  refine nr ?_; intro U h; simp only [z0, z1] at h; subst h
  obtain ⟨p1, hp1⟩ : ∃ p, decide (((k : Nat) : Int) < 64) = p := ⟨_, rfl⟩
  refine ja 29 rfl rfl (.bool p1) (jE 3 _ _ _ rfl ((k : Nat) : Int) 64 rfl rfl p1 hp1 _) ?_
  refine nr ?_; intro U h; simp only [z0, z1] at h; subst h
  cases p1
  replace hk : k = 64 := by have := of_decide_eq_false hp1; omega
  refine qL (qF rfl (wp_exit (jL (jL (zC (jG (qE (qS ?_))))))))
  refine ja 58 rfl rfl (vP p 0) (rfl) ?_
  refine ja 59 rfl rfl (vP p 0) (jn _ rfl _ rfl) ?_
  refine ja 60 rfl rfl (vP p 1) (jf 36 _ 1 rfl _ _ rfl _ (by kernel_rfl)) ?_
  refine ja 61 rfl rfl (iK pw) (jq 3 _ rfl p 1 rfl 36 _ kp (na3 _) _ rfl) ?_
  refine ja 62 rfl rfl (vT) (jJ 3 _ _ _ rfl pw 0 rfl rfl true (by first | exact decide_eq_true (by omega) | exact decide_eq_false (by omega)) _) ?_
  refine nr ?_; intro U h; simp only [z0, z1] at h; subst h
  refine qL (qT rfl (qG ?_))
  refine ja 63 rfl rfl (vP p 0) (rfl) ?_
  refine ja 64 rfl rfl (vP p 0) (jn _ rfl _ rfl) ?_
  refine ja 65 rfl rfl (vP p 1) (jf 36 _ 1 rfl _ _ rfl _ (by kernel_rfl)) ?_
  refine ja 66 rfl rfl (iK pw) (jq 3 _ rfl p 1 rfl 36 _ kp (na3 _) _ rfl) ?_
  refine ja 67 rfl rfl (iK (pw - 1)) (jR _ _ _ rfl pw 1 _ rfl rfl rfl (by omega) (by omega) _) ?_
  refine ja 68 rfl rfl (vP p 0) (jn _ rfl _ rfl) ?_
  refine ja 69 rfl rfl (vP p 1) (jf 36 _ 1 rfl _ _ rfl _ (by kernel_rfl)) ?_
  refine nr ?_; intro U h; simp only [z0, z1] at h; subst h
  refine jt rfl rfl 3 _ _ rfl p 1 rfl (iK (pw - 1)) rfl 36 _ kp #[iK (pw - 1)] rfl (by kernel_rfl) (Nat.le_of_ble_eq_true rfl) (by kernel_rfl) (c36 ⟨ro, n * 64, rc⟩ (pw - 1) dn) (by kernel_rfl) ?_
  intro w2 St
  replace HO := HO.apart St (fun ad ha => H.ne ha)
  replace HN := HN.gros ((GroS.refl (p :: blk ro) _).st St (.inr (by simp)))
  replace GG := GG.st St (.inr (by simp))
  replace kp := St.new
  clear St
  refine qA ?_
  refine ja 70 rfl rfl (vP p 0) (rfl) ?_
  refine ja 71 rfl rfl (vP p 0) (jn _ rfl _ rfl) ?_
  refine ja 72 rfl rfl (vP p 2) (jf 36 _ 2 rfl _ _ rfl _ (by kernel_rfl)) ?_
  refine ja 73 rfl rfl (iK dn) (jq 3 _ rfl p 2 rfl 36 _ kp (na3 _) _ rfl) ?_
  refine ja 74 rfl rfl (iK (dn + 1)) (jp _ _ _ rfl dn 1 _ rfl rfl rfl (by omega) (by omega) _) ?_
  refine ja 75 rfl rfl (vP p 0) (jn _ rfl _ rfl) ?_
  refine ja 76 rfl rfl (vP p 2) (jf 36 _ 2 rfl _ _ rfl _ (by kernel_rfl)) ?_
  refine nr ?_; intro U h; simp only [z0, z1] at h; subst h
  refine jt rfl rfl 3 _ _ rfl p 2 rfl (iK (dn + 1)) rfl 36 _ kp #[iK (dn + 1)] rfl (by kernel_rfl) (Nat.le_of_ble_eq_true rfl) (by kernel_rfl) (c36 ⟨ro, n * 64, rc⟩ (pw - 1) (dn + 1)) (by kernel_rfl) ?_
  intro w4 St
  replace HO := HO.apart St (fun ad ha => H.ne ha)
  replace HN := HN.gros ((GroS.refl (p :: blk ro) _).st St (.inr (by simp)))
  replace GG := GG.st St (.inr (by simp))
  replace kp := St.new
  clear St
  refine qA ?_
  refine ja 6 rfl rfl (iK 0) (rfl) ?_
  refine nr ?_; intro U h; simp only [z0, z1] at h; subst h
  refine qL (qR ?_)
  refine bodyPost_ret (results_tmp Try.results35 _ _ _) rfl ?_
  subst hk
  rw [List.take_of_length_le (by rw [ze hl]; exact Nat.le_refl _)] at HO
  exact ⟨rfl, GG, kp, HO, by rw [yG (by rw [ze hl]; exact zY H.len hi)]; exact H.len, H.le⟩
  replace hk : k < 64 := by have := of_decide_eq_true hp1; omega
  refine qL (qT rfl (qK (qE (qB (qS ?_)))))
  refine ja 32 rfl rfl (vP p 0) (rfl) ?_
  refine ja 33 rfl rfl (vP p 0) (jn _ rfl _ rfl) ?_
  refine ja 34 rfl rfl (vP p 0) (jf 36 _ 0 rfl _ _ rfl _ (by kernel_rfl)) ?_
  refine ja 35 rfl rfl (.slice ro (n * 64) rc) (jq 30 _ rfl p 0 rfl 36 _ kp (na30 _) _ rfl) ?_
  refine ja 36 rfl rfl (nK i) (rfl) ?_
  refine ja 37 rfl rfl (nK (i * 64)) (zb _ _ _ rfl 64 ((i : Nat) : Int) _ rfl rfl (by omega) (by omega) (by omega) _) ?_
  refine ja 38 rfl rfl (nK k) (rfl) ?_
  refine ja 39 rfl rfl (nK (i * 64 + k)) (jp _ _ _ rfl ((i * 64 : Nat) : Int) ((k : Nat) : Int) _ rfl rfl (by omega) (by omega) (by omega) _) ?_
  refine nr ?_; intro U h; simp only [z0, z1] at h; subst h
  have hwl : (wr L (i * 64) ((padS l).take k)).length = n * 64 := by rw [Uc H.len hi (Nat.le_of_lt hk) hl]; exact H.len
  obtain ⟨ga, curga, hga, hBga, kga, hcga, hmga, hsga, htga⟩ := HO.blk (j := i * 64 + k) (by simp only [hwl]; omega)
  refine ja 40 rfl rfl (.pointer (some ⟨ga, i * 64 + k, none⟩)) (bat _ _ rfl ga (n * 64) rc (i * 64 + k) (by exact congrArg (fun a => Value.slice a (n * 64) rc) hga) rfl (by omega) _) ?_
  refine nr ?_; intro U h; simp only [z0, z1] at h; subst h
  refine jt rfl rfl 5 _ _ rfl ga (i * 64 + k) rfl (.int .u8 0) rfl 5 _ kga #[.int .u8 ((0 : Nat) : Int)] rfl si5 (by simp only [List.size_toArray, List.length_cons, List.length_nil, hwl] at *; omega) (one1 _) _ rfl ?_
  intro w1 St
  replace kp := St.has (fun e => H.ne hga e.symm) kp
  replace HN := HN.gros ((GroS.refl (p :: blk ro) _).st St (.inr (by rw [hga]; simp [blk])))
  replace HO := HO.put hga kga (by simp only [hwl]; omega) (0) (by decide) St
  replace GG := GG.st St (.inr (by rw [hga]; simp [blk]))
  clear St kga
  refine qA ?_
  refine ja 41 rfl rfl (nK k) (rfl) ?_
  refine ja 42 rfl rfl (.slice ao l.length cap) (rfl) ?_
  refine ja 43 rfl rfl (nK l.length) (jA Try.underlying30 _ rfl _ _ _ rfl _) ?_
  refine nr ?_; intro U h; simp only [z0, z1] at h; subst h
  obtain ⟨p2, hp2⟩ : ∃ p, decide (((k : Nat) : Int) < ((l.length : Nat) : Int)) = p := ⟨_, rfl⟩
  refine ja 44 rfl rfl (.bool p2) (jE 3 _ _ _ rfl ((k : Nat) : Int) ((l.length : Nat) : Int) rfl rfl p2 hp2 _) ?_
  refine nr ?_; intro U h; simp only [z0, z1] at h; subst h
  cases p2
  have hkl : l.length ≤ k := by have := of_decide_eq_false hp2; omega
  refine qL (qF rfl (wp_skip (zh (jG (qG ?_)))))
  refine ja 30 rfl rfl (nK k) (rfl) ?_
  refine ja 31 rfl rfl (nK (k + 1)) (jp _ _ _ rfl ((k : Nat) : Int) 1 _ rfl rfl (by omega) (by omega) (by omega) _) ?_
  refine ja 7 rfl rfl (nK (k + 1)) (rfl) ?_
  refine nr ?_; intro U h; simp only [z0, z1] at h; subst h
  refine qL ?_
  rw [JJ (Va hkl) (by rw [ze hl]; omega) (by rw [ze hl]; exact zY H.len hi)] at HO
  exact ⟨_, (by omega : 64 - (k + 1) < 64 - k), k + 1, (fun kz => ([nK k, vT, nK k, nK (k + 1), vP p 0, vP p 0, vP p 0, .slice ro (n * 64) rc, nK i, nK (i * 64), nK k, nK (i * 64 + k), .pointer (some ⟨ga, i * 64 + k, none⟩), nK k, .slice ao l.length cap, nK l.length, vF, us1 17, us1 18, us1 19, us1 20, us1 21, us1 22, us1 23, us1 24, us1 25, us1 26, us1 27, us1 28, us1 29] : List Value).getD kz uD), rfl, rfl, hk, GG, kp, HO, HN⟩
  have hkl : k < l.length := by have := of_decide_eq_true hp2; omega
  obtain ⟨ad, hao, _⟩ := HN.nc.at hkl
  obtain ⟨gb, curgz, hgb, _, _, _, _, _, _⟩ := HO.blk (j := i * 64 + k) (by simp only [List.length_set, hwl]; omega)
  refine qL (qT rfl ?_)
  refine jl (A := ?Ax2) 12 [(0, 45), (1, 46), (2, 47), (3, 48), (4, 49), (5, 50), (6, 51), (7, 52), (8, 53), (9, 54), (10, 55), (11, 56)] [.val (vP p 0), .val (vP p 0), .val (vP p 0), .val (.slice ro (n * 64) rc), .val (nK i), .val (nK (i * 64)), .val (nK k), .val (nK (i * 64 + k)), .val (.slice ao l.length cap), .val (nK k), .val (.pointer (some (ad.add k))), .val (.int .u8 ((l.getD k 0 : Nat) : Int))] follows (by kernel_rfl) rfl ?hAx2 (jb ?o0x2 (jb ?o1x2 (jb ?o2x2 (jb ?o3x2 (jb ?o4x2 (jb ?o5x2 (jb ?o6x2 (jb ?o7x2 (jb ?o8x2 (jb ?o9x2 (jb ?o10x2 (jb ?o11x2 jF)))))))))))) ?restx2
  case hAx2 =>
    intro ptrs
    simp only [full, foldSlots, filledE, postE, List.foldl_cons, List.foldl_nil, List.getD_cons_zero, List.getD_cons_succ, jI, List.set_cons_zero, List.set_cons_succ]
    exact rfl
  case o0x2 => exact fun _ _ _ _ => jg (v := vP p 0) _ rfl rfl rfl
  case o1x2 => exact fun _ _ hw _ => jd (v := vP p 0) rfl (jn _ rfl _ rfl)
  case o2x2 => exact fun _ _ hw _ => jd (v := vP p 0) rfl (jf 36 _ 0 rfl _ _ rfl _ (by kernel_rfl))
  case o3x2 => exact fun _ _ hw _ => jd (v := .slice ro (n * 64) rc) rfl (jq 30 _ rfl p 0 rfl 36 _ (hw.has kp) (na30 _) _ rfl)
  case o4x2 => exact fun _ _ _ _ => jg (v := nK i) _ rfl rfl rfl
  case o5x2 => exact fun _ _ hw _ => jd (v := nK (i * 64)) rfl (zb _ _ _ rfl 64 ((i : Nat) : Int) _ rfl rfl (by omega) (by omega) (by omega) _)
  case o6x2 => exact fun _ _ _ _ => jg (v := nK k) _ rfl rfl rfl
  case o7x2 => exact fun _ _ hw _ => jd (v := nK (i * 64 + k)) rfl (jp _ _ _ rfl ((i * 64 : Nat) : Int) ((k : Nat) : Int) _ rfl rfl (by omega) (by omega) (by omega) _)
  case o8x2 => exact fun _ _ _ _ => jg (v := .slice ao l.length cap) _ rfl rfl rfl
  case o9x2 => exact fun _ _ _ _ => jg (v := nK k) _ rfl rfl rfl
  case o10x2 => exact fun _ _ hw _ => jd (v := .pointer (some (ad.add k))) rfl (zd bT _ _ rfl ad l.length cap k (by exact congrArg (fun a => Value.slice a l.length cap) hao) rfl hkl _)
  case o11x2 => exact fun _ _ hw _ => jd (v := .int .u8 ((l.getD k 0 : Nat) : Int)) rfl (zo bT _ rfl (ad.add k) rfl _ _ ((HN.nc.gro ((Gro.refl _).drew.trans hw)).cell ad hao k hkl))
  intro ptrs w2 GD hxE
  simp only [List.drop_succ_cons, List.drop_zero]
  replace kp := GD.has kp
  replace HO := HO.gro ((Gro.refl _).drew.trans GD)
  replace HN := HN.gro ((Gro.refl _).drew.trans GD)
  replace GG := GG.drew.tg GD
  clear GD
  refine ja 57 rfl rfl (.pointer (some ⟨gb, i * 64 + k, none⟩)) (bat _ _ rfl gb (n * 64) rc (i * 64 + k) (by exact congrArg (fun a => Value.slice a (n * 64) rc) hgb) rfl (by omega) _) ?_
  refine nr ?_; intro U h; simp only [z0, z1] at h; subst h
  obtain ⟨gc, curgb, hgc, hBgb, kgb, hcgb, hmgb, hsgb, htgb⟩ := HO.blk (j := i * 64 + k) (by simp only [List.length_set, hwl]; omega)
  have egc : gb = gc := by rw [hgb] at hgc; injection hgc with e; injection e with e
  subst egc
  refine jt rfl rfl 5 _ _ rfl gb (i * 64 + k) rfl (.int .u8 ((l.getD k 0 : Nat) : Int)) rfl 5 _ kgb #[.int .u8 (((l.getD k 0) : Nat) : Int)] rfl si5 (by simp only [List.size_toArray, List.length_cons, List.length_nil, List.length_set, hwl] at *; omega) (one1 _) _ rfl ?_
  intro w3 St
  replace kp := St.has (fun e => H.ne hgb e.symm) kp
  replace HN := HN.gros ((GroS.refl (p :: blk ro) _).st St (.inr (by rw [hgb]; simp [blk])))
  replace HO := HO.put hgb kgb (by simp only [List.length_set, hwl]; omega) ((l.getD k 0)) (by have := zx HB.nc.lt256 k; rw [yW]; omega) St
  replace GG := GG.st St (.inr (by rw [hgb]; simp [blk]))
  clear St kgb
  refine qN (zh (jG (qG ?_)))
  refine ja 30 rfl rfl (nK k) (rfl) ?_
  refine ja 31 rfl rfl (nK (k + 1)) (jp _ _ _ rfl ((k : Nat) : Int) 1 _ rfl rfl (by omega) (by omega) (by omega) _) ?_
  refine ja 7 rfl rfl (nK (k + 1)) (rfl) ?_
  refine nr ?_; intro U h; simp only [z0, z1] at h; subst h
  refine qL ?_
  rw [List.set_set, JJ (UE hkl) (by rw [ze hl]; omega) (by rw [ze hl]; exact zY H.len hi)] at HO
  exact ⟨_, (by omega : 64 - (k + 1) < 64 - k), k + 1, (fun kz => ([nK k, vT, nK k, nK (k + 1), vP p 0, vP p 0, vP p 0, .slice ro (n * 64) rc, nK i, nK (i * 64), nK k, nK (i * 64 + k), .pointer (some ⟨ga, i * 64 + k, none⟩), nK k, .slice ao l.length cap, nK l.length, vT, vP p 0, vP p 0, vP p 0, .slice ro (n * 64) rc, nK i, nK (i * 64), nK k, nK (i * 64 + k), .slice ao l.length cap, nK k, .pointer (some (ad.add k)), .int .u8 ((l.getD k 0 : Nat) : Int), .pointer (some ⟨gb, i * 64 + k, none⟩)] : List Value).getD kz uD), rfl, rfl, hk, GG, kp, HO, HN⟩
theorem Jo (w : World) (p B : Nat) (ro : Option Addr) (rc n : Nat) (L : List Nat) (pw dn : Int) (H : QK w p B ro rc n L pw dn) (ao : Option Addr) (cap : Nat) (l : List Nat) (HB : BS (p :: blk ro) w ao cap l) (i : Nat) (hi : i < n) (hl : l.length ≤ 64) (h1 : pw = -1 ∨ 0 < pw) (h2 : pw < 9223372036854775808) (hd : 0 ≤ dn) (hd2 : dn < 9223372036854775807) : Calls Try.prog 35 #[.pointer (some ⟨p, 0, none⟩), .int .i64 ((i : Nat) : Int), .slice ao l.length cap] w fun e w' => e = .returned (.int .i64 0) ∧ GroS (p :: blk ro) w w' ∧ QK w' p B ro rc n (wr L (i * 64) (padS l)) (if pw = -1 then -1 else pw - 1) (dn + 1) := by
  rcases h1 with h1 | h1
  · rw [if_pos h1]
    have := VL w p B ro rc n L pw dn H ao cap l HB i hi hl h1 hd hd2
    rwa [h1] at this
  · rw [if_neg (by omega)]
    exact Qz w p B ro rc n L pw dn H ao cap l HB i hi hl h1 h2 hd hd2
end Go.Proofs.Ytgfnjekpafempaa
