/- The document's Open. -/
import Derived.Test.YtgfnjekpafempaaGE12
import Derived.Test.YtgfnjekpafempaaGAb
namespace Go.Proofs.Ytgfnjekpafempaa
set_option maxHeartbeats 4000000
set_option maxRecDepth 100000
open Go.RowKit
theorem jaf {l : List Nat} (h : l ≠ []) : prs l = none ∨ ∃ r rs, prs l = some (r :: rs) := by
  by_cases hb : 1024 < recM l ∨ l.length < secN (recM l) * 64
  · exact .inl (ug h hb)
  · rw [vh h (by omega) (by omega)]
    cases prs (l.drop (secN (recM l) * 64)) with
    | none => exact .inl rfl
    | some rs => exact .inr ⟨_, _, rfl⟩
def pick (c : Nat) (r : Option (List (List Nat))) : Option (List (List Nat)) := r.bind fun rs => if rs.length = c then some rs else none
theorem YZ {c : Nat} {a : List (List Nat)} (h : a.length ≠ c) : pick c (some a) = none := by rw [pick, Option.bind_some, if_neg h]
theorem QE {c : Nat} {a : List (List Nat)} (h : a.length = c) : pick c (some a) = some a := by rw [pick, Option.bind_some, if_pos h]
theorem QD {c : Nat} {a : List (List Nat)} (h : a.length = c) {l : List Nat} (hl : l ≠ []) : pick c ((prs l).map (a ++ ·)) = none := by
  rcases jaf hl with h1 | ⟨r, rs, h1⟩
  · rw [h1]; rfl
  · rw [h1, Option.map_some]
    exact YZ (by rw [List.length_append, List.length_cons]; omega)
theorem QI {L : List Nat} {n : Nat} (h1 : (cntE L).g ≤ 9223372036854775807) (h2 : (cntE L).u ≤ n - 2) (h3 : (cntE L).c ≤ (cntE L).u) : opE L n = pick (cntE L).c (prs (reg L (cntE L).u)) := by
  rw [opE, if_neg (by omega)]
  rfl
def OpenP (w : World) (rp : Nat) (L : List Nat) (r : Option (List (List Nat))) (e : Ending) (w' : World) : Prop :=
  match r with
  | none => e = .returned (.tuple #[.pointer none, .slice none 0 0, .int .i64 2]) ∧ Gro w w'
  | some rs => ∃ mp ao cap q, e = .returned (.tuple #[.pointer (some ⟨mp, 0, none⟩), .slice ao (List.length q) cap, .int .i64 0]) ∧ rs = q.map (·.l) ∧ Gro w w' ∧ w.heap.size ≤ mp ∧ MK w' mp rp (cntE L) false ∧ LO w' w.heap.size ao cap q
theorem jcx {L : List Nat} {n u j : Nat} (h : L.length = n * 64) (hu : u + 2 ≤ n) {rest : List Nat} (hr : rest = (reg L u).drop (j * 64)) : rest.length = u * 64 - j * 64 := by
  rw [hr, List.length_drop, vx h hu]
theorem KS (w : World) (rp B : Nat) (ro : Option Addr) (rc n : Nat) (L : List Nat) (pw dn : Int) (H : QK w rp B ro rc n L pw dn) (hn : 3 ≤ n) (h1 : 9223372036854775807 < (cntE L).g) : Calls Try.prog 9 #[vP rp 0] w fun e w' => e = .returned (.tuple #[.pointer none, .slice none 0 0, iK 2]) ∧ Gro w w' := by
  refine js Try.func9 rfl Try.ntmps9 [vP rp 0] [vP rp 0, uD, uD, uD, uD, uD, uD, uD, uD, uD, uD, uD, uD, uD, uD, uD, uD, uD, uD, uD, uD, uD, uD, uD, uD, uD, uD, uD, uD, uD, uD, uD, uD, uD, uD, uD, uD, uD, uD, uD, uD, uD, uD, uD, uD, uD, uD, uD, uD, uD, uD, uD, uD, uD, uD, uD, uD, uD, uD, uD, uD, uD, uD, uD, uD, uD, uD, uD, uD, uD, uD, uD, uD, uD, uD, uD, uD, uD, uD, uD, uD, uD, uD, uD, uD, uD, uD, uD, uD, uD, uD, uD, uD, uD, uD, uD, uD, uD, uD, uD, uD, uD, uD, uD, uD, uD, uD, uD, uD, uD] rfl ?_
  have GG := Gro.refl w
  have krp := H.box
  have hn4 := H.le
  have HN := H.row.nc
  have hfit := HN.fit
  have hLn := H.len
  have hlt := Ji H.byte
  have hlim : lim = 18446744073709551616 := rfl
  refine qS ?_
  refine ja 2 rfl rfl (.pointer none) (rfl) ?_
  refine ja 3 rfl rfl (.slice none 0 0) (rfl) ?_
  refine ja 4 rfl rfl (iK 0) (rfl) ?_
  refine nr ?_; intro U h; simp only [z0, z1] at h; subst h
  refine qA ?_
  refine ja 14 rfl rfl (vP rp 0) (rfl) ?_
  refine ja 15 rfl rfl (vP rp 0) (jn _ rfl _ rfl) ?_
  refine ja 16 rfl rfl (vP rp 0) (jf 36 _ 0 rfl _ _ rfl _ (by kernel_rfl)) ?_
  refine ja 17 rfl rfl (.slice ro (n * 64) rc) (jq 30 _ rfl rp 0 rfl 36 _ krp (na30 _) _ rfl) ?_
  refine ja 18 rfl rfl (nK (n * 64)) (jA Try.underlying30 _ rfl _ _ _ rfl _) ?_
  refine ja 19 rfl rfl (nK n) (zp _ _ _ rfl ((n * 64 : Nat) : Int) 64 _ rfl rfl (by decide) quoN (by omega) (by omega) _) ?_
  refine ja 5 rfl rfl (nK n) (rfl) ?_
  refine nr ?_; intro U h; simp only [z0, z1] at h; subst h
  refine qL (qE (qS ?_))
  refine ja 20 rfl rfl (nK n) (rfl) ?_
  refine ja 21 rfl rfl (vF) (jE 3 _ _ _ rfl ((n : Nat) : Int) 3 rfl rfl false (decide_eq_false (by omega)) _) ?_
  refine nr ?_; intro U h; simp only [z0, z1] at h; subst h
  refine qL (qF rfl (qK (qS ?_)))
  refine ja 23 rfl rfl (vP rp 0) (rfl) ?_
  refine ja 24 rfl rfl (vP rp 0) (jn _ rfl _ rfl) ?_
  refine ja 25 rfl rfl (vP rp 0) (jf 36 _ 0 rfl _ _ rfl _ (by kernel_rfl)) ?_
  refine ja 26 rfl rfl (.slice ro (n * 64) rc) (jq 30 _ rfl rp 0 rfl 36 _ krp (na30 _) _ rfl) ?_
  refine nr ?_; intro U h; simp only [z0, z1] at h; subst h
  refine jy 27 rfl rfl _ 31 Try.call31 rfl rfl _ rfl [.slice ro (n * 64) rc] rfl (ud _ ro rc n L (HN.gro GG) hLn (by omega)) ?_
  intro w1 G
  replace krp := G.has krp
  replace GG := GG.trans G
  clear G
  refine nr ?_; intro U h; simp only [z0, z1] at h; subst h
  refine ja 22 rfl rfl (.tuple #[.int .u64 (((cntE L).g : Nat) : Int), .int .u64 (((cntE L).u : Nat) : Int), .int .u64 (((cntE L).c : Nat) : Int)]) (rfl) ?_
  refine ja 28 rfl rfl (.int .u64 (((cntE L).g : Nat) : Int)) (rfl) ?_
  refine ja 29 rfl rfl (.int .u64 (((cntE L).u : Nat) : Int)) (rfl) ?_
  refine ja 30 rfl rfl (.int .u64 (((cntE L).c : Nat) : Int)) (rfl) ?_
  refine ja 6 rfl rfl (.int .u64 (((cntE L).g : Nat) : Int)) (rfl) ?_
  refine ja 7 rfl rfl (.int .u64 (((cntE L).u : Nat) : Int)) (rfl) ?_
  refine ja 8 rfl rfl (.int .u64 (((cntE L).c : Nat) : Int)) (rfl) ?_
  refine nr ?_; intro U h; simp only [z0, z1] at h; subst h
  refine qL (qE (qE ?_))
  refine jj ?_
  intro OPS hY
  have y3 := hY 3 34 rfl
  have y10 := hY 10 41 rfl
  clear hY
  refine ja 31 rfl rfl (.int .u64 (((cntE L).g : Nat) : Int)) (rfl) ?_
  refine ja 32 rfl rfl (.int .u64 (((cntE L).g / 9223372036854775808 : Nat) : Int)) (yE 75 64 _ _ rfl (cntE L).g 63 .u64 rfl rfl (by decide) _ rfl _) ?_
  refine ja 33 rfl rfl (vT) (jS 75 75 _ _ rfl ((cntE L).g / 9223372036854775808) 0 rfl rfl true (by first | exact decide_eq_true (by omega) | exact decide_eq_false (by omega)) _) ?_
  refine ja 34 rfl rfl (vT) (rfl) ?_
  refine jo 35 rfl rfl y3 rfl ?_
  refine jo 36 rfl rfl y3 rfl ?_
  refine jo 37 rfl rfl y3 rfl ?_
  refine nr ?_; intro U h; simp only [z0, z1] at h; subst h
  refine jo 38 rfl rfl y3 rfl ?_
  refine jo 39 rfl rfl y3 rfl ?_
  refine ja 40 rfl rfl (vT) (rfl) ?_
  refine ja 41 rfl rfl (vT) (rfl) ?_
  refine jo 42 rfl rfl y10 rfl ?_
  refine jo 43 rfl rfl y10 rfl ?_
  refine jo 44 rfl rfl y10 rfl ?_
  refine nr ?_; intro U h; simp only [z0, z1] at h; subst h
  refine ja 45 rfl rfl (vT) (rfl) ?_
  refine nr ?_; intro U h; simp only [z0, z1] at h; subst h
  refine qL (qT rfl (qS ?_))
  refine ja 2 rfl rfl (.pointer none) (rfl) ?_
  refine ja 3 rfl rfl (.slice none 0 0) (rfl) ?_
  refine ja 4 rfl rfl (iK 2) (rfl) ?_
  refine nr ?_; intro U h; simp only [z0, z1] at h; subst h
  refine qL (qR (jr ?_))
  refine bodyPost_ret (results_tmp3 Try.results9 _ _ _) rfl ?_
  exact ⟨rfl, GG⟩
theorem KR (w : World) (rp B : Nat) (ro : Option Addr) (rc n : Nat) (L : List Nat) (pw dn : Int) (H : QK w rp B ro rc n L pw dn) (hn : 3 ≤ n) (h1 : (cntE L).g ≤ 9223372036854775807) (h2 : n - 2 < (cntE L).u) : Calls Try.prog 9 #[vP rp 0] w fun e w' => e = .returned (.tuple #[.pointer none, .slice none 0 0, iK 2]) ∧ Gro w w' := by
  refine js Try.func9 rfl Try.ntmps9 [vP rp 0] [vP rp 0, uD, uD, uD, uD, uD, uD, uD, uD, uD, uD, uD, uD, uD, uD, uD, uD, uD, uD, uD, uD, uD, uD, uD, uD, uD, uD, uD, uD, uD, uD, uD, uD, uD, uD, uD, uD, uD, uD, uD, uD, uD, uD, uD, uD, uD, uD, uD, uD, uD, uD, uD, uD, uD, uD, uD, uD, uD, uD, uD, uD, uD, uD, uD, uD, uD, uD, uD, uD, uD, uD, uD, uD, uD, uD, uD, uD, uD, uD, uD, uD, uD, uD, uD, uD, uD, uD, uD, uD, uD, uD, uD, uD, uD, uD, uD, uD, uD, uD, uD, uD, uD, uD, uD, uD, uD, uD, uD, uD, uD] rfl ?_
  have GG := Gro.refl w
  have krp := H.box
  have hn4 := H.le
  have HN := H.row.nc
  have hfit := HN.fit
  have hLn := H.len
  have hlt := Ji H.byte
  have hlim : lim = 18446744073709551616 := rfl
  refine qS ?_
  refine ja 2 rfl rfl (.pointer none) (rfl) ?_
  refine ja 3 rfl rfl (.slice none 0 0) (rfl) ?_
  refine ja 4 rfl rfl (iK 0) (rfl) ?_
  refine nr ?_; intro U h; simp only [z0, z1] at h; subst h
  refine qA ?_
  refine ja 14 rfl rfl (vP rp 0) (rfl) ?_
  refine ja 15 rfl rfl (vP rp 0) (jn _ rfl _ rfl) ?_
  refine ja 16 rfl rfl (vP rp 0) (jf 36 _ 0 rfl _ _ rfl _ (by kernel_rfl)) ?_
  refine ja 17 rfl rfl (.slice ro (n * 64) rc) (jq 30 _ rfl rp 0 rfl 36 _ krp (na30 _) _ rfl) ?_
  refine ja 18 rfl rfl (nK (n * 64)) (jA Try.underlying30 _ rfl _ _ _ rfl _) ?_
  refine ja 19 rfl rfl (nK n) (zp _ _ _ rfl ((n * 64 : Nat) : Int) 64 _ rfl rfl (by decide) quoN (by omega) (by omega) _) ?_
  refine ja 5 rfl rfl (nK n) (rfl) ?_
  refine nr ?_; intro U h; simp only [z0, z1] at h; subst h
  refine qL (qE (qS ?_))
  refine ja 20 rfl rfl (nK n) (rfl) ?_
  refine ja 21 rfl rfl (vF) (jE 3 _ _ _ rfl ((n : Nat) : Int) 3 rfl rfl false (decide_eq_false (by omega)) _) ?_
  refine nr ?_; intro U h; simp only [z0, z1] at h; subst h
  refine qL (qF rfl (qK (qS ?_)))
  refine ja 23 rfl rfl (vP rp 0) (rfl) ?_
  refine ja 24 rfl rfl (vP rp 0) (jn _ rfl _ rfl) ?_
  refine ja 25 rfl rfl (vP rp 0) (jf 36 _ 0 rfl _ _ rfl _ (by kernel_rfl)) ?_
  refine ja 26 rfl rfl (.slice ro (n * 64) rc) (jq 30 _ rfl rp 0 rfl 36 _ krp (na30 _) _ rfl) ?_
  refine nr ?_; intro U h; simp only [z0, z1] at h; subst h
  refine jy 27 rfl rfl _ 31 Try.call31 rfl rfl _ rfl [.slice ro (n * 64) rc] rfl (ud _ ro rc n L (HN.gro GG) hLn (by omega)) ?_
  intro w1 G
  replace krp := G.has krp
  replace GG := GG.trans G
  clear G
  refine nr ?_; intro U h; simp only [z0, z1] at h; subst h
  refine ja 22 rfl rfl (.tuple #[.int .u64 (((cntE L).g : Nat) : Int), .int .u64 (((cntE L).u : Nat) : Int), .int .u64 (((cntE L).c : Nat) : Int)]) (rfl) ?_
  refine ja 28 rfl rfl (.int .u64 (((cntE L).g : Nat) : Int)) (rfl) ?_
  refine ja 29 rfl rfl (.int .u64 (((cntE L).u : Nat) : Int)) (rfl) ?_
  refine ja 30 rfl rfl (.int .u64 (((cntE L).c : Nat) : Int)) (rfl) ?_
  refine ja 6 rfl rfl (.int .u64 (((cntE L).g : Nat) : Int)) (rfl) ?_
  refine ja 7 rfl rfl (.int .u64 (((cntE L).u : Nat) : Int)) (rfl) ?_
  refine ja 8 rfl rfl (.int .u64 (((cntE L).c : Nat) : Int)) (rfl) ?_
  refine nr ?_; intro U h; simp only [z0, z1] at h; subst h
  refine qL (qE (qE ?_))
  refine jj ?_
  intro OPS hY
  have y3 := hY 3 34 rfl
  have y10 := hY 10 41 rfl
  clear hY
  refine ja 31 rfl rfl (.int .u64 (((cntE L).g : Nat) : Int)) (rfl) ?_
  refine ja 32 rfl rfl (.int .u64 (((cntE L).g / 9223372036854775808 : Nat) : Int)) (yE 75 64 _ _ rfl (cntE L).g 63 .u64 rfl rfl (by decide) _ rfl _) ?_
  refine ja 33 rfl rfl (vF) (jS 75 75 _ _ rfl ((cntE L).g / 9223372036854775808) 0 rfl rfl false (by first | exact decide_eq_true (by omega) | exact decide_eq_false (by omega)) _) ?_
  refine ja 34 rfl rfl (vF) (rfl) ?_
  refine je 35 rfl rfl y3 rfl (.int .u64 (((cntE L).u : Nat) : Int)) (rfl) ?_
  refine je 36 rfl rfl y3 rfl (nK n) (rfl) ?_
  refine je 37 rfl rfl y3 rfl (nK (n - 2)) (jR _ _ _ rfl ((n : Nat) : Int) 2 _ rfl rfl (by omega) (by omega) (by omega) _) ?_
  refine nr ?_; intro U h; simp only [z0, z1] at h; subst h
  refine je 38 rfl rfl y3 rfl (.int .u64 ((n - 2 : Nat) : Int)) (conv325 _ rfl (n - 2) (by omega) rfl _) ?_
  refine je 39 rfl rfl y3 rfl (vT) (jS 75 75 _ _ rfl (cntE L).u (n - 2) rfl rfl true (by first | exact decide_eq_true (by omega) | exact decide_eq_false (by omega)) _) ?_
  refine ja 40 rfl rfl (vT) (rfl) ?_
  refine ja 41 rfl rfl (vT) (rfl) ?_
  refine jo 42 rfl rfl y10 rfl ?_
  refine jo 43 rfl rfl y10 rfl ?_
  refine jo 44 rfl rfl y10 rfl ?_
  refine nr ?_; intro U h; simp only [z0, z1] at h; subst h
  refine ja 45 rfl rfl (vT) (rfl) ?_
  refine nr ?_; intro U h; simp only [z0, z1] at h; subst h
  refine qL (qT rfl (qS ?_))
  refine ja 2 rfl rfl (.pointer none) (rfl) ?_
  refine ja 3 rfl rfl (.slice none 0 0) (rfl) ?_
  refine ja 4 rfl rfl (iK 2) (rfl) ?_
  refine nr ?_; intro U h; simp only [z0, z1] at h; subst h
  refine qL (qR (jr ?_))
  refine bodyPost_ret (results_tmp3 Try.results9 _ _ _) rfl ?_
  exact ⟨rfl, GG⟩
theorem KQ (w : World) (rp B : Nat) (ro : Option Addr) (rc n : Nat) (L : List Nat) (pw dn : Int) (H : QK w rp B ro rc n L pw dn) (hn : 3 ≤ n) (h1 : (cntE L).g ≤ 9223372036854775807) (h2 : (cntE L).u ≤ n - 2) (h3 : (cntE L).u < (cntE L).c) : Calls Try.prog 9 #[vP rp 0] w fun e w' => e = .returned (.tuple #[.pointer none, .slice none 0 0, iK 2]) ∧ Gro w w' := by
  refine js Try.func9 rfl Try.ntmps9 [vP rp 0] [vP rp 0, uD, uD, uD, uD, uD, uD, uD, uD, uD, uD, uD, uD, uD, uD, uD, uD, uD, uD, uD, uD, uD, uD, uD, uD, uD, uD, uD, uD, uD, uD, uD, uD, uD, uD, uD, uD, uD, uD, uD, uD, uD, uD, uD, uD, uD, uD, uD, uD, uD, uD, uD, uD, uD, uD, uD, uD, uD, uD, uD, uD, uD, uD, uD, uD, uD, uD, uD, uD, uD, uD, uD, uD, uD, uD, uD, uD, uD, uD, uD, uD, uD, uD, uD, uD, uD, uD, uD, uD, uD, uD, uD, uD, uD, uD, uD, uD, uD, uD, uD, uD, uD, uD, uD, uD, uD, uD, uD, uD, uD] rfl ?_
  have GG := Gro.refl w
  have krp := H.box
  have hn4 := H.le
  have HN := H.row.nc
  have hfit := HN.fit
  have hLn := H.len
  have hlt := Ji H.byte
  have hlim : lim = 18446744073709551616 := rfl
  refine qS ?_
  refine ja 2 rfl rfl (.pointer none) (rfl) ?_
  refine ja 3 rfl rfl (.slice none 0 0) (rfl) ?_
  refine ja 4 rfl rfl (iK 0) (rfl) ?_
  refine nr ?_; intro U h; simp only [z0, z1] at h; subst h
  refine qA ?_
  refine ja 14 rfl rfl (vP rp 0) (rfl) ?_
  refine ja 15 rfl rfl (vP rp 0) (jn _ rfl _ rfl) ?_
  refine ja 16 rfl rfl (vP rp 0) (jf 36 _ 0 rfl _ _ rfl _ (by kernel_rfl)) ?_
  refine ja 17 rfl rfl (.slice ro (n * 64) rc) (jq 30 _ rfl rp 0 rfl 36 _ krp (na30 _) _ rfl) ?_
  refine ja 18 rfl rfl (nK (n * 64)) (jA Try.underlying30 _ rfl _ _ _ rfl _) ?_
  refine ja 19 rfl rfl (nK n) (zp _ _ _ rfl ((n * 64 : Nat) : Int) 64 _ rfl rfl (by decide) quoN (by omega) (by omega) _) ?_
  refine ja 5 rfl rfl (nK n) (rfl) ?_
  refine nr ?_; intro U h; simp only [z0, z1] at h; subst h
  refine qL (qE (qS ?_))
  refine ja 20 rfl rfl (nK n) (rfl) ?_
  refine ja 21 rfl rfl (vF) (jE 3 _ _ _ rfl ((n : Nat) : Int) 3 rfl rfl false (decide_eq_false (by omega)) _) ?_
  refine nr ?_; intro U h; simp only [z0, z1] at h; subst h
  refine qL (qF rfl (qK (qS ?_)))
  refine ja 23 rfl rfl (vP rp 0) (rfl) ?_
  refine ja 24 rfl rfl (vP rp 0) (jn _ rfl _ rfl) ?_
  refine ja 25 rfl rfl (vP rp 0) (jf 36 _ 0 rfl _ _ rfl _ (by kernel_rfl)) ?_
  refine ja 26 rfl rfl (.slice ro (n * 64) rc) (jq 30 _ rfl rp 0 rfl 36 _ krp (na30 _) _ rfl) ?_
  refine nr ?_; intro U h; simp only [z0, z1] at h; subst h
  refine jy 27 rfl rfl _ 31 Try.call31 rfl rfl _ rfl [.slice ro (n * 64) rc] rfl (ud _ ro rc n L (HN.gro GG) hLn (by omega)) ?_
  intro w1 G
  replace krp := G.has krp
  replace GG := GG.trans G
  clear G
  refine nr ?_; intro U h; simp only [z0, z1] at h; subst h
  refine ja 22 rfl rfl (.tuple #[.int .u64 (((cntE L).g : Nat) : Int), .int .u64 (((cntE L).u : Nat) : Int), .int .u64 (((cntE L).c : Nat) : Int)]) (rfl) ?_
  refine ja 28 rfl rfl (.int .u64 (((cntE L).g : Nat) : Int)) (rfl) ?_
  refine ja 29 rfl rfl (.int .u64 (((cntE L).u : Nat) : Int)) (rfl) ?_
  refine ja 30 rfl rfl (.int .u64 (((cntE L).c : Nat) : Int)) (rfl) ?_
  refine ja 6 rfl rfl (.int .u64 (((cntE L).g : Nat) : Int)) (rfl) ?_
  refine ja 7 rfl rfl (.int .u64 (((cntE L).u : Nat) : Int)) (rfl) ?_
  refine ja 8 rfl rfl (.int .u64 (((cntE L).c : Nat) : Int)) (rfl) ?_
  refine nr ?_; intro U h; simp only [z0, z1] at h; subst h
  refine qL (qE (qE ?_))
  refine jj ?_
  intro OPS hY
  have y3 := hY 3 34 rfl
  have y10 := hY 10 41 rfl
  clear hY
  refine ja 31 rfl rfl (.int .u64 (((cntE L).g : Nat) : Int)) (rfl) ?_
  refine ja 32 rfl rfl (.int .u64 (((cntE L).g / 9223372036854775808 : Nat) : Int)) (yE 75 64 _ _ rfl (cntE L).g 63 .u64 rfl rfl (by decide) _ rfl _) ?_
  refine ja 33 rfl rfl (vF) (jS 75 75 _ _ rfl ((cntE L).g / 9223372036854775808) 0 rfl rfl false (by first | exact decide_eq_true (by omega) | exact decide_eq_false (by omega)) _) ?_
  refine ja 34 rfl rfl (vF) (rfl) ?_
  refine je 35 rfl rfl y3 rfl (.int .u64 (((cntE L).u : Nat) : Int)) (rfl) ?_
  refine je 36 rfl rfl y3 rfl (nK n) (rfl) ?_
  refine je 37 rfl rfl y3 rfl (nK (n - 2)) (jR _ _ _ rfl ((n : Nat) : Int) 2 _ rfl rfl (by omega) (by omega) (by omega) _) ?_
  refine nr ?_; intro U h; simp only [z0, z1] at h; subst h
  refine je 38 rfl rfl y3 rfl (.int .u64 ((n - 2 : Nat) : Int)) (conv325 _ rfl (n - 2) (by omega) rfl _) ?_
  refine je 39 rfl rfl y3 rfl (vF) (jS 75 75 _ _ rfl (cntE L).u (n - 2) rfl rfl false (by first | exact decide_eq_true (by omega) | exact decide_eq_false (by omega)) _) ?_
  refine ja 40 rfl rfl (vF) (rfl) ?_
  refine ja 41 rfl rfl (vF) (rfl) ?_
  refine je 42 rfl rfl y10 rfl (.int .u64 (((cntE L).c : Nat) : Int)) (rfl) ?_
  refine je 43 rfl rfl y10 rfl (.int .u64 (((cntE L).u : Nat) : Int)) (rfl) ?_
  refine je 44 rfl rfl y10 rfl (vT) (jS 75 75 _ _ rfl (cntE L).c (cntE L).u rfl rfl true (by first | exact decide_eq_true (by omega) | exact decide_eq_false (by omega)) _) ?_
  refine nr ?_; intro U h; simp only [z0, z1] at h; subst h
  refine ja 45 rfl rfl (vT) (rfl) ?_
  refine nr ?_; intro U h; simp only [z0, z1] at h; subst h
  refine qL (qT rfl (qS ?_))
  refine ja 2 rfl rfl (.pointer none) (rfl) ?_
  refine ja 3 rfl rfl (.slice none 0 0) (rfl) ?_
  refine ja 4 rfl rfl (iK 2) (rfl) ?_
  refine nr ?_; intro U h; simp only [z0, z1] at h; subst h
  refine qL (qR (jr ?_))
  refine bodyPost_ret (results_tmp3 Try.results9 _ _ _) rfl ?_
  exact ⟨rfl, GG⟩
theorem VF (w : World) (rp B : Nat) (ro : Option Addr) (rc n : Nat) (L : List Nat) (pw dn : Int) (H : QK w rp B ro rc n L pw dn) (hn : 3 ≤ n) (h1 : (cntE L).g ≤ 9223372036854775807) (h2 : (cntE L).u ≤ n - 2) (h3 : (cntE L).c ≤ (cntE L).u) : Calls Try.prog 9 #[vP rp 0] w (OpenP w rp L (pick (cntE L).c (prs (reg L (cntE L).u)))) := by
  refine js Try.func9 rfl Try.ntmps9 [vP rp 0] [vP rp 0, uD, uD, uD, uD, uD, uD, uD, uD, uD, uD, uD, uD, uD, uD, uD, uD, uD, uD, uD, uD, uD, uD, uD, uD, uD, uD, uD, uD, uD, uD, uD, uD, uD, uD, uD, uD, uD, uD, uD, uD, uD, uD, uD, uD, uD, uD, uD, uD, uD, uD, uD, uD, uD, uD, uD, uD, uD, uD, uD, uD, uD, uD, uD, uD, uD, uD, uD, uD, uD, uD, uD, uD, uD, uD, uD, uD, uD, uD, uD, uD, uD, uD, uD, uD, uD, uD, uD, uD, uD, uD, uD, uD, uD, uD, uD, uD, uD, uD, uD, uD, uD, uD, uD, uD, uD, uD, uD, uD, uD] rfl ?_
  have GG := Gro.refl w
  have krp := H.box
  have hn4 := H.le
  have HN := H.row.nc
  have hfit := HN.fit
  have hLn := H.len
  have hlt := Ji H.byte
  have hlim : lim = 18446744073709551616 := rfl
  have hr0 : ((L.drop 128).take (64 * (cntE L).u)).length = 64 * (cntE L).u := by rw [List.length_take, List.length_drop]; omega
  refine qS ?_
  refine ja 2 rfl rfl (.pointer none) (rfl) ?_
  refine ja 3 rfl rfl (.slice none 0 0) (rfl) ?_
  refine ja 4 rfl rfl (iK 0) (rfl) ?_
  refine nr ?_; intro U h; simp only [z0, z1] at h; subst h
  refine qA ?_
  refine ja 14 rfl rfl (vP rp 0) (rfl) ?_
  refine ja 15 rfl rfl (vP rp 0) (jn _ rfl _ rfl) ?_
  refine ja 16 rfl rfl (vP rp 0) (jf 36 _ 0 rfl _ _ rfl _ (by kernel_rfl)) ?_
  refine ja 17 rfl rfl (.slice ro (n * 64) rc) (jq 30 _ rfl rp 0 rfl 36 _ krp (na30 _) _ rfl) ?_
  refine ja 18 rfl rfl (nK (n * 64)) (jA Try.underlying30 _ rfl _ _ _ rfl _) ?_
  refine ja 19 rfl rfl (nK n) (zp _ _ _ rfl ((n * 64 : Nat) : Int) 64 _ rfl rfl (by decide) quoN (by omega) (by omega) _) ?_
  refine ja 5 rfl rfl (nK n) (rfl) ?_
  refine nr ?_; intro U h; simp only [z0, z1] at h; subst h
  refine qL (qE (qS ?_))
  refine ja 20 rfl rfl (nK n) (rfl) ?_
  refine ja 21 rfl rfl (vF) (jE 3 _ _ _ rfl ((n : Nat) : Int) 3 rfl rfl false (decide_eq_false (by omega)) _) ?_
  refine nr ?_; intro U h; simp only [z0, z1] at h; subst h
  refine qL (qF rfl (qK (qS ?_)))
  refine ja 23 rfl rfl (vP rp 0) (rfl) ?_
  refine ja 24 rfl rfl (vP rp 0) (jn _ rfl _ rfl) ?_
  refine ja 25 rfl rfl (vP rp 0) (jf 36 _ 0 rfl _ _ rfl _ (by kernel_rfl)) ?_
  refine ja 26 rfl rfl (.slice ro (n * 64) rc) (jq 30 _ rfl rp 0 rfl 36 _ krp (na30 _) _ rfl) ?_
  refine nr ?_; intro U h; simp only [z0, z1] at h; subst h
  refine jy 27 rfl rfl _ 31 Try.call31 rfl rfl _ rfl [.slice ro (n * 64) rc] rfl (ud _ ro rc n L (HN.gro GG) hLn (by omega)) ?_
  intro w1 G
  replace krp := G.has krp
  replace GG := GG.trans G
  clear G
  refine nr ?_; intro U h; simp only [z0, z1] at h; subst h
  refine ja 22 rfl rfl (.tuple #[.int .u64 (((cntE L).g : Nat) : Int), .int .u64 (((cntE L).u : Nat) : Int), .int .u64 (((cntE L).c : Nat) : Int)]) (rfl) ?_
  refine ja 28 rfl rfl (.int .u64 (((cntE L).g : Nat) : Int)) (rfl) ?_
  refine ja 29 rfl rfl (.int .u64 (((cntE L).u : Nat) : Int)) (rfl) ?_
  refine ja 30 rfl rfl (.int .u64 (((cntE L).c : Nat) : Int)) (rfl) ?_
  refine ja 6 rfl rfl (.int .u64 (((cntE L).g : Nat) : Int)) (rfl) ?_
  refine ja 7 rfl rfl (.int .u64 (((cntE L).u : Nat) : Int)) (rfl) ?_
  refine ja 8 rfl rfl (.int .u64 (((cntE L).c : Nat) : Int)) (rfl) ?_
  refine nr ?_; intro U h; simp only [z0, z1] at h; subst h
  refine qL (qE (qE ?_))
  refine jj ?_
  intro OPS hY
  have y3 := hY 3 34 rfl
  have y10 := hY 10 41 rfl
  clear hY
  refine ja 31 rfl rfl (.int .u64 (((cntE L).g : Nat) : Int)) (rfl) ?_
  refine ja 32 rfl rfl (.int .u64 (((cntE L).g / 9223372036854775808 : Nat) : Int)) (yE 75 64 _ _ rfl (cntE L).g 63 .u64 rfl rfl (by decide) _ rfl _) ?_
  refine ja 33 rfl rfl (vF) (jS 75 75 _ _ rfl ((cntE L).g / 9223372036854775808) 0 rfl rfl false (by first | exact decide_eq_true (by omega) | exact decide_eq_false (by omega)) _) ?_
  refine ja 34 rfl rfl (vF) (rfl) ?_
  refine je 35 rfl rfl y3 rfl (.int .u64 (((cntE L).u : Nat) : Int)) (rfl) ?_
  refine je 36 rfl rfl y3 rfl (nK n) (rfl) ?_
  refine je 37 rfl rfl y3 rfl (nK (n - 2)) (jR _ _ _ rfl ((n : Nat) : Int) 2 _ rfl rfl (by omega) (by omega) (by omega) _) ?_
  refine nr ?_; intro U h; simp only [z0, z1] at h; subst h
  refine je 38 rfl rfl y3 rfl (.int .u64 ((n - 2 : Nat) : Int)) (conv325 _ rfl (n - 2) (by omega) rfl _) ?_
  refine je 39 rfl rfl y3 rfl (vF) (jS 75 75 _ _ rfl (cntE L).u (n - 2) rfl rfl false (by first | exact decide_eq_true (by omega) | exact decide_eq_false (by omega)) _) ?_
  refine ja 40 rfl rfl (vF) (rfl) ?_
  refine ja 41 rfl rfl (vF) (rfl) ?_
  refine je 42 rfl rfl y10 rfl (.int .u64 (((cntE L).c : Nat) : Int)) (rfl) ?_
  refine je 43 rfl rfl y10 rfl (.int .u64 (((cntE L).u : Nat) : Int)) (rfl) ?_
  refine je 44 rfl rfl y10 rfl (vF) (jS 75 75 _ _ rfl (cntE L).c (cntE L).u rfl rfl false (by first | exact decide_eq_true (by omega) | exact decide_eq_false (by omega)) _) ?_
  refine nr ?_; intro U h; simp only [z0, z1] at h; subst h
  refine ja 45 rfl rfl (vF) (rfl) ?_
  refine nr ?_; intro U h; simp only [z0, z1] at h; subst h
  refine qL (qF rfl (qK (qS ?_)))
  refine ja 9 rfl rfl (.slice none 0 0) (rfl) ?_
  refine nr ?_; intro U h; simp only [z0, z1] at h; subst h
  refine qA ?_
  refine ja 46 rfl rfl (vP rp 0) (rfl) ?_
  refine ja 47 rfl rfl (vP rp 0) (jn _ rfl _ rfl) ?_
  refine ja 48 rfl rfl (vP rp 0) (jf 36 _ 0 rfl _ _ rfl _ (by kernel_rfl)) ?_
  refine ja 49 rfl rfl (.slice ro (n * 64) rc) (jq 30 _ rfl rp 0 rfl 36 _ krp (na30 _) _ rfl) ?_
  refine ja 50 rfl rfl (.int .u64 (((cntE L).u : Nat) : Int)) (rfl) ?_
  refine ja 51 rfl rfl (iK (((cntE L).u : Nat) : Int)) (conv253 _ rfl (cntE L).u (by omega) rfl _) ?_
  refine ja 52 rfl rfl (iK ((64 * (cntE L).u : Nat) : Int)) (zb _ _ _ rfl 64 (((cntE L).u : Nat) : Int) _ rfl rfl (by omega) (by omega) (by omega) _) ?_
  refine nr ?_; intro U h; simp only [z0, z1] at h; subst h
  refine ja 53 rfl rfl (iK ((128 + 64 * (cntE L).u : Nat) : Int)) (jp _ _ _ rfl 128 ((64 * (cntE L).u : Nat) : Int) _ rfl rfl (by omega) (by omega) (by omega) _) ?_
  refine ja 54 rfl rfl (.slice (cutA ro rc 128) (((L.drop 128).take (64 * (cntE L).u)).length) (rc - 128)) ((Zj _ _ _ rfl ro (n * 64) rc 128 (64 * (cntE L).u) rfl rfl rfl (by omega) _).trans (by rw [hr0])) ?_
  refine ja 10 rfl rfl (.slice (cutA ro rc 128) (((L.drop 128).take (64 * (cntE L).u)).length) (rc - 128)) (rfl) ?_
  refine nr ?_; intro U h; simp only [z0, z1] at h; subst h
  refine qL (qE (qS ?_))
  refine ja 11 rfl rfl (.int .u64 0) (rfl) ?_
  refine nr ?_; intro U h; simp only [z0, z1] at h; subst h
  refine qL (qB ?_)
  refine jV (fun mz az wv => ∃ (k : Nat) (j : Nat) (aor : Option Addr) (capr : Nat) (rest : List Nat) (aq : Option Addr) (cq : Nat) (q : List RV) (us1 : Nat → Value), mz = (cntE L).c - k ∧ az = ⟨[vP rp 0, uD, us1 0, us1 1, us1 2, nK n, .int .u64 (((cntE L).g : Nat) : Int), .int .u64 (((cntE L).u : Nat) : Int), .int .u64 (((cntE L).c : Nat) : Int), .slice aq q.length cq, .slice aor rest.length capr, .int .u64 ((k : Nat) : Int), us1 3, us1 4, vP rp 0, vP rp 0, vP rp 0, .slice ro (n * 64) rc, nK (n * 64), nK n, nK n, vF, .tuple #[.int .u64 (((cntE L).g : Nat) : Int), .int .u64 (((cntE L).u : Nat) : Int), .int .u64 (((cntE L).c : Nat) : Int)], vP rp 0, vP rp 0, vP rp 0, .slice ro (n * 64) rc, .tuple #[.int .u64 (((cntE L).g : Nat) : Int), .int .u64 (((cntE L).u : Nat) : Int), .int .u64 (((cntE L).c : Nat) : Int)], .int .u64 (((cntE L).g : Nat) : Int), .int .u64 (((cntE L).u : Nat) : Int), .int .u64 (((cntE L).c : Nat) : Int), .int .u64 (((cntE L).g : Nat) : Int), .int .u64 (((cntE L).g / 9223372036854775808 : Nat) : Int), vF, vF, .int .u64 (((cntE L).u : Nat) : Int), nK n, nK (n - 2), .int .u64 ((n - 2 : Nat) : Int), vF, vF, vF, .int .u64 (((cntE L).c : Nat) : Int), .int .u64 (((cntE L).u : Nat) : Int), vF, vF, vP rp 0, vP rp 0, vP rp 0, .slice ro (n * 64) rc, .int .u64 (((cntE L).u : Nat) : Int), iK (((cntE L).u : Nat) : Int), iK ((64 * (cntE L).u : Nat) : Int), iK ((128 + 64 * (cntE L).u : Nat) : Int), .slice (cutA ro rc 128) (((L.drop 128).take (64 * (cntE L).u)).length) (rc - 128), us1 5, us1 6, us1 7, us1 8, us1 9, us1 10, us1 11, us1 12, us1 13, us1 14, us1 15, us1 16, us1 17, us1 18, us1 19, us1 20, us1 21, us1 22, us1 23, us1 24, us1 25, us1 26, us1 27, us1 28, us1 29, us1 30, us1 31, us1 32, us1 33, us1 34, us1 35, us1 36, us1 37, us1 38, us1 39, us1 40, us1 41, us1 42, us1 43, us1 44, us1 45, us1 46, us1 47, uD, uD, uD, uD, uD, uD, uD, uD, uD, uD, uD, uD].toArray, []⟩ ∧ k ≤ (cntE L).c ∧ j ≤ (cntE L).u ∧ q.length = k ∧ rest = (reg L (cntE L).u).drop (j * 64) ∧ prs (reg L (cntE L).u) = (prs rest).map ((q.map (·.l)) ++ ·) ∧ NC w .u8 aor capr rest ∧ Gro w wv ∧ LO wv w.heap.size aq cq q) ?_ _ ⟨0, 0, _, _, ((L.drop 128).take (64 * (cntE L).u)), none, 0, [], (fun kz => ([.pointer none, .slice none 0 0, iK 0, uD, uD, uD, uD, uD, uD, uD, uD, uD, uD, uD, uD, uD, uD, uD, uD, uD, uD, uD, uD, uD, uD, uD, uD, uD, uD, uD, uD, uD, uD, uD, uD, uD, uD, uD, uD, uD, uD, uD, uD, uD, uD, uD, uD, uD] : List Value).getD kz uD), rfl, rfl, Nat.zero_le _, Nat.zero_le _, rfl, (by rw [reg, Nat.mul_comm]; simp), (by rw [reg, Nat.mul_comm]; simp), HN.cutS 128 (64 * (cntE L).u) (by omega) (by omega), GG, LO.nil _ _⟩
  clear GG
  rintro mz az wv ⟨k, j, aor, capr, rest, aq, cq, q, us1, rfl, rfl, hk, hj, hq, hrest, hp, HNr, GG, HQ⟩
  have hrl := jcx hLn (by omega) hrest
  have hrb := HNr.lt256
  have hrf := HNr.fit
  refine qE (qS ?_)
  refine ja 55 rfl rfl (.int .u64 ((k : Nat) : Int)) (rfl) ?_
  refine ja 56 rfl rfl (.int .u64 (((cntE L).c : Nat) : Int)) (rfl) ?_
  refine nr ?_; intro U h; simp only [z0, z1] at h; subst h
  obtain ⟨p1, hp1⟩ : ∃ p, decide (k < (cntE L).c) = p := ⟨_, rfl⟩
  refine ja 57 rfl rfl (.bool p1) (zK 75 75 _ _ rfl k (cntE L).c rfl rfl p1 hp1 _) ?_
  refine nr ?_; intro U h; simp only [z0, z1] at h; subst h
  cases p1
  have hkn : k = (cntE L).c := by have := of_decide_eq_false hp1; omega
  refine qL (qF rfl (wp_exit (jL (jL (zC (jG (qE (qS ?_))))))))
  refine ja 98 rfl rfl (.slice aor rest.length capr) (rfl) ?_
  refine ja 99 rfl rfl (nK rest.length) (jA Try.underlying30 _ rfl _ _ _ rfl _) ?_
  refine nr ?_; intro U h; simp only [z0, z1] at h; subst h
  obtain ⟨p2, hp2⟩ : ∃ p, decide (0 < ((rest.length : Nat) : Int)) = p := ⟨_, rfl⟩
  refine ja 100 rfl rfl (.bool p2) (jJ 3 _ _ _ rfl ((rest.length : Nat) : Int) 0 rfl rfl p2 hp2 _) ?_
  refine nr ?_; intro U h; simp only [z0, z1] at h; subst h
  cases p2
  have h0 : rest = [] := List.eq_nil_of_length_eq_zero (by have := of_decide_eq_false hp2; omega)
  refine qL (qF rfl (qK (qS ?_)))
  refine ja 101 rfl rfl (vP rp 0) (rfl) ?_
  refine ja 102 rfl rfl (.int .u64 (((cntE L).g : Nat) : Int)) (rfl) ?_
  refine ja 103 rfl rfl (.int .u64 (((cntE L).u : Nat) : Int)) (rfl) ?_
  refine ja 104 rfl rfl (iK (((cntE L).u : Nat) : Int)) (conv253 _ rfl (cntE L).u (by omega) rfl _) ?_
  refine ja 105 rfl rfl (.int .u64 (((cntE L).c : Nat) : Int)) (rfl) ?_
  refine ja 106 rfl rfl (iK (((cntE L).c : Nat) : Int)) (conv253 _ rfl (cntE L).c (by omega) rfl _) ?_
  refine ja 107 rfl rfl (.agg (c79 (some ⟨rp, 0, none⟩) (((cntE L).g : Nat) : Int) (((cntE L).u : Nat) : Int) (((cntE L).c : Nat) : Int) false)) (jN 79 _ rfl [(0, vP rp 0), (1, .int .u64 (((cntE L).g : Nat) : Int)), (2, iK (((cntE L).u : Nat) : Int)), (3, iK (((cntE L).c : Nat) : Int))] rfl _ (by kernel_rfl)) ?_
  refine nr ?_; intro U h; simp only [z0, z1] at h; subst h
  refine zw 108 rfl rfl 79 _ rfl _ rfl (c79 (some ⟨rp, 0, none⟩) (((cntE L).g : Nat) : Int) (((cntE L).u : Nat) : Int) (((cntE L).c : Nat) : Int) false) rfl ?_
  intro w2 g1 G eg1 kg1
  have bg1 := jk GG eg1
  replace HQ := HQ.gro G
  replace GG := GG.trans G
  clear G eg1
  refine nr ?_; intro U h; simp only [z0, z1] at h; subst h
  refine ja 109 rfl rfl (.slice aq q.length cq) (rfl) ?_
  refine ja 2 rfl rfl (vP g1 0) (rfl) ?_
  refine ja 3 rfl rfl (.slice aq q.length cq) (rfl) ?_
  refine ja 4 rfl rfl (iK 0) (rfl) ?_
  refine nr ?_; intro U h; simp only [z0, z1] at h; subst h
  refine qL (qR ?_)
  refine bodyPost_ret (results_tmp3 Try.results9 _ _ _) rfl ?_
  have hP : pick (cntE L).c (prs (reg L (cntE L).u)) = some (q.map (·.l)) := by rw [hp, h0, vy, Option.map_some, List.append_nil]; exact QE (by rw [List.length_map]; omega)
  rw [hP]
  exact ⟨g1, aq, cq, q, rfl, rfl, GG, bg1, ⟨kg1⟩, HQ⟩
  have h0 : rest ≠ [] := fun hE => by rw [hE] at hp2; simp at hp2
  refine qL (qT rfl (qS ?_))
  refine ja 2 rfl rfl (.pointer none) (rfl) ?_
  refine ja 3 rfl rfl (.slice none 0 0) (rfl) ?_
  refine ja 4 rfl rfl (iK 2) (rfl) ?_
  refine nr ?_; intro U h; simp only [z0, z1] at h; subst h
  refine qL (qR (jr ?_))
  refine bodyPost_ret (results_tmp3 Try.results9 _ _ _) rfl ?_
  have hP : pick (cntE L).c (prs (reg L (cntE L).u)) = none := by rw [hp]; exact QD (by rw [List.length_map]; omega) h0
  rw [hP]
  exact ⟨rfl, GG⟩
  have hkn := of_decide_eq_true hp1
  refine qL (qT rfl (qK (qE (qB (qE (qS ?_))))))
  refine ja 60 rfl rfl (.slice aor rest.length capr) (rfl) ?_
  refine ja 61 rfl rfl (nK rest.length) (jA Try.underlying30 _ rfl _ _ _ rfl _) ?_
  refine nr ?_; intro U h; simp only [z0, z1] at h; subst h
  obtain ⟨p2, hp2⟩ : ∃ p, decide (((rest.length : Nat) : Int) = 0) = p := ⟨_, rfl⟩
  refine ja 62 rfl rfl (.bool p2) (jB 3 .i64 _ _ _ rfl Try.underlying3 ((rest.length : Nat) : Int) 0 rfl rfl p2 hp2 _) ?_
  refine nr ?_; intro U h; simp only [z0, z1] at h; subst h
  cases p2
  have h0 : rest.length ≠ 0 := by have := of_decide_eq_false hp2; omega
  obtain ⟨ad, hao, _⟩ := HNr.at (j := 0) (by omega)
  refine qL (qF rfl (qK (qE ?_)))
  refine jl (A := ?Ax1) 9 [(0, 63), (1, 64), (2, 65), (3, 66), (4, 67), (5, 68), (6, 69), (7, 70), (8, 71)] [.val (.slice aor rest.length capr), .val (.pointer (some (ad.add 0))), .val (.int .u8 ((rest.getD 0 0 : Nat) : Int)), .val (nK (rest.getD 0 0)), .val (nK (rest.getD 0 0 * 256)), .val (.slice aor rest.length capr), .val (.pointer (some (ad.add 1))), .val (.int .u8 ((rest.getD 1 0 : Nat) : Int)), .val (nK (rest.getD 1 0))] follows (by kernel_rfl) rfl ?hAx1 (jb ?o0x1 (jb ?o1x1 (jb ?o2x1 (jb ?o3x1 (jb ?o4x1 (jb ?o5x1 (jb ?o6x1 (jb ?o7x1 (jb ?o8x1 jF))))))))) ?restx1
  case hAx1 =>
    intro ptrs
    simp only [full, foldSlots, filledE, postE, List.foldl_cons, List.foldl_nil, List.getD_cons_zero, List.getD_cons_succ, jI, List.set_cons_zero, List.set_cons_succ]
    exact rfl
  case o0x1 => exact fun _ _ _ _ => jg (v := .slice aor rest.length capr) _ rfl rfl rfl
  case o1x1 => exact fun _ _ hw _ => jd (v := .pointer (some (ad.add 0))) rfl (zd bT _ _ rfl ad rest.length capr 0 (by exact congrArg (fun a => Value.slice a rest.length capr) hao) rfl (by omega) _)
  case o2x1 => exact fun _ _ hw _ => jd (v := .int .u8 ((rest.getD 0 0 : Nat) : Int)) rfl (zo bT _ rfl (ad.add 0) rfl _ _ ((HNr.gro (GG.drew.trans hw)).cell ad hao 0 (by omega)))
  case o3x1 => exact fun _ _ hw _ => jd (v := nK (rest.getD 0 0)) rfl (conv53 _ rfl (rest.getD 0 0) (zx hrb _) rfl _)
  case o4x1 => exact fun _ _ hw _ => jd (v := nK (rest.getD 0 0 * 256)) rfl (zb _ _ _ rfl ((rest.getD 0 0 : Nat) : Int) 256 _ rfl rfl (by omega) (by omega) (by have := zx hrb 0; omega) _)
  case o5x1 => exact fun _ _ _ _ => jg (v := .slice aor rest.length capr) _ rfl rfl rfl
  case o6x1 => exact fun _ _ hw _ => jd (v := .pointer (some (ad.add 1))) rfl (zd bT _ _ rfl ad rest.length capr 1 (by exact congrArg (fun a => Value.slice a rest.length capr) hao) rfl (by omega) _)
  case o7x1 => exact fun _ _ hw _ => jd (v := .int .u8 ((rest.getD 1 0 : Nat) : Int)) rfl (zo bT _ rfl (ad.add 1) rfl _ _ ((HNr.gro (GG.drew.trans hw)).cell ad hao 1 (by omega)))
  case o8x1 => exact fun _ _ hw _ => jd (v := nK (rest.getD 1 0)) rfl (conv53 _ rfl (rest.getD 1 0) (zx hrb _) rfl _)
  intro ptrs w2 GD hxE
  simp only [List.drop_succ_cons, List.drop_zero]
  replace HQ := HQ.gro ((Gro.refl _).drew.trans GD)
  replace GG := GG.drew.trans GD
  clear GD
  refine ja 72 rfl rfl (iK (((rest.getD 0 0 * 256 + rest.getD 1 0) : Nat) : Int)) (jp _ _ _ rfl ((rest.getD 0 0 * 256 : Nat) : Int) ((rest.getD 1 0 : Nat) : Int) _ rfl rfl (by omega) (by omega) (by have := zx hrb 0; have := zx hrb 1; omega) _) ?_
  refine ja 12 rfl rfl (iK (((rest.getD 0 0 * 256 + rest.getD 1 0) : Nat) : Int)) (rfl) ?_
  refine nr ?_; intro U h; simp only [z0, z1] at h; subst h
  refine qA ?_
  obtain ⟨mm, hmm⟩ : ∃ mm, (rest.getD 0 0 * 256 + rest.getD 1 0) = mm := ⟨_, rfl⟩
  have hM : recM rest = mm := hmm
  have hml : mm < 65536 := by rw [← hmm]; have := zx hrb 0; have := zx hrb 1; omega
  have hsn : secN mm ≤ 1030 ∧ 1 ≤ secN mm := by unfold secN; omega
  have hm2 : mm + 2 ≤ secN mm * 64 := by unfold secN; omega
  rw [hmm]
  refine ja 73 rfl rfl (nK mm) (rfl) ?_
  refine ja 74 rfl rfl (nK (mm + 2)) (jp _ _ _ rfl ((mm : Nat) : Int) 2 _ rfl rfl (by omega) (by omega) (by omega) _) ?_
  refine ja 75 rfl rfl (nK (mm + 65)) (jp _ _ _ rfl ((mm + 2 : Nat) : Int) 63 _ rfl rfl (by omega) (by omega) (by omega) _) ?_
  refine ja 76 rfl rfl (nK (secN mm)) (zp _ _ _ rfl ((mm + 65 : Nat) : Int) 64 _ rfl rfl (by decide) (tdivN _ 64) (by omega) (by omega) _) ?_
  refine ja 77 rfl rfl (nK (secN mm * 64)) (zb _ _ _ rfl ((secN mm : Nat) : Int) 64 _ rfl rfl (by omega) (by omega) (by omega) _) ?_
  refine ja 13 rfl rfl (nK (secN mm * 64)) (rfl) ?_
  refine nr ?_; intro U h; simp only [z0, z1] at h; subst h
  refine qL (qE (qE ?_))
  refine jj ?_
  intro OPS hY
  have y2 := hY 2 80 rfl
  clear hY
  refine ja 78 rfl rfl (nK mm) (rfl) ?_
  refine nr ?_; intro U h; simp only [z0, z1] at h; subst h
  obtain ⟨p3, hp3⟩ : ∃ p, decide (1024 < ((mm : Nat) : Int)) = p := ⟨_, rfl⟩
  refine ja 79 rfl rfl (.bool p3) (jJ 3 _ _ _ rfl ((mm : Nat) : Int) 1024 rfl rfl p3 hp3 _) ?_
  refine nr ?_; intro U h; simp only [z0, z1] at h; subst h
  cases p3
  have h24 : mm ≤ 1024 := by have := of_decide_eq_false hp3; omega
  refine ja _ rfl rfl (vF) rfl ?_
  refine je 81 rfl rfl y2 rfl (nK (secN mm * 64)) (rfl) ?_
  refine je 82 rfl rfl y2 rfl (.slice aor rest.length capr) (rfl) ?_
  refine je 83 rfl rfl y2 rfl (nK rest.length) (jA Try.underlying30 _ rfl _ _ _ rfl _) ?_
  refine nr ?_; intro U h; simp only [z0, z1] at h; subst h
  obtain ⟨p4, hp4⟩ : ∃ p, decide (((rest.length : Nat) : Int) < ((secN mm * 64 : Nat) : Int)) = p := ⟨_, rfl⟩
  refine je 84 rfl rfl y2 rfl (.bool p4) (jJ 3 _ _ _ rfl ((secN mm * 64 : Nat) : Int) ((rest.length : Nat) : Int) rfl rfl p4 hp4 _) ?_
  refine nr ?_; intro U h; simp only [z0, z1] at h; subst h
  cases p4
  have hwd : secN mm * 64 ≤ rest.length := by have := of_decide_eq_false hp4; omega
  refine ja _ rfl rfl (vF) rfl ?_
  refine nr ?_; intro U h; simp only [z0, z1] at h; subst h
  refine qL (qF rfl (qK (qS ?_)))
  refine ja 86 rfl rfl (.slice aq q.length cq) (rfl) ?_
  refine nr ?_; intro U h; simp only [z0, z1] at h; subst h
  have hxl : ((rest.drop 2).take mm).length = mm := by rw [List.length_take, List.length_drop]; omega
  refine yM 87 rfl rfl 30 0 _ rfl [] rfl #[] 5 (by kernel_rfl) ?_
  intro w3 gb G1 egb kgb
  refine nr ?_; intro U h; simp only [z0, z1] at h; subst h
  refine ja 88 rfl rfl (.slice aor rest.length capr) (rfl) ?_
  refine ja 89 rfl rfl (nK mm) (rfl) ?_
  refine ja 90 rfl rfl (nK (2 + mm)) (jp _ _ _ rfl 2 ((mm : Nat) : Int) _ rfl rfl (by omega) (by omega) (by omega) _) ?_
  refine ja 91 rfl rfl (.slice (cutA aor capr 2) mm (capr - 2)) (Zj _ _ _ rfl aor rest.length capr 2 mm rfl rfl rfl (by omega) _) ?_
  refine nr ?_; intro U h; simp only [z0, z1] at h; subst h
  have HO1 : OB _ 5 .u8 gb (some ⟨gb, 0, none⟩) 0 [] := OB.made kgb (Nat.le_refl _) (Nat.le_refl _) (Nat.zero_le _) rfl rfl (fun x hx => by cases hx)
  refine vD bT 92 rfl rfl _ _ rfl rfl HO1 (l' := ((rest.drop 2).take mm)) (by rw [hxl]; rfl) ((HNr.cutS 2 mm (by omega) (by omega)).gro (GG.trans G1)) (by rw [hxl]; simp only [List.length_nil]; omega) (by decide) (Nat.le_of_lt (ji kgb)) ?_
  intro ao4 cap4 w4 HO2 BB
  rw [List.nil_append] at HO2
  simp only [List.nil_append]
  have G := zI G1 BB (Nat.le_of_eq egb)
  have bgb := jk GG egb
  have HO := HO2.mono bgb
  clear HO1 HO2 BB G1 egb kgb
  replace HQ := HQ.gro G
  replace GG := GG.trans G
  clear G
  refine nr ?_; intro U h; simp only [z0, z1] at h; subst h
  refine yM 93 rfl rfl 22 1 _ rfl [(0, .slice ao4 ((rest.drop 2).take mm).length cap4)] rfl #[.slice ao4 ((rest.drop 2).take mm).length cap4] 30 (by kernel_rfl) ?_
  intro w5 gB G eB kgB
  clear eB
  replace HQ := HQ.gro G
  replace HO := HO.gro G
  replace GG := GG.trans G
  clear G
  refine nr ?_; intro U h; simp only [z0, z1] at h; subst h
  refine Uq rT 94 rfl rfl _ _ rfl rfl HQ.ox rfl (Vr kgB rfl) (by omega) (by decide) GG.size ?_
  intro aq2 cq2 w6 HX GX
  have HQ2 := LO.app (x := ⟨ao4, cap4, ((rest.drop 2).take mm)⟩) HQ HX GX HO
  replace GG := GX.gro GG HQ.ox.base
  clear HX GX HQ HO kgB
  refine nr ?_; intro U h; simp only [z0, z1] at h; subst h
  refine ja 9 rfl rfl (.slice aq2 (q.length + 1) cq2) (rfl) ?_
  refine nr ?_; intro U h; simp only [z0, z1] at h; subst h
  refine qL (qG ?_)
  refine ja 95 rfl rfl (.slice aor rest.length capr) (rfl) ?_
  refine ja 96 rfl rfl (nK (secN mm * 64)) (rfl) ?_
  refine ja 97 rfl rfl (.slice (cutA aor capr (secN mm * 64)) (rest.length - secN mm * 64) (capr - secN mm * 64)) (uQ _ _ rfl aor rest.length capr (secN mm * 64) rfl rfl (by omega) _) ?_
  refine ja 10 rfl rfl (.slice (cutA aor capr (secN mm * 64)) (rest.length - secN mm * 64) (capr - secN mm * 64)) (rfl) ?_
  refine nr ?_; intro U h; simp only [z0, z1] at h; subst h
  refine qN (zh (jG (qG ?_)))
  refine ja 58 rfl rfl (.int .u64 ((k : Nat) : Int)) (rfl) ?_
  refine ja 59 rfl rfl (.int .u64 ((k + 1 : Nat) : Int)) (yf 75 75 _ _ rfl k 1 rfl rfl (by omega) _) ?_
  refine ja 11 rfl rfl (.int .u64 ((k + 1 : Nat) : Int)) (rfl) ?_
  refine nr ?_; intro U h; simp only [z0, z1] at h; subst h
  refine qL ?_
  have hne : rest ≠ [] := fun hE => by rw [hE] at h0; exact h0 rfl
  have hq2 := vh hne (by rw [hM]; exact h24) (by rw [hM]; exact hwd)
  rw [hM] at hq2
  exact ⟨_, (by omega : (cntE L).c - (k + 1) < (cntE L).c - k), k + 1, j + secN mm, _, _, rest.drop (secN mm * 64), aq2, cq2, _, (fun kz => ([us1 0, us1 1, us1 2, nK mm, nK (secN mm * 64), .int .u64 ((k : Nat) : Int), .int .u64 (((cntE L).c : Nat) : Int), vT, .int .u64 ((k : Nat) : Int), .int .u64 ((k + 1 : Nat) : Int), .slice aor rest.length capr, nK rest.length, vF, .slice aor rest.length capr, .pointer (some (ad.add 0)), .int .u8 ((rest.getD 0 0 : Nat) : Int), nK (rest.getD 0 0), nK (rest.getD 0 0 * 256), .slice aor rest.length capr, .pointer (some (ad.add 1)), .int .u8 ((rest.getD 1 0 : Nat) : Int), nK (rest.getD 1 0), nK mm, nK mm, nK (mm + 2), nK (mm + 65), nK (secN mm), nK (secN mm * 64), nK mm, vF, vF, nK (secN mm * 64), .slice aor rest.length capr, nK rest.length, vF, vF, .slice aq q.length cq, .slice (some ⟨gb, 0, none⟩) (([] : List Nat).length) 0, .slice aor rest.length capr, nK mm, nK (2 + mm), .slice (cutA aor capr 2) mm (capr - 2), .slice ao4 (((rest.drop 2).take mm).length) cap4, .slice (some ⟨gB, 0, none⟩) 1 1, .slice aq2 (q.length + 1) cq2, .slice aor rest.length capr, nK (secN mm * 64), .slice (cutA aor capr (secN mm * 64)) (rest.length - secN mm * 64) (capr - secN mm * 64)] : List Value).getD kz uD), rfl, (by rw [List.length_append, List.length_drop]; rfl), (by omega), (by omega), (by rw [List.length_append, hq]; rfl), (by rw [hrest, List.drop_drop, ← Nat.add_mul]), (by rw [hp, hq2]; cases prs (rest.drop (secN mm * 64)) <;> simp), HNr.cutE (secN mm * 64) (by omega), GG, HQ2⟩
  have hbad : 1024 < recM rest ∨ rest.length < secN (recM rest) * 64 := .inr (by rw [hM]; have := of_decide_eq_true hp4; omega)
  refine ja 85 rfl rfl (vT) (rfl) ?_
  refine nr ?_; intro U h; simp only [z0, z1] at h; subst h
  refine qL (qT rfl (qS ?_))
  refine ja 2 rfl rfl (.pointer none) (rfl) ?_
  refine ja 3 rfl rfl (.slice none 0 0) (rfl) ?_
  refine ja 4 rfl rfl (iK 2) (rfl) ?_
  refine nr ?_; intro U h; simp only [z0, z1] at h; subst h
  refine qL (qR (jr (zk (jr (jr (zk (jr ?_)))))))
  refine bodyPost_ret (results_tmp3 Try.results9 _ _ _) rfl ?_
  have hne : rest ≠ [] := fun hE => by rw [hE] at h0; exact h0 rfl
  have hP : pick (cntE L).c (prs (reg L (cntE L).u)) = none := by rw [hp, ug hne hbad]; rfl
  rw [hP]
  exact ⟨rfl, GG⟩
  have hbad : 1024 < recM rest ∨ rest.length < secN (recM rest) * 64 := .inl (by rw [hM]; have := of_decide_eq_true hp3; omega)
  refine ja 80 rfl rfl (vT) (rfl) ?_
  refine jo 81 rfl rfl y2 rfl ?_
  refine jo 82 rfl rfl y2 rfl ?_
  refine jo 83 rfl rfl y2 rfl ?_
  refine jo 84 rfl rfl y2 rfl ?_
  refine ja 85 rfl rfl (vT) (rfl) ?_
  refine nr ?_; intro U h; simp only [z0, z1] at h; subst h
  refine qL (qT rfl (qS ?_))
  refine ja 2 rfl rfl (.pointer none) (rfl) ?_
  refine ja 3 rfl rfl (.slice none 0 0) (rfl) ?_
  refine ja 4 rfl rfl (iK 2) (rfl) ?_
  refine nr ?_; intro U h; simp only [z0, z1] at h; subst h
  refine qL (qR (jr (zk (jr (jr (zk (jr ?_)))))))
  refine bodyPost_ret (results_tmp3 Try.results9 _ _ _) rfl ?_
  have hne : rest ≠ [] := fun hE => by rw [hE] at h0; exact h0 rfl
  have hP : pick (cntE L).c (prs (reg L (cntE L).u)) = none := by rw [hp, ug hne hbad]; rfl
  rw [hP]
  exact ⟨rfl, GG⟩
  have h0 : rest = [] := List.eq_nil_of_length_eq_zero (by have := of_decide_eq_true hp2; omega)
  refine qL (qT rfl (qS ?_))
  refine ja 2 rfl rfl (.pointer none) (rfl) ?_
  refine ja 3 rfl rfl (.slice none 0 0) (rfl) ?_
  refine ja 4 rfl rfl (iK 2) (rfl) ?_
  refine nr ?_; intro U h; simp only [z0, z1] at h; subst h
  refine qL (qR (jr (zk (jr (jr (zk (jr ?_)))))))
  refine bodyPost_ret (results_tmp3 Try.results9 _ _ _) rfl ?_
  have hP : pick (cntE L).c (prs (reg L (cntE L).u)) = none := by rw [hp, h0, vy, Option.map_some, List.append_nil]; exact YZ (by rw [List.length_map]; omega)
  rw [hP]
  exact ⟨rfl, GG⟩
theorem Qw (w : World) (rp B : Nat) (ro : Option Addr) (rc n : Nat) (L : List Nat) (pw dn : Int) (H : QK w rp B ro rc n L pw dn) (hn : 3 ≤ n) : Calls Try.prog 9 #[.pointer (some ⟨rp, 0, none⟩)] w (OpenP w rp L (opE L n)) := by
  by_cases h1 : 9223372036854775807 < (cntE L).g
  · rw [opE, if_pos (.inl h1)]
    exact KS w rp B ro rc n L pw dn H hn h1
  by_cases h2 : n - 2 < (cntE L).u
  · rw [opE, if_pos (.inr (.inl h2))]
    exact KR w rp B ro rc n L pw dn H hn (by omega) h2
  by_cases h3 : (cntE L).u < (cntE L).c
  · rw [opE, if_pos (.inr (.inr h3))]
    exact KQ w rp B ro rc n L pw dn H hn (by omega) (by omega) h3
  rw [QI (by omega) (by omega) (by omega)]
  exact VF w rp B ro rc n L pw dn H hn (by omega) (by omega) (by omega)
theorem vL (w : World) (rp B : Nat) (ro : Option Addr) (rc n : Nat) (L : List Nat) (pw dn : Int) (H : QK w rp B ro rc n L pw dn) (hn : 3 ≤ n) (rs : List (List Nat)) (ho : opE L n = some rs) : Calls Try.prog 9 #[.pointer (some ⟨rp, 0, none⟩)] w fun e w' => ∃ mp ao cap q, e = .returned (.tuple #[.pointer (some ⟨mp, 0, none⟩), .slice ao (List.length q) cap, .int .i64 0]) ∧ rs = q.map (·.l) ∧ Gro w w' ∧ w.heap.size ≤ mp ∧ MK w' mp rp (cntE L) false ∧ LO w' w.heap.size ao cap q := by
  have := Qw w rp B ro rc n L pw dn H hn
  rw [ho] at this
  exact this
end Go.Proofs.Ytgfnjekpafempaa
