import Derived.Test.YtgfnjekpafempaaGreatBE12
import Derived.Test.YtgfnjekpafempaaGreatBAb
namespace Go.Proofs.YtgfnjekpafempaaGreat
open Go.Proofs.Tryz
set_option maxHeartbeats 4000000
set_option maxRecDepth 100000
open Go.RowKit
theorem jdd {l : List Nat} (h : l ≠ []) : prs l = none ∨ ∃ r rs, prs l = some (r :: rs) := by
  by_cases hb : 1024 < recM l ∨ l.length < secN (recM l) * 64
  · exact .inl (uy h hb)
  · rw [vz h (by omega) (by omega)]
    cases prs (l.drop (secN (recM l) * 64)) with
    | none => exact .inl rfl
    | some rs => exact .inr ⟨_, _, rfl⟩
def pick (c : Nat) (r : Option (List (List Nat))) : Option (List (List Nat)) := r.bind fun rs => if rs.length = c then some rs else none
theorem Ul {c : Nat} {a : List (List Nat)} (h : a.length ≠ c) : pick c (some a) = none := by rw [pick, Option.bind_some, if_neg h]
theorem jac {c : Nat} {a : List (List Nat)} (h : a.length = c) : pick c (some a) = some a := by rw [pick, Option.bind_some, if_pos h]
theorem jab {c : Nat} {a : List (List Nat)} (h : a.length = c) {l : List Nat} (hl : l ≠ []) : pick c ((prs l).map (a ++ ·)) = none := by
  rcases jdd hl with h1 | ⟨r, rs, h1⟩
  · rw [h1]; rfl
  · rw [h1, Option.map_some]
    exact Ul (by rw [List.length_append, List.length_cons]; omega)
theorem jae {L : List Nat} {n : Nat} (h1 : (cntE L).g ≤ 9223372036854775807) (h2 : (cntE L).u ≤ n - 2) (h3 : (cntE L).c ≤ (cntE L).u) : opE L n = pick (cntE L).c (prs (reg L (cntE L).u)) := by
  rw [opE, if_neg (by omega)]
  rfl
def OpenP (w : World) (rp : Nat) (L : List Nat) (r : Option (List (List Nat))) (e : Ending) (w' : World) : Prop :=
  match r with
  | none => e = .returned (.tuple #[.pointer none, .slice none 0 0, .int .i64 2]) ∧ Gro w w'
  | some rs => ∃ mp ao cap q, e = .returned (.tuple #[.pointer (some ⟨mp, 0, none⟩), .slice ao (List.length q) cap, .int .i64 0]) ∧ rs = q.map (·.l) ∧ Gro w w' ∧ w.heap.size ≤ mp ∧ MK w' mp rp (cntE L) false ∧ LO w' w.heap.size ao cap q
theorem reg_end {L : List Nat} {n u j : Nat} (h : L.length = n * 64) (hu : u + 2 ≤ n) {rest : List Nat} (hr : rest = (reg L u).drop (j * 64)) : rest.length = u * 64 - j * 64 := by
  rw [hr, List.length_drop, vM h hu]
theorem Ud (w : World) (rp B : Nat) (ro : Option Addr) (rc n : Nat) (L : List Nat) (pw dn : Int) (H : QK w rp B ro rc n L pw dn) (hn : n < 3) : Calls Tryz.prog 29 #[vP rp 0] w fun e w' => e = .returned (.tuple #[.pointer none, .slice none 0 0, iK 1]) ∧ Gro w w' := by
  refine eN func29 rfl ntmps29 [vP rp 0] ?_
  have GG := Gro.refl w
  have krp := H.box
  have hn4 := H.le
  have HN := H.row.nc
  have hfit := HN.fit
  have hLn := H.len
  have hlt := uM H.byte
  have hlim : lim = 18446744073709551616 := rfl
  refine qE (qG (mv (.pointer none) rfl (mv (.slice none 0 0) rfl (mv (iK 0) rfl (nq ?_)))))
  refine qL (qE (qG (mv (vP rp 0) rfl (sv (vP rp 0) (jl _ rfl _ rfl) rfl (sv (vP rp 0) (je 47 _ 0 rfl _ _ rfl _ (by kernel_rfl)) rfl (sv (.slice ro (n * 64) rc) (jo 27 _ rfl rp 0 rfl 47 _ krp (na27 _) _ rfl) rfl (sv (nK (n * 64)) (js underlying27 _ rfl _ _ _ rfl _) rfl (sv (nK n) (zn _ _ _ rfl ((n * 64 : Nat) : Int) 64 _ rfl rfl (by decide) quoN (by omega) (by omega) _) rfl ?_))))))))
  refine nq ?_
  refine mv (nK n) rfl (nq ?_)
  refine qL (qE (qE (qG (mv (nK n) rfl (sv (vT) (jv 3 _ _ _ rfl ((n : Nat) : Int) 3 rfl rfl true (decide_eq_true (by omega)) _) rfl (nq ?_))))))
  refine qL (qT rfl (qE (qG (mv (.pointer none) rfl (mv (.slice none 0 0) rfl (mv (iK 1) rfl (nq ?_)))))))
  refine qL (qR (jm ?_))
  refine bodyPost_ret (results_tmp3 results29 _ _ _) rfl ?_
  exact ⟨rfl, GG⟩
theorem jco (w : World) (rp B : Nat) (ro : Option Addr) (rc n : Nat) (L : List Nat) (pw dn : Int) (H : QK w rp B ro rc n L pw dn) (hn : 3 ≤ n) (h1 : 9223372036854775807 < (cntE L).g) : Calls Tryz.prog 29 #[vP rp 0] w fun e w' => e = .returned (.tuple #[.pointer none, .slice none 0 0, iK 2]) ∧ Gro w w' := by
  refine eN func29 rfl ntmps29 [vP rp 0] ?_
  have GG := Gro.refl w
  have krp := H.box
  have hn4 := H.le
  have HN := H.row.nc
  have hfit := HN.fit
  have hLn := H.len
  have hlt := uM H.byte
  have hlim : lim = 18446744073709551616 := rfl
  refine qE (qG (mv (.pointer none) rfl (mv (.slice none 0 0) rfl (mv (iK 0) rfl (nq ?_)))))
  refine qL (qE (qG (mv (vP rp 0) rfl (sv (vP rp 0) (jl _ rfl _ rfl) rfl (sv (vP rp 0) (je 47 _ 0 rfl _ _ rfl _ (by kernel_rfl)) rfl (sv (.slice ro (n * 64) rc) (jo 27 _ rfl rp 0 rfl 47 _ krp (na27 _) _ rfl) rfl (sv (nK (n * 64)) (js underlying27 _ rfl _ _ _ rfl _) rfl (sv (nK n) (zn _ _ _ rfl ((n * 64 : Nat) : Int) 64 _ rfl rfl (by decide) quoN (by omega) (by omega) _) rfl ?_))))))))
  refine nq ?_
  refine mv (nK n) rfl (nq ?_)
  refine qL (qE (qE (qG (mv (nK n) rfl (sv (vF) (jv 3 _ _ _ rfl ((n : Nat) : Int) 3 rfl rfl false (decide_eq_false (by omega)) _) rfl (nq ?_))))))
  refine qL (qF rfl (qK (qE (qG (mv (vP rp 0) rfl (sv (vP rp 0) (jl _ rfl _ rfl) rfl (sv (vP rp 0) (je 47 _ 0 rfl _ _ rfl _ (by kernel_rfl)) rfl (sv (.slice ro (n * 64) rc) (jo 27 _ rfl rp 0 rfl 47 _ krp (na27 _) _ rfl) rfl (nq ?_)))))))))
  refine jr 27 rfl rfl _ 54 call54 rfl rfl _ rfl [.slice ro (n * 64) rc] rfl (uw _ ro rc n L (HN.gro GG) hLn (by omega)) ?_
  intro w1 G
  replace krp := G.has krp
  replace GG := GG.trans G
  clear G
  refine nq ?_
  refine mv (.tuple #[.int .u64 (((cntE L).g : Nat) : Int), .int .u64 (((cntE L).u : Nat) : Int), .int .u64 (((cntE L).c : Nat) : Int)]) rfl (mv (.int .u64 (((cntE L).g : Nat) : Int)) rfl (mv (.int .u64 (((cntE L).u : Nat) : Int)) rfl (mv (.int .u64 (((cntE L).c : Nat) : Int)) rfl (mv (.int .u64 (((cntE L).g : Nat) : Int)) rfl (mv (.int .u64 (((cntE L).u : Nat) : Int)) rfl ?_)))))
  refine nq ?_
  refine mv (.int .u64 (((cntE L).c : Nat) : Int)) rfl (nq ?_)
  refine qL (qE (qE ?_))
  refine jg ?_
  intro OPS hY
  have y3 := hY 3 34 rfl
  have y10 := hY 10 41 rfl
  clear hY
  refine mv (.int .u64 (((cntE L).g : Nat) : Int)) rfl (sv (.int .u64 (((cntE L).g / 9223372036854775808 : Nat) : Int)) (yL 64 28 _ _ rfl (cntE L).g 63 .u64 rfl rfl (by decide) _ rfl _) rfl (sv (vT) (jR 64 64 _ _ rfl ((cntE L).g / 9223372036854775808) 0 rfl rfl true (by first | exact decide_eq_true (by omega) | exact decide_eq_false (by omega)) _) rfl (mv (vT) rfl (jk 35 rfl rfl y3 rfl (jk 36 rfl rfl y3 rfl ?_)))))
  refine nq ?_
  refine jk 37 rfl rfl y3 rfl (jk 38 rfl rfl y3 rfl (jk 39 rfl rfl y3 rfl (mv (vT) rfl (mv (vT) rfl (jk 42 rfl rfl y10 rfl ?_)))))
  refine nq ?_
  refine jk 43 rfl rfl y10 rfl (jk 44 rfl rfl y10 rfl (mv (vT) rfl (nq ?_)))
  refine qL (qT rfl (qE (qG (mv (.pointer none) rfl (mv (.slice none 0 0) rfl (mv (iK 2) rfl (nq ?_)))))))
  refine qL (qR (jm ?_))
  refine bodyPost_ret (results_tmp3 results29 _ _ _) rfl ?_
  exact ⟨rfl, GG⟩
theorem jcn (w : World) (rp B : Nat) (ro : Option Addr) (rc n : Nat) (L : List Nat) (pw dn : Int) (H : QK w rp B ro rc n L pw dn) (hn : 3 ≤ n) (h1 : (cntE L).g ≤ 9223372036854775807) (h2 : n - 2 < (cntE L).u) : Calls Tryz.prog 29 #[vP rp 0] w fun e w' => e = .returned (.tuple #[.pointer none, .slice none 0 0, iK 2]) ∧ Gro w w' := by
  refine eN func29 rfl ntmps29 [vP rp 0] ?_
  have GG := Gro.refl w
  have krp := H.box
  have hn4 := H.le
  have HN := H.row.nc
  have hfit := HN.fit
  have hLn := H.len
  have hlt := uM H.byte
  have hlim : lim = 18446744073709551616 := rfl
  refine qE (qG (mv (.pointer none) rfl (mv (.slice none 0 0) rfl (mv (iK 0) rfl (nq ?_)))))
  refine qL (qE (qG (mv (vP rp 0) rfl (sv (vP rp 0) (jl _ rfl _ rfl) rfl (sv (vP rp 0) (je 47 _ 0 rfl _ _ rfl _ (by kernel_rfl)) rfl (sv (.slice ro (n * 64) rc) (jo 27 _ rfl rp 0 rfl 47 _ krp (na27 _) _ rfl) rfl (sv (nK (n * 64)) (js underlying27 _ rfl _ _ _ rfl _) rfl (sv (nK n) (zn _ _ _ rfl ((n * 64 : Nat) : Int) 64 _ rfl rfl (by decide) quoN (by omega) (by omega) _) rfl ?_))))))))
  refine nq ?_
  refine mv (nK n) rfl (nq ?_)
  refine qL (qE (qE (qG (mv (nK n) rfl (sv (vF) (jv 3 _ _ _ rfl ((n : Nat) : Int) 3 rfl rfl false (decide_eq_false (by omega)) _) rfl (nq ?_))))))
  refine qL (qF rfl (qK (qE (qG (mv (vP rp 0) rfl (sv (vP rp 0) (jl _ rfl _ rfl) rfl (sv (vP rp 0) (je 47 _ 0 rfl _ _ rfl _ (by kernel_rfl)) rfl (sv (.slice ro (n * 64) rc) (jo 27 _ rfl rp 0 rfl 47 _ krp (na27 _) _ rfl) rfl (nq ?_)))))))))
  refine jr 27 rfl rfl _ 54 call54 rfl rfl _ rfl [.slice ro (n * 64) rc] rfl (uw _ ro rc n L (HN.gro GG) hLn (by omega)) ?_
  intro w1 G
  replace krp := G.has krp
  replace GG := GG.trans G
  clear G
  refine nq ?_
  refine mv (.tuple #[.int .u64 (((cntE L).g : Nat) : Int), .int .u64 (((cntE L).u : Nat) : Int), .int .u64 (((cntE L).c : Nat) : Int)]) rfl (mv (.int .u64 (((cntE L).g : Nat) : Int)) rfl (mv (.int .u64 (((cntE L).u : Nat) : Int)) rfl (mv (.int .u64 (((cntE L).c : Nat) : Int)) rfl (mv (.int .u64 (((cntE L).g : Nat) : Int)) rfl (mv (.int .u64 (((cntE L).u : Nat) : Int)) rfl ?_)))))
  refine nq ?_
  refine mv (.int .u64 (((cntE L).c : Nat) : Int)) rfl (nq ?_)
  refine qL (qE (qE ?_))
  refine jg ?_
  intro OPS hY
  have y3 := hY 3 34 rfl
  have y10 := hY 10 41 rfl
  clear hY
  refine mv (.int .u64 (((cntE L).g : Nat) : Int)) rfl (sv (.int .u64 (((cntE L).g / 9223372036854775808 : Nat) : Int)) (yL 64 28 _ _ rfl (cntE L).g 63 .u64 rfl rfl (by decide) _ rfl _) rfl (sv (vF) (jR 64 64 _ _ rfl ((cntE L).g / 9223372036854775808) 0 rfl rfl false (by first | exact decide_eq_true (by omega) | exact decide_eq_false (by omega)) _) rfl (mv (vF) rfl (jd 35 rfl rfl y3 rfl (.int .u64 (((cntE L).u : Nat) : Int)) (rfl) (jd 36 rfl rfl y3 rfl (nK n) (rfl) ?_)))))
  refine nq ?_
  refine jd 37 rfl rfl y3 rfl (nK (n - 2)) (jP _ _ _ rfl ((n : Nat) : Int) 2 _ rfl rfl (by omega) (by omega) (by omega) _) (jd 38 rfl rfl y3 rfl (.int .u64 ((n - 2 : Nat) : Int)) (conv325 _ rfl (n - 2) (by omega) rfl _) (jd 39 rfl rfl y3 rfl (vT) (jR 64 64 _ _ rfl (cntE L).u (n - 2) rfl rfl true (by first | exact decide_eq_true (by omega) | exact decide_eq_false (by omega)) _) (mv (vT) rfl (mv (vT) rfl (jk 42 rfl rfl y10 rfl ?_)))))
  refine nq ?_
  refine jk 43 rfl rfl y10 rfl (jk 44 rfl rfl y10 rfl (mv (vT) rfl (nq ?_)))
  refine qL (qT rfl (qE (qG (mv (.pointer none) rfl (mv (.slice none 0 0) rfl (mv (iK 2) rfl (nq ?_)))))))
  refine qL (qR (jm ?_))
  refine bodyPost_ret (results_tmp3 results29 _ _ _) rfl ?_
  exact ⟨rfl, GG⟩
theorem jcm (w : World) (rp B : Nat) (ro : Option Addr) (rc n : Nat) (L : List Nat) (pw dn : Int) (H : QK w rp B ro rc n L pw dn) (hn : 3 ≤ n) (h1 : (cntE L).g ≤ 9223372036854775807) (h2 : (cntE L).u ≤ n - 2) (h3 : (cntE L).u < (cntE L).c) : Calls Tryz.prog 29 #[vP rp 0] w fun e w' => e = .returned (.tuple #[.pointer none, .slice none 0 0, iK 2]) ∧ Gro w w' := by
  refine eN func29 rfl ntmps29 [vP rp 0] ?_
  have GG := Gro.refl w
  have krp := H.box
  have hn4 := H.le
  have HN := H.row.nc
  have hfit := HN.fit
  have hLn := H.len
  have hlt := uM H.byte
  have hlim : lim = 18446744073709551616 := rfl
  refine qE (qG (mv (.pointer none) rfl (mv (.slice none 0 0) rfl (mv (iK 0) rfl (nq ?_)))))
  refine qL (qE (qG (mv (vP rp 0) rfl (sv (vP rp 0) (jl _ rfl _ rfl) rfl (sv (vP rp 0) (je 47 _ 0 rfl _ _ rfl _ (by kernel_rfl)) rfl (sv (.slice ro (n * 64) rc) (jo 27 _ rfl rp 0 rfl 47 _ krp (na27 _) _ rfl) rfl (sv (nK (n * 64)) (js underlying27 _ rfl _ _ _ rfl _) rfl (sv (nK n) (zn _ _ _ rfl ((n * 64 : Nat) : Int) 64 _ rfl rfl (by decide) quoN (by omega) (by omega) _) rfl ?_))))))))
  refine nq ?_
  refine mv (nK n) rfl (nq ?_)
  refine qL (qE (qE (qG (mv (nK n) rfl (sv (vF) (jv 3 _ _ _ rfl ((n : Nat) : Int) 3 rfl rfl false (decide_eq_false (by omega)) _) rfl (nq ?_))))))
  refine qL (qF rfl (qK (qE (qG (mv (vP rp 0) rfl (sv (vP rp 0) (jl _ rfl _ rfl) rfl (sv (vP rp 0) (je 47 _ 0 rfl _ _ rfl _ (by kernel_rfl)) rfl (sv (.slice ro (n * 64) rc) (jo 27 _ rfl rp 0 rfl 47 _ krp (na27 _) _ rfl) rfl (nq ?_)))))))))
  refine jr 27 rfl rfl _ 54 call54 rfl rfl _ rfl [.slice ro (n * 64) rc] rfl (uw _ ro rc n L (HN.gro GG) hLn (by omega)) ?_
  intro w1 G
  replace krp := G.has krp
  replace GG := GG.trans G
  clear G
  refine nq ?_
  refine mv (.tuple #[.int .u64 (((cntE L).g : Nat) : Int), .int .u64 (((cntE L).u : Nat) : Int), .int .u64 (((cntE L).c : Nat) : Int)]) rfl (mv (.int .u64 (((cntE L).g : Nat) : Int)) rfl (mv (.int .u64 (((cntE L).u : Nat) : Int)) rfl (mv (.int .u64 (((cntE L).c : Nat) : Int)) rfl (mv (.int .u64 (((cntE L).g : Nat) : Int)) rfl (mv (.int .u64 (((cntE L).u : Nat) : Int)) rfl ?_)))))
  refine nq ?_
  refine mv (.int .u64 (((cntE L).c : Nat) : Int)) rfl (nq ?_)
  refine qL (qE (qE ?_))
  refine jg ?_
  intro OPS hY
  have y3 := hY 3 34 rfl
  have y10 := hY 10 41 rfl
  clear hY
  refine mv (.int .u64 (((cntE L).g : Nat) : Int)) rfl (sv (.int .u64 (((cntE L).g / 9223372036854775808 : Nat) : Int)) (yL 64 28 _ _ rfl (cntE L).g 63 .u64 rfl rfl (by decide) _ rfl _) rfl (sv (vF) (jR 64 64 _ _ rfl ((cntE L).g / 9223372036854775808) 0 rfl rfl false (by first | exact decide_eq_true (by omega) | exact decide_eq_false (by omega)) _) rfl (mv (vF) rfl (jd 35 rfl rfl y3 rfl (.int .u64 (((cntE L).u : Nat) : Int)) (rfl) (jd 36 rfl rfl y3 rfl (nK n) (rfl) ?_)))))
  refine nq ?_
  refine jd 37 rfl rfl y3 rfl (nK (n - 2)) (jP _ _ _ rfl ((n : Nat) : Int) 2 _ rfl rfl (by omega) (by omega) (by omega) _) (jd 38 rfl rfl y3 rfl (.int .u64 ((n - 2 : Nat) : Int)) (conv325 _ rfl (n - 2) (by omega) rfl _) (jd 39 rfl rfl y3 rfl (vF) (jR 64 64 _ _ rfl (cntE L).u (n - 2) rfl rfl false (by first | exact decide_eq_true (by omega) | exact decide_eq_false (by omega)) _) (mv (vF) rfl (mv (vF) rfl (jd 42 rfl rfl y10 rfl (.int .u64 (((cntE L).c : Nat) : Int)) (rfl) ?_)))))
  refine nq ?_
  refine jd 43 rfl rfl y10 rfl (.int .u64 (((cntE L).u : Nat) : Int)) (rfl) (jd 44 rfl rfl y10 rfl (vT) (jR 64 64 _ _ rfl (cntE L).c (cntE L).u rfl rfl true (by first | exact decide_eq_true (by omega) | exact decide_eq_false (by omega)) _) (mv (vT) rfl (nq ?_)))
  refine qL (qT rfl (qE (qG (mv (.pointer none) rfl (mv (.slice none 0 0) rfl (mv (iK 2) rfl (nq ?_)))))))
  refine qL (qR (jm ?_))
  refine bodyPost_ret (results_tmp3 results29 _ _ _) rfl ?_
  exact ⟨rfl, GG⟩
theorem UV (w : World) (rp B : Nat) (ro : Option Addr) (rc n : Nat) (L : List Nat) (pw dn : Int) (H : QK w rp B ro rc n L pw dn) (hn : 3 ≤ n) (h1 : (cntE L).g ≤ 9223372036854775807) (h2 : (cntE L).u ≤ n - 2) (h3 : (cntE L).c ≤ (cntE L).u) : Calls Tryz.prog 29 #[vP rp 0] w (OpenP w rp L (pick (cntE L).c (prs (reg L (cntE L).u)))) := by
  refine eN func29 rfl ntmps29 [vP rp 0] ?_
  have GG := Gro.refl w
  have krp := H.box
  have hn4 := H.le
  have HN := H.row.nc
  have hfit := HN.fit
  have hLn := H.len
  have hlt := uM H.byte
  have hlim : lim = 18446744073709551616 := rfl
  have hr0 : ((L.drop 128).take (64 * (cntE L).u)).length = 64 * (cntE L).u := by rw [List.length_take, List.length_drop]; omega
  refine qE (qG (mv (.pointer none) rfl (mv (.slice none 0 0) rfl (mv (iK 0) rfl (nq ?_)))))
  refine qL (qE (qG (mv (vP rp 0) rfl (sv (vP rp 0) (jl _ rfl _ rfl) rfl (sv (vP rp 0) (je 47 _ 0 rfl _ _ rfl _ (by kernel_rfl)) rfl (sv (.slice ro (n * 64) rc) (jo 27 _ rfl rp 0 rfl 47 _ krp (na27 _) _ rfl) rfl (sv (nK (n * 64)) (js underlying27 _ rfl _ _ _ rfl _) rfl (sv (nK n) (zn _ _ _ rfl ((n * 64 : Nat) : Int) 64 _ rfl rfl (by decide) quoN (by omega) (by omega) _) rfl ?_))))))))
  refine nq ?_
  refine mv (nK n) rfl (nq ?_)
  refine qL (qE (qE (qG (mv (nK n) rfl (sv (vF) (jv 3 _ _ _ rfl ((n : Nat) : Int) 3 rfl rfl false (decide_eq_false (by omega)) _) rfl (nq ?_))))))
  refine qL (qF rfl (qK (qE (qG (mv (vP rp 0) rfl (sv (vP rp 0) (jl _ rfl _ rfl) rfl (sv (vP rp 0) (je 47 _ 0 rfl _ _ rfl _ (by kernel_rfl)) rfl (sv (.slice ro (n * 64) rc) (jo 27 _ rfl rp 0 rfl 47 _ krp (na27 _) _ rfl) rfl (nq ?_)))))))))
  refine jr 27 rfl rfl _ 54 call54 rfl rfl _ rfl [.slice ro (n * 64) rc] rfl (uw _ ro rc n L (HN.gro GG) hLn (by omega)) ?_
  intro w1 G
  replace krp := G.has krp
  replace GG := GG.trans G
  clear G
  refine nq ?_
  refine mv (.tuple #[.int .u64 (((cntE L).g : Nat) : Int), .int .u64 (((cntE L).u : Nat) : Int), .int .u64 (((cntE L).c : Nat) : Int)]) rfl (mv (.int .u64 (((cntE L).g : Nat) : Int)) rfl (mv (.int .u64 (((cntE L).u : Nat) : Int)) rfl (mv (.int .u64 (((cntE L).c : Nat) : Int)) rfl (mv (.int .u64 (((cntE L).g : Nat) : Int)) rfl (mv (.int .u64 (((cntE L).u : Nat) : Int)) rfl ?_)))))
  refine nq ?_
  refine mv (.int .u64 (((cntE L).c : Nat) : Int)) rfl (nq ?_)
  refine qL (qE (qE ?_))
  refine jg ?_
  intro OPS hY
  have y3 := hY 3 34 rfl
  have y10 := hY 10 41 rfl
  clear hY
  refine mv (.int .u64 (((cntE L).g : Nat) : Int)) rfl (sv (.int .u64 (((cntE L).g / 9223372036854775808 : Nat) : Int)) (yL 64 28 _ _ rfl (cntE L).g 63 .u64 rfl rfl (by decide) _ rfl _) rfl (sv (vF) (jR 64 64 _ _ rfl ((cntE L).g / 9223372036854775808) 0 rfl rfl false (by first | exact decide_eq_true (by omega) | exact decide_eq_false (by omega)) _) rfl (mv (vF) rfl (jd 35 rfl rfl y3 rfl (.int .u64 (((cntE L).u : Nat) : Int)) (rfl) (jd 36 rfl rfl y3 rfl (nK n) (rfl) ?_)))))
  refine nq ?_
  refine jd 37 rfl rfl y3 rfl (nK (n - 2)) (jP _ _ _ rfl ((n : Nat) : Int) 2 _ rfl rfl (by omega) (by omega) (by omega) _) (jd 38 rfl rfl y3 rfl (.int .u64 ((n - 2 : Nat) : Int)) (conv325 _ rfl (n - 2) (by omega) rfl _) (jd 39 rfl rfl y3 rfl (vF) (jR 64 64 _ _ rfl (cntE L).u (n - 2) rfl rfl false (by first | exact decide_eq_true (by omega) | exact decide_eq_false (by omega)) _) (mv (vF) rfl (mv (vF) rfl (jd 42 rfl rfl y10 rfl (.int .u64 (((cntE L).c : Nat) : Int)) (rfl) ?_)))))
  refine nq ?_
  refine jd 43 rfl rfl y10 rfl (.int .u64 (((cntE L).u : Nat) : Int)) (rfl) (jd 44 rfl rfl y10 rfl (vF) (jR 64 64 _ _ rfl (cntE L).c (cntE L).u rfl rfl false (by first | exact decide_eq_true (by omega) | exact decide_eq_false (by omega)) _) (mv (vF) rfl (nq ?_)))
  refine qL (qF rfl (qK (qE (qG (mv (.slice none 0 0) rfl (nq ?_))))))
  refine qL (qE (qG (mv (vP rp 0) rfl (sv (vP rp 0) (jl _ rfl _ rfl) rfl (sv (vP rp 0) (je 47 _ 0 rfl _ _ rfl _ (by kernel_rfl)) rfl (sv (.slice ro (n * 64) rc) (jo 27 _ rfl rp 0 rfl 47 _ krp (na27 _) _ rfl) rfl (mv (.int .u64 (((cntE L).u : Nat) : Int)) rfl (sv (iK (((cntE L).u : Nat) : Int)) (conv253 _ rfl (cntE L).u (by omega) rfl _) rfl ?_))))))))
  refine nq ?_
  refine sv (iK ((64 * (cntE L).u : Nat) : Int)) (zd _ _ _ rfl 64 (((cntE L).u : Nat) : Int) _ rfl rfl (by omega) (by omega) (by omega) _) rfl (sv (iK ((128 + 64 * (cntE L).u : Nat) : Int)) (jp _ _ _ rfl 128 ((64 * (cntE L).u : Nat) : Int) _ rfl rfl (by omega) (by omega) (by omega) _) rfl (sv (.slice (cutA ro rc 128) (((L.drop 128).take (64 * (cntE L).u)).length) (rc - 128)) ((ZQ _ _ _ rfl ro (n * 64) rc 128 (64 * (cntE L).u) rfl rfl rfl (by omega) _).trans (by rw [hr0])) rfl (mv (.slice (cutA ro rc 128) (((L.drop 128).take (64 * (cntE L).u)).length) (rc - 128)) rfl (nq ?_))))
  refine qL (qE (qE (qG (mv (.int .u64 0) rfl (nq ?_)))))
  refine qL (qB ?_)
  refine jO (fun mz az wv => ∃ (k : Nat) (j : Nat) (aor : Option Addr) (capr : Nat) (rest : List Nat) (aq : Option Addr) (cq : Nat) (q : List RV) (us1 : Nat → Value), mz = (cntE L).c - k ∧ az = ⟨[vP rp 0, uD, us1 0, us1 1, us1 2, nK n, .int .u64 (((cntE L).g : Nat) : Int), .int .u64 (((cntE L).u : Nat) : Int), .int .u64 (((cntE L).c : Nat) : Int), .slice aq q.length cq, .slice aor rest.length capr, .int .u64 ((k : Nat) : Int), us1 3, us1 4, vP rp 0, vP rp 0, vP rp 0, .slice ro (n * 64) rc, nK (n * 64), nK n, nK n, vF, .tuple #[.int .u64 (((cntE L).g : Nat) : Int), .int .u64 (((cntE L).u : Nat) : Int), .int .u64 (((cntE L).c : Nat) : Int)], vP rp 0, vP rp 0, vP rp 0, .slice ro (n * 64) rc, .tuple #[.int .u64 (((cntE L).g : Nat) : Int), .int .u64 (((cntE L).u : Nat) : Int), .int .u64 (((cntE L).c : Nat) : Int)], .int .u64 (((cntE L).g : Nat) : Int), .int .u64 (((cntE L).u : Nat) : Int), .int .u64 (((cntE L).c : Nat) : Int), .int .u64 (((cntE L).g : Nat) : Int), .int .u64 (((cntE L).g / 9223372036854775808 : Nat) : Int), vF, vF, .int .u64 (((cntE L).u : Nat) : Int), nK n, nK (n - 2), .int .u64 ((n - 2 : Nat) : Int), vF, vF, vF, .int .u64 (((cntE L).c : Nat) : Int), .int .u64 (((cntE L).u : Nat) : Int), vF, vF, vP rp 0, vP rp 0, vP rp 0, .slice ro (n * 64) rc, .int .u64 (((cntE L).u : Nat) : Int), iK (((cntE L).u : Nat) : Int), iK ((64 * (cntE L).u : Nat) : Int), iK ((128 + 64 * (cntE L).u : Nat) : Int), .slice (cutA ro rc 128) (((L.drop 128).take (64 * (cntE L).u)).length) (rc - 128), us1 5, us1 6, us1 7, us1 8, us1 9, us1 10, us1 11, us1 12, us1 13, us1 14, us1 15, us1 16, us1 17, us1 18, us1 19, us1 20, us1 21, us1 22, us1 23, us1 24, us1 25, us1 26, us1 27, us1 28, us1 29, us1 30, us1 31, us1 32, us1 33, us1 34, us1 35, us1 36, us1 37, us1 38, us1 39, us1 40, us1 41, us1 42, us1 43, us1 44, us1 45, us1 46, us1 47, uD, uD, uD, uD, uD, uD, uD, uD, uD, uD, uD, uD].toArray, []⟩ ∧ k ≤ (cntE L).c ∧ j ≤ (cntE L).u ∧ q.length = k ∧ rest = (reg L (cntE L).u).drop (j * 64) ∧ prs (reg L (cntE L).u) = (prs rest).map ((q.map (·.l)) ++ ·) ∧ NC w .u8 aor capr rest ∧ Gro w wv ∧ LO wv w.heap.size aq cq q) ?_ _ ⟨0, 0, _, _, ((L.drop 128).take (64 * (cntE L).u)), none, 0, [], (fun kz => ([.pointer none, .slice none 0 0, iK 0, uD, uD, uD, uD, uD, uD, uD, uD, uD, uD, uD, uD, uD, uD, uD, uD, uD, uD, uD, uD, uD, uD, uD, uD, uD, uD, uD, uD, uD, uD, uD, uD, uD, uD, uD, uD, uD, uD, uD, uD, uD, uD, uD, uD, uD] : List Value).getD kz uD), rfl, rfl, Nat.zero_le _, Nat.zero_le _, rfl, (by rw [reg, Nat.mul_comm]; simp), (by rw [reg, Nat.mul_comm]; simp), HN.cutS 128 (64 * (cntE L).u) (by omega) (by omega), GG, LO.nil _ _⟩
  clear GG
  rintro mz az wv ⟨k, j, aor, capr, rest, aq, cq, q, us1, rfl, rfl, hk, hj, hq, hrest, hp, HNr, GG, HQ⟩
  have hrl := reg_end hLn (by omega) hrest
  have hrb := HNr.lt256
  have hrf := HNr.fit
  refine qE (qE (qG (mv (.int .u64 ((k : Nat) : Int)) rfl (mv (.int .u64 (((cntE L).c : Nat) : Int)) rfl (nq ?_)))))
  obtain ⟨p1, hp1⟩ : ∃ p, decide (k < (cntE L).c) = p := ⟨_, rfl⟩
  refine sv (.bool p1) (zK 64 64 _ _ rfl k (cntE L).c rfl rfl p1 hp1 _) rfl (nq ?_)
  cases p1
  have hkn : k = (cntE L).c := by have := of_decide_eq_false hp1; omega
  refine qL (qF rfl (wp_exit (jG (jG (zp (jC (qE (qE (qG (mv (.slice aor rest.length capr) rfl (sv (nK rest.length) (js underlying27 _ rfl _ _ _ rfl _) rfl (nq ?_))))))))))))
  obtain ⟨p2, hp2⟩ : ∃ p, decide (0 < ((rest.length : Nat) : Int)) = p := ⟨_, rfl⟩
  refine sv (.bool p2) (jy 3 _ _ _ rfl ((rest.length : Nat) : Int) 0 rfl rfl p2 hp2 _) rfl (nq ?_)
  cases p2
  have h0 : rest = [] := List.eq_nil_of_length_eq_zero (by have := of_decide_eq_false hp2; omega)
  refine qL (qF rfl (qK (qE (qG (mv (vP rp 0) rfl (mv (.int .u64 (((cntE L).g : Nat) : Int)) rfl (mv (.int .u64 (((cntE L).u : Nat) : Int)) rfl (sv (iK (((cntE L).u : Nat) : Int)) (conv253 _ rfl (cntE L).u (by omega) rfl _) rfl (mv (.int .u64 (((cntE L).c : Nat) : Int)) rfl (sv (iK (((cntE L).c : Nat) : Int)) (conv253 _ rfl (cntE L).c (by omega) rfl _) rfl ?_))))))))))
  refine nq ?_
  refine sv (.agg (c66 (some ⟨rp, 0, none⟩) (((cntE L).g : Nat) : Int) (((cntE L).u : Nat) : Int) (((cntE L).c : Nat) : Int) false)) (jK 66 _ rfl [(0, vP rp 0), (1, .int .u64 (((cntE L).g : Nat) : Int)), (2, iK (((cntE L).u : Nat) : Int)), (3, iK (((cntE L).c : Nat) : Int))] rfl _ (by kernel_rfl)) rfl (nq ?_)
  refine jW 108 rfl rfl 66 _ rfl _ rfl (c66 (some ⟨rp, 0, none⟩) (((cntE L).g : Nat) : Int) (((cntE L).u : Nat) : Int) (((cntE L).c : Nat) : Int) false) rfl ?_
  intro w2 g1 G eg1 kg1
  have bg1 := jh GG eg1
  replace HQ := HQ.gro G
  replace GG := GG.trans G
  clear G eg1
  refine nq ?_
  refine mv (.slice aq q.length cq) rfl (mv (vP g1 0) rfl (mv (.slice aq q.length cq) rfl (mv (iK 0) rfl (nq ?_))))
  refine qL (qR ?_)
  refine bodyPost_ret (results_tmp3 results29 _ _ _) rfl ?_
  have hP : pick (cntE L).c (prs (reg L (cntE L).u)) = some (q.map (·.l)) := by rw [hp, h0, vO, Option.map_some, List.append_nil]; exact jac (by rw [List.length_map]; omega)
  rw [hP]
  exact ⟨g1, aq, cq, q, rfl, rfl, GG, bg1, ⟨kg1⟩, HQ⟩
  have h0 : rest ≠ [] := fun hE => by rw [hE] at hp2; simp at hp2
  refine qL (qT rfl (qE (qG (mv (.pointer none) rfl (mv (.slice none 0 0) rfl (mv (iK 2) rfl (nq ?_)))))))
  refine qL (qR (jm ?_))
  refine bodyPost_ret (results_tmp3 results29 _ _ _) rfl ?_
  have hP : pick (cntE L).c (prs (reg L (cntE L).u)) = none := by rw [hp]; exact jab (by rw [List.length_map]; omega) h0
  rw [hP]
  exact ⟨rfl, GG⟩
  have hkn := of_decide_eq_true hp1
  refine qL (qT rfl (qK (qE (qB (qE (qE (qG (mv (.slice aor rest.length capr) rfl (sv (nK rest.length) (js underlying27 _ rfl _ _ _ rfl _) rfl (nq ?_))))))))))
  obtain ⟨p2, hp2⟩ : ∃ p, decide (((rest.length : Nat) : Int) = 0) = p := ⟨_, rfl⟩
  refine sv (.bool p2) (jw 3 .i64 _ _ _ rfl underlying3 ((rest.length : Nat) : Int) 0 rfl rfl p2 hp2 _) rfl (nq ?_)
  cases p2
  have h0 : rest.length ≠ 0 := by have := of_decide_eq_false hp2; omega
  obtain ⟨ad, hao, _⟩ := HNr.at (j := 0) (by omega)
  refine qL (qF rfl (qK (qE ?_)))
  refine exQ 9 [(0, 63), (1, 64), (2, 65), (3, 66), (4, 67), (5, 68), (6, 69), (7, 70), (8, 71)] [.val (.slice aor rest.length capr), .val (.pointer (some (ad.add 0))), .val (.int .u8 ((rest.getD 0 0 : Nat) : Int)), .val (nK (rest.getD 0 0)), .val (nK (rest.getD 0 0 * 256)), .val (.slice aor rest.length capr), .val (.pointer (some (ad.add 1))), .val (.int .u8 ((rest.getD 1 0 : Nat) : Int)), .val (nK (rest.getD 1 0))] follows (by kernel_rfl) rfl (ja ?_ (ja ?_ (ja ?_ (ja ?_ (ja ?_ (ja ?_ (ja ?_ (ja ?_ (ja ?_ jD))))))))) ?_
  exact fun _ _ _ _ => jf _ rfl rfl rfl
  exact fun _ _ hw _ => jb rfl (zf bT _ _ rfl ad rest.length capr 0 (by exact congrArg (fun a => Value.slice a rest.length capr) hao) rfl (by omega) _)
  exact fun _ _ hw _ => jb rfl (zj bT _ rfl (ad.add 0) rfl _ _ ((HNr.gro (GG.drew.trans hw)).cell ad hao 0 (by omega)))
  exact fun _ _ hw _ => jb rfl (conv53 _ rfl (rest.getD 0 0) (zt hrb _) rfl _)
  exact fun _ _ hw _ => jb rfl (zd _ _ _ rfl ((rest.getD 0 0 : Nat) : Int) 256 _ rfl rfl (by omega) (by omega) (by have := zt hrb 0; omega) _)
  exact fun _ _ _ _ => jf _ rfl rfl rfl
  exact fun _ _ hw _ => jb rfl (zf bT _ _ rfl ad rest.length capr 1 (by exact congrArg (fun a => Value.slice a rest.length capr) hao) rfl (by omega) _)
  exact fun _ _ hw _ => jb rfl (zj bT _ rfl (ad.add 1) rfl _ _ ((HNr.gro (GG.drew.trans hw)).cell ad hao 1 (by omega)))
  exact fun _ _ hw _ => jb rfl (conv53 _ rfl (rest.getD 1 0) (zt hrb _) rfl _)
  intro ptrs w2 GD hxE
  simp only [List.drop_succ_cons, List.drop_zero]
  replace HQ := HQ.gro ((Gro.refl _).drew.trans GD)
  replace GG := GG.drew.trans GD
  clear GD
  refine sv (iK (((rest.getD 0 0 * 256 + rest.getD 1 0) : Nat) : Int)) (jp _ _ _ rfl ((rest.getD 0 0 * 256 : Nat) : Int) ((rest.getD 1 0 : Nat) : Int) _ rfl rfl (by omega) (by omega) (by have := zt hrb 0; have := zt hrb 1; omega) _) rfl (mv (iK (((rest.getD 0 0 * 256 + rest.getD 1 0) : Nat) : Int)) rfl (nq ?_))
  refine qA ?_
  obtain ⟨mm, hmm⟩ : ∃ mm, (rest.getD 0 0 * 256 + rest.getD 1 0) = mm := ⟨_, rfl⟩
  have hM : recM rest = mm := hmm
  have hml : mm < 65536 := by rw [← hmm]; have := zt hrb 0; have := zt hrb 1; omega
  have hsn : secN mm ≤ 1030 ∧ 1 ≤ secN mm := by unfold secN; omega
  have hm2 : mm + 2 ≤ secN mm * 64 := by unfold secN; omega
  rw [hmm]
  refine mv (nK mm) rfl (sv (nK (mm + 2)) (jp _ _ _ rfl ((mm : Nat) : Int) 2 _ rfl rfl (by omega) (by omega) (by omega) _) rfl (sv (nK (mm + 65)) (jp _ _ _ rfl ((mm + 2 : Nat) : Int) 63 _ rfl rfl (by omega) (by omega) (by omega) _) rfl (sv (nK (secN mm)) (zn _ _ _ rfl ((mm + 65 : Nat) : Int) 64 _ rfl rfl (by decide) (tdivN _ 64) (by omega) (by omega) _) rfl (sv (nK (secN mm * 64)) (zd _ _ _ rfl ((secN mm : Nat) : Int) 64 _ rfl rfl (by omega) (by omega) (by omega) _) rfl (mv (nK (secN mm * 64)) rfl ?_)))))
  refine nq ?_
  refine qL (qE (qE ?_))
  refine jg ?_
  intro OPS hY
  have y2 := hY 2 80 rfl
  clear hY
  refine mv (nK mm) rfl (nq ?_)
  obtain ⟨p3, hp3⟩ : ∃ p, decide (1024 < ((mm : Nat) : Int)) = p := ⟨_, rfl⟩
  refine sv (.bool p3) (jy 3 _ _ _ rfl ((mm : Nat) : Int) 1024 rfl rfl p3 hp3 _) rfl (nq ?_)
  cases p3
  have h24 : mm ≤ 1024 := by have := of_decide_eq_false hp3; omega
  refine vw _ rfl rfl (vF) rfl ?_
  refine jd 81 rfl rfl y2 rfl (nK (secN mm * 64)) (rfl) (jd 82 rfl rfl y2 rfl (.slice aor rest.length capr) (rfl) (jd 83 rfl rfl y2 rfl (nK rest.length) (js underlying27 _ rfl _ _ _ rfl _) (nq ?_)))
  obtain ⟨p4, hp4⟩ : ∃ p, decide (((rest.length : Nat) : Int) < ((secN mm * 64 : Nat) : Int)) = p := ⟨_, rfl⟩
  refine jd 84 rfl rfl y2 rfl (.bool p4) (jy 3 _ _ _ rfl ((secN mm * 64 : Nat) : Int) ((rest.length : Nat) : Int) rfl rfl p4 hp4 _) (nq ?_)
  cases p4
  have hwd : secN mm * 64 ≤ rest.length := by have := of_decide_eq_false hp4; omega
  refine vw _ rfl rfl (vF) rfl ?_
  refine nq ?_
  refine qL (qF rfl (qK (qE (qG (mv (.slice aq q.length cq) rfl (nq ?_))))))
  have hxl : ((rest.drop 2).take mm).length = mm := by rw [List.length_take, List.length_drop]; omega
  refine ye 87 rfl rfl 27 0 _ rfl [] rfl #[] 5 (by kernel_rfl) ?_
  intro w3 gb G1 egb kgb
  refine nq ?_
  refine mv (.slice aor rest.length capr) rfl (mv (nK mm) rfl (sv (nK (2 + mm)) (jp _ _ _ rfl 2 ((mm : Nat) : Int) _ rfl rfl (by omega) (by omega) (by omega) _) rfl (sv (.slice (cutA aor capr 2) mm (capr - 2)) (ZQ _ _ _ rfl aor rest.length capr 2 mm rfl rfl rfl (by omega) _) rfl (nq ?_))))
  have HO1 : OB _ 5 .u8 gb (some ⟨gb, 0, none⟩) 0 [] := OB.made kgb (Nat.le_refl _) (Nat.le_refl _) (Nat.zero_le _) rfl rfl (fun x hx => by cases hx)
  refine yH bT 92 rfl rfl _ _ rfl rfl HO1 (l' := ((rest.drop 2).take mm)) (by rw [hxl]; rfl) ((HNr.cutS 2 mm (by omega) (by omega)).gro (GG.trans G1)) (by rw [hxl]; simp only [List.length_nil]; omega) (by decide) (Nat.le_of_lt (ji kgb)) ?_
  intro ao4 cap4 w4 HO2 BB
  rw [List.nil_append] at HO2
  simp only [List.nil_append]
  have G := zq G1 BB (Nat.le_of_eq egb)
  have bgb := jh GG egb
  have HO := HO2.mono bgb
  clear HO1 HO2 BB G1 egb kgb
  replace HQ := HQ.gro G
  replace GG := GG.trans G
  clear G
  refine nq ?_
  refine ye 93 rfl rfl 73 1 _ rfl [(0, .slice ao4 ((rest.drop 2).take mm).length cap4)] rfl #[.slice ao4 ((rest.drop 2).take mm).length cap4] 27 (by kernel_rfl) ?_
  intro w5 gB G eB kgB
  clear eB
  replace HQ := HQ.gro G
  replace HO := HO.gro G
  replace GG := GG.trans G
  clear G
  refine nq ?_
  refine QM rT 94 rfl rfl _ _ rfl rfl HQ.ox rfl (UI kgB rfl) (by omega) (by decide) GG.size ?_
  intro aq2 cq2 w6 HX GX
  have HQ2 := LO.app (x := ⟨ao4, cap4, ((rest.drop 2).take mm)⟩) HQ HX GX HO
  replace GG := GX.gro GG HQ.ox.base
  clear HX GX HQ HO kgB
  refine nq ?_
  refine mv (.slice aq2 (q.length + 1) cq2) rfl (nq ?_)
  refine qL (qG (mv (.slice aor rest.length capr) rfl (mv (nK (secN mm * 64)) rfl (sv (.slice (cutA aor capr (secN mm * 64)) (rest.length - secN mm * 64) (capr - secN mm * 64)) (Jm _ _ rfl aor rest.length capr (secN mm * 64) rfl rfl (by omega) _) rfl (mv (.slice (cutA aor capr (secN mm * 64)) (rest.length - secN mm * 64) (capr - secN mm * 64)) rfl (nq ?_))))))
  refine qN (zb (jC (qG (mv (.int .u64 ((k : Nat) : Int)) rfl (sv (.int .u64 ((k + 1 : Nat) : Int)) (yh 64 64 _ _ rfl k 1 rfl rfl (by omega) _) rfl (mv (.int .u64 ((k + 1 : Nat) : Int)) rfl (nq ?_)))))))
  refine qL ?_
  have hne : rest ≠ [] := fun hE => by rw [hE] at h0; exact h0 rfl
  have hq2 := vz hne (by rw [hM]; exact h24) (by rw [hM]; exact hwd)
  rw [hM] at hq2
  exact ⟨_, (by omega : (cntE L).c - (k + 1) < (cntE L).c - k), k + 1, j + secN mm, _, _, rest.drop (secN mm * 64), aq2, cq2, _, (fun kz => ([us1 0, us1 1, us1 2, nK mm, nK (secN mm * 64), .int .u64 ((k : Nat) : Int), .int .u64 (((cntE L).c : Nat) : Int), vT, .int .u64 ((k : Nat) : Int), .int .u64 ((k + 1 : Nat) : Int), .slice aor rest.length capr, nK rest.length, vF, .slice aor rest.length capr, .pointer (some (ad.add 0)), .int .u8 ((rest.getD 0 0 : Nat) : Int), nK (rest.getD 0 0), nK (rest.getD 0 0 * 256), .slice aor rest.length capr, .pointer (some (ad.add 1)), .int .u8 ((rest.getD 1 0 : Nat) : Int), nK (rest.getD 1 0), nK mm, nK mm, nK (mm + 2), nK (mm + 65), nK (secN mm), nK (secN mm * 64), nK mm, vF, vF, nK (secN mm * 64), .slice aor rest.length capr, nK rest.length, vF, vF, .slice aq q.length cq, .slice (some ⟨gb, 0, none⟩) (([] : List Nat).length) 0, .slice aor rest.length capr, nK mm, nK (2 + mm), .slice (cutA aor capr 2) mm (capr - 2), .slice ao4 (((rest.drop 2).take mm).length) cap4, .slice (some ⟨gB, 0, none⟩) 1 1, .slice aq2 (q.length + 1) cq2, .slice aor rest.length capr, nK (secN mm * 64), .slice (cutA aor capr (secN mm * 64)) (rest.length - secN mm * 64) (capr - secN mm * 64)] : List Value).getD kz uD), rfl, (by rw [List.length_append, List.length_drop]; rfl), (by omega), (by omega), (by rw [List.length_append, hq]; rfl), (by rw [hrest, List.drop_drop, ← Nat.add_mul]), (by rw [hp, hq2]; cases prs (rest.drop (secN mm * 64)) <;> simp), HNr.cutE (secN mm * 64) (by omega), GG, HQ2⟩
  have hbad : 1024 < recM rest ∨ rest.length < secN (recM rest) * 64 := .inr (by rw [hM]; have := of_decide_eq_true hp4; omega)
  refine mv (vT) rfl (nq ?_)
  refine qL (qT rfl (qE (qG (mv (.pointer none) rfl (mv (.slice none 0 0) rfl (mv (iK 2) rfl (nq ?_)))))))
  refine qL (qR (jm (ze (jm (jm (ze (jm ?_)))))))
  refine bodyPost_ret (results_tmp3 results29 _ _ _) rfl ?_
  have hne : rest ≠ [] := fun hE => by rw [hE] at h0; exact h0 rfl
  have hP : pick (cntE L).c (prs (reg L (cntE L).u)) = none := by rw [hp, uy hne hbad]; rfl
  rw [hP]
  exact ⟨rfl, GG⟩
  have hbad : 1024 < recM rest ∨ rest.length < secN (recM rest) * 64 := .inl (by rw [hM]; have := of_decide_eq_true hp3; omega)
  refine mv (vT) rfl (jk 81 rfl rfl y2 rfl (jk 82 rfl rfl y2 rfl (jk 83 rfl rfl y2 rfl (jk 84 rfl rfl y2 rfl (mv (vT) rfl ?_)))))
  refine nq ?_
  refine qL (qT rfl (qE (qG (mv (.pointer none) rfl (mv (.slice none 0 0) rfl (mv (iK 2) rfl (nq ?_)))))))
  refine qL (qR (jm (ze (jm (jm (ze (jm ?_)))))))
  refine bodyPost_ret (results_tmp3 results29 _ _ _) rfl ?_
  have hne : rest ≠ [] := fun hE => by rw [hE] at h0; exact h0 rfl
  have hP : pick (cntE L).c (prs (reg L (cntE L).u)) = none := by rw [hp, uy hne hbad]; rfl
  rw [hP]
  exact ⟨rfl, GG⟩
  have h0 : rest = [] := List.eq_nil_of_length_eq_zero (by have := of_decide_eq_true hp2; omega)
  refine qL (qT rfl (qE (qG (mv (.pointer none) rfl (mv (.slice none 0 0) rfl (mv (iK 2) rfl (nq ?_)))))))
  refine qL (qR (jm (ze (jm (jm (ze (jm ?_)))))))
  refine bodyPost_ret (results_tmp3 results29 _ _ _) rfl ?_
  have hP : pick (cntE L).c (prs (reg L (cntE L).u)) = none := by rw [hp, h0, vO, Option.map_some, List.append_nil]; exact Ul (by rw [List.length_map]; omega)
  rw [hP]
  exact ⟨rfl, GG⟩
theorem KU (w : World) (rp B : Nat) (ro : Option Addr) (rc n : Nat) (L : List Nat) (pw dn : Int) (H : QK w rp B ro rc n L pw dn) (hn : 3 ≤ n) : Calls Tryz.prog 29 #[.pointer (some ⟨rp, 0, none⟩)] w (OpenP w rp L (opE L n)) := by
  by_cases h1 : 9223372036854775807 < (cntE L).g
  · rw [opE, if_pos (.inl h1)]
    exact jco w rp B ro rc n L pw dn H hn h1
  by_cases h2 : n - 2 < (cntE L).u
  · rw [opE, if_pos (.inr (.inl h2))]
    exact jcn w rp B ro rc n L pw dn H hn (by omega) h2
  by_cases h3 : (cntE L).u < (cntE L).c
  · rw [opE, if_pos (.inr (.inr h3))]
    exact jcm w rp B ro rc n L pw dn H hn (by omega) (by omega) h3
  rw [jae (by omega) (by omega) (by omega)]
  exact UV w rp B ro rc n L pw dn H hn (by omega) (by omega) (by omega)
theorem Jr (w : World) (rp B : Nat) (ro : Option Addr) (rc n : Nat) (L : List Nat) (pw dn : Int) (H : QK w rp B ro rc n L pw dn) (hn : 3 ≤ n) (rs : List (List Nat)) (ho : opE L n = some rs) : Calls Tryz.prog 29 #[.pointer (some ⟨rp, 0, none⟩)] w fun e w' => ∃ mp ao cap q, e = .returned (.tuple #[.pointer (some ⟨mp, 0, none⟩), .slice ao (List.length q) cap, .int .i64 0]) ∧ rs = q.map (·.l) ∧ Gro w w' ∧ w.heap.size ≤ mp ∧ MK w' mp rp (cntE L) false ∧ LO w' w.heap.size ao cap q := by
  have := KU w rp B ro rc n L pw dn H hn
  rw [ho] at this
  exact this
end Go.Proofs.YtgfnjekpafempaaGreat
