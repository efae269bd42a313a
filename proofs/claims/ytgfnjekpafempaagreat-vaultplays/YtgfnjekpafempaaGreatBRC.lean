import Derived.Test.YtgfnjekpafempaaGreatBRB
import Derived.Test.YtgfnjekpafempaaGreatBAb
namespace Go.Proofs.YtgfnjekpafempaaGreat
open Go.Proofs.Tryz
open Go.RowKit
theorem yx {w : World} {vp : Nat} {c : Array Value} {t : TypeId} (k : w.heap[vp]? = some (.cells c t (0, 0))) (ht : t ≠ 5) : ∀ j ∈ [vp], ∀ d, w.heap[j]? ≠ some (.cells d 5 (0, 0)) := fun j hj d hd => by
  rw [List.mem_singleton.1 hj, k] at hd
  injection hd with hd
  injection hd with _ h2
  exact ht h2
theorem OBs.both {w : World} {B : Nat} {R R2 : List IM} {x : IM} (h : OBs w B R) (hx : OB w 5 .u8 B x.ao x.cap x.val) (hm : ∀ y ∈ R2, y ∈ R ∨ y = x) : OBs w B R2 := fun y hy => by
  rcases hm y hy with hy | rfl
  · exact h y hy
  · exact hx
theorem JJ {R R2 : List IM} {x : IM} {p : IM → Prop} (h : ∀ y ∈ R, p y) (hx : p x) (hm : ∀ y ∈ R2, y ∈ R ∨ y = x) : ∀ y ∈ R2, p y := fun y hy => by
  rcases hm y hy with hy | rfl
  · exact h y hy
  · exact hx
theorem KC {ls : List (List Nat)} {i : Nat} {r : List Nat} (hi : i < ls.length) (hr : ls.getD i [] = r) : ls.take (i + 1) = ls.take i ++ [r] := by
  rw [yA ls [] i hi, hr]
def HdP (w : World) : Option (List It × Nat) → Ending → World → Prop
  | none, e, w' => e = .returned (.tuple #[.slice none 0 0, .int .i64 0, .bool false]) ∧ Gro w w'
  | some s, e, w' => ∃ ao cap R, e = .returned (.tuple #[.slice ao (List.length R) cap, .int .i64 (s.2 : Int), .bool true]) ∧ Gro w w' ∧ OW kM 42 w' w.heap.size ao cap R ∧ OBs w' w.heap.size R ∧ R.map IM.it = s.1 ∧ ∀ y ∈ R, 1 ≤ y.n
set_option maxRecDepth 100000 in
set_option maxHeartbeats 4000000 in
theorem KV (w : World) (ao : Option Addr) (cap : Nat) (ls : List (List Nat)) (HL : LC w ao cap ls) (hlen : ∀ r ∈ ls, r.length ≤ 1024) (hll : ls.length ≤ 4096) : Calls Tryz.prog 30 #[.slice ao ls.length cap] w (HdP w (hld ls)) := by
  refine eN func30 rfl ntmps30 [.slice ao ls.length cap] ?_
  have GG := Gro.refl w
  refine qE (qG (mv (.slice none 0 0) rfl (mv (iK 0) rfl (mv (vF) rfl (nq ?_)))))
  refine qL (qE (qG (sv (.agg (rvA none none 0 0 0)) (jK 62 _ rfl [] rfl _ (bdRv0 _)) rfl (nq ?_))))
  refine jW 11 rfl rfl 62 _ rfl _ rfl (rvA none none 0 0 0) rfl ?_
  intro w1 vp G evp kvp
  have bvp : w.heap.size ≤ vp := by rw [← evp]; exact GG.size
  replace GG := GG.trans G
  clear G
  refine nq ?_
  refine mv (vP vp 0) rfl (nq ?_)
  refine qL (qE (qE (qG (mv (iK 0) rfl (nq ?_)))))
  refine qL (qB ?_)
  refine jO (fun mz az wv => ∃ (i : Nat) (c : Nat) (R : List IM) (ro : Option Addr) (rc : Nat) (us1 : Nat → Value), mz = ls.length - i ∧ az = ⟨[.slice ao ls.length cap, uD, us1 2, us1 3, us1 4, vP vp 0, nK i, us1 7, us1 8, us1 9, .agg (rvA none none 0 0 0), vP vp 0, us1 12, us1 13, us1 14, us1 15, us1 16, us1 17, us1 18, us1 19, us1 20, us1 21, us1 22, us1 23, us1 24, us1 25, us1 26, us1 27, us1 28, us1 29, us1 30, us1 31, us1 32, us1 33, us1 34, us1 35, us1 36, us1 37, us1 38, us1 39, us1 40, us1 41, us1 42, us1 43, us1 44, us1 45, us1 46, us1 47, us1 48, us1 49, uD, uD, uD, uD, uD, uD, uD, uD].toArray, []⟩ ∧ Gro w wv ∧ wv.heap[vp]? = some (.cells (rvA none ro R.length rc ((c : Nat) : Int)) 62 (0, 0)) ∧ OW kM 42 wv w.heap.size ro rc R ∧ OBs wv w.heap.size R ∧ i ≤ ls.length ∧ hld (ls.take i) = some (R.map IM.it, c) ∧ (∀ y ∈ R, 1 ≤ y.n)) ?_ _ ⟨0, 0, [], none, 0, usK ⟨GG, kvp, OW.nil _ _, OBs.nil _ _, Nat.zero_le _, rfl, fun _ h => by (cases h)⟩⟩
  clear GG kvp
  rintro mz az wv ⟨i, c, R, ro, rc, us1, rfl, rfl, GG, kvp, HW, HS, hi, hh, hn0⟩
  have hRl : R.length ≤ i := by
    have h1 := Ki (s := ([], 0)) hh
    rw [List.length_map, List.length_take] at h1
    simp only [List.length_nil] at h1
    omega
  refine qE (qE ?_)
  cases h1 : decide (((i : Nat) : Int) < ((ls.length : Nat) : Int))
  have hiq : i = ls.length := by have := of_decide_eq_false h1; omega
  rw [List.take_of_length_le (by omega)] at hh
  refine qG (mv (nK i) rfl (mv (.slice ao ls.length cap) rfl (sv (nK ls.length) (js underlying73 _ rfl _ _ _ rfl _) rfl (sv (vF) (jv 3 _ _ _ rfl ((i : Nat) : Int) ((ls.length : Nat) : Int) rfl rfl false h1 _) rfl (nq ?_)))))
  refine qL (qF rfl (wp_exit (jG (jG (zp (jC (qE ?_)))))))
  refine exQ 9 [(0, 50), (1, 51), (2, 52), (3, 53), (4, 54), (5, 55), (6, 56), (7, 57), (8, 2)] [.val (vP vp 0), .val (vP vp 0), .val (vP vp 1), .val (.slice ro R.length rc), .val (vP vp 0), .val (vP vp 0), .val (vP vp 2), .val (nK c), .val (.slice ro R.length rc)] follows (by kernel_rfl) rfl (ja ?_ (ja ?_ (ja ?_ (ja ?_ (ja ?_ (ja ?_ (ja ?_ (ja ?_ (ja ?_ jD))))))))) ?_
  exact fun _ _ _ _ => jf _ rfl rfl rfl
  exact fun _ _ _ _ => jb rfl (jl _ rfl _ rfl)
  exact fun _ _ _ _ => jb rfl (je 62 _ 1 rfl vp 0 rfl 1 (by kernel_rfl))
  exact fun _ _ hw _ => jb rfl (ldRvr _ rfl vp rfl (hw.has kvp))
  exact fun _ _ _ _ => jf _ rfl rfl rfl
  exact fun _ _ _ _ => jb rfl (jl _ rfl _ rfl)
  exact fun _ _ _ _ => jb rfl (je 62 _ 2 rfl vp 0 rfl 2 (by kernel_rfl))
  exact fun _ _ hw _ => jb rfl (ldRvi _ rfl vp rfl (hw.has kvp))
  exact fun _ _ _ _ => yd _ rfl rfl rfl
  intro ptrs w2 GD hxE
  simp only [List.drop_succ_cons, List.drop_zero]
  replace kvp := GD.has kvp
  replace HW := HW.gro ((Gro.refl _).drew.trans GD)
  replace HS := HS.gro ((Gro.refl _).drew.trans GD)
  replace GG := GG.drew.trans GD
  clear GD
  refine mv (nK c) rfl (mv (vT) rfl (nq ?_))
  refine qL (qR ?_)
  refine bodyPost_ret (results_tmp3 results30 _ _ _) rfl ?_
  rw [hh]
  exact ⟨_, _, R, rfl, GG, HW, HS, rfl, hn0⟩
  have hlt : i < ls.length := by have := of_decide_eq_true h1; omega
  refine qG (mv (nK i) rfl (mv (.slice ao ls.length cap) rfl (sv (nK ls.length) (js underlying73 _ rfl _ _ _ rfl _) rfl (sv (vT) (jv 3 _ _ _ rfl ((i : Nat) : Int) ((ls.length : Nat) : Int) rfl rfl true h1 _) rfl (nq ?_)))))
  refine qL (qT rfl (qK (qE (qB (qE ?_)))))
  obtain ⟨ad, ao2, cap2, had, hcell, HR⟩ := (HL.gro GG).at (j := i) hlt
  obtain ⟨r, hr⟩ : ∃ r, ls.getD i [] = r := ⟨_, rfl⟩
  rw [hr] at hcell HR
  have hrl : r.length ≤ 1024 := hlen r (by rw [← hr]; exact vG hlt)
  have hs : hld (ls.take (i + 1)) = hldR (R.map IM.it, c) r := by rw [KC hlt hr, vc, hh]; rfl
  have hSK : SKv (R.map IM.it) := jeb (s := ([], 0)) SKv.nil hh
  rcases hx : readV r with _ | (n | x)
  have hs2 : hld (ls.take (i + 1)) = none := by rw [hs]; unfold hldR; rw [hx]; rfl
  refine qG (mv (.slice ao ls.length cap) rfl (mv (nK i) rfl (sv (.pointer (some (ad.add i))) (yg _ _ rfl ad _ _ i (by rw [← had]; rfl) rfl hlt _) rfl (sv (.slice ao2 r.length cap2) (yB _ rfl (ad.add i) rfl _ _ hcell) rfl (nq ?_)))))
  refine jq 23 rfl rfl _ 55 call55 rfl rfl _ rfl [.slice ao2 r.length cap2] rfl ((JN _ ao2 cap2 r HR (by omega)).mono fun e w' HZ => by rw [hx] at HZ; exact HZ) (by rintro _ _ ⟨_, he, _⟩; exact ⟨_, he⟩) ?_
  rintro v w2 ⟨n, he, G⟩
  cases he
  replace kvp := G.has kvp
  replace HW := HW.gro G
  replace HS := HS.gro G
  replace GG := GG.trans G
  clear G
  refine nq ?_
  refine mv (.tuple #[iA zM, iK n, vF]) rfl (mv (iA zM) rfl (mv (iK n) rfl (mv (vF) rfl (nq ?_))))
  refine jH 7 rfl rfl 42 rfl _ zeroIt (itA zM) rfl ?_
  intro w3 g1 G eg1 kg1
  have bg1 := jh GG eg1
  have dvpg1 := jn kvp eg1
  have dHWg1 := HW.ne eg1
  have dHSg1 := HS.ne eg1
  replace kvp := G.has kvp
  replace HW := HW.gro G
  replace HS := HS.gro G
  replace GG := GG.trans G
  clear G
  clear eg1
  refine nq ?_
  refine stI zM rfl rfl rfl kg1 rfl ?_
  intro w4 St
  replace kvp := St.has (by omega) kvp
  replace HW := HW.st St dHWg1
  replace HS := HS.st St dHSg1
  replace GG := GG.store St bg1
  replace kg1 := St.new
  clear St
  refine mv (iK n) rfl (mv (vF) rfl (nq ?_))
  refine qL (qE (qE ?_))
  refine jg ?_
  intro OPS hY
  have y2 := hY 2 29 rfl
  have y5 := hY 5 32 rfl
  clear hY
  refine mv (vF) rfl (sv (vT) (jZ _ _ rfl false rfl) rfl (mv (vT) rfl (jk 30 rfl rfl y2 rfl (jk 31 rfl rfl y2 rfl (jk 32 rfl rfl y2 rfl ?_)))))
  refine nq ?_
  refine jk 33 rfl rfl y5 rfl (jk 34 rfl rfl y5 rfl (jk 35 rfl rfl y5 rfl (jk 36 rfl rfl y5 rfl (jk 37 rfl rfl y5 rfl (jk 38 rfl rfl y5 rfl ?_)))))
  refine nq ?_
  refine jk 39 rfl rfl y2 rfl (mv (vT) rfl (nq ?_))
  refine qL (qT rfl (qE (qG (mv (.slice none 0 0) rfl (mv (iK 0) rfl (mv (vF) rfl (nq ?_)))))))
  refine qL (qR (jm (ze (jm (jm (ze (jm ?_)))))))
  refine bodyPost_ret (results_tmp3 results30 _ _ _) rfl ?_
  rw [ui hs2]
  exact ⟨rfl, GG⟩
  have hn := QT hx
  have k1 : decide ((0 : Int) < ((n : Nat) : Int)) = true := decide_eq_true (by omega)
  refine qG (mv (.slice ao ls.length cap) rfl (mv (nK i) rfl (sv (.pointer (some (ad.add i))) (yg _ _ rfl ad _ _ i (by rw [← had]; rfl) rfl hlt _) rfl (sv (.slice ao2 r.length cap2) (yB _ rfl (ad.add i) rfl _ _ hcell) rfl (nq ?_)))))
  refine jr 23 rfl rfl _ 55 call55 rfl rfl _ rfl [.slice ao2 r.length cap2] rfl ((JN _ ao2 cap2 r HR (by omega)).mono fun e w' HZ => by rw [hx] at HZ; exact HZ) ?_
  intro w2 G
  replace kvp := G.has kvp
  replace HW := HW.gro G
  replace HS := HS.gro G
  replace GG := GG.trans G
  clear G
  refine nq ?_
  refine mv (.tuple #[iA zM, nK n, vT]) rfl (mv (iA zM) rfl (mv (nK n) rfl (mv (vT) rfl (nq ?_))))
  refine jH 7 rfl rfl 42 rfl _ zeroIt (itA zM) rfl ?_
  intro w3 g1 G eg1 kg1
  have bg1 := jh GG eg1
  have dvpg1 := jn kvp eg1
  have dHWg1 := HW.ne eg1
  have dHSg1 := HS.ne eg1
  replace kvp := G.has kvp
  replace HW := HW.gro G
  replace HS := HS.gro G
  replace GG := GG.trans G
  clear G
  clear eg1
  refine nq ?_
  refine stI zM rfl rfl rfl kg1 rfl ?_
  intro w4 St
  replace kvp := St.has (by omega) kvp
  replace HW := HW.st St dHWg1
  replace HS := HS.st St dHSg1
  replace GG := GG.store St bg1
  replace kg1 := St.new
  clear St
  refine mv (nK n) rfl (mv (vT) rfl (nq ?_))
  refine qL (qE (qE ?_))
  cases h2 : decide (((n : Nat) : Int) ≤ ((c : Nat) : Int))
  refine jg ?_
  intro OPS hY
  have y2 := hY 2 29 rfl
  have y5 := hY 5 32 rfl
  clear hY
  refine mv (vT) rfl (sv (vF) (jZ _ _ rfl true rfl) rfl (mv (vF) rfl (jd 30 rfl rfl y2 rfl (nK n) (rfl) (jd 31 rfl rfl y2 rfl (vT) (jy 2 _ _ _ rfl ((n : Nat) : Int) 0 rfl rfl true k1 _) (jd 32 rfl rfl y2 rfl (vT) (rfl) ?_)))))
  refine nq ?_
  refine jd 33 rfl rfl y5 rfl (nK n) (rfl) (jd 34 rfl rfl y5 rfl (vP vp 0) (rfl) (jd 35 rfl rfl y5 rfl (vP vp 0) (jl _ rfl _ rfl) (jd 36 rfl rfl y5 rfl (vP vp 2) (je 62 _ 2 rfl vp 0 rfl 2 (by kernel_rfl)) (jd 37 rfl rfl y5 rfl (nK c) (ldRvi _ rfl vp rfl (kvp)) (jd 38 rfl rfl y5 rfl (vF) (yV 2 _ _ _ rfl ((n : Nat) : Int) ((c : Nat) : Int) rfl rfl false h2 _) ?_)))))
  refine nq ?_
  refine jd 39 rfl rfl y2 rfl (vF) (rfl) (mv (vF) rfl (nq ?_))
  refine qL (qF rfl (qK (qE (qG (mv (nK n) rfl (sv (vT) (jy 2 _ _ _ rfl ((n : Nat) : Int) 0 rfl rfl true k1 _) rfl (nq ?_)))))))
  refine qL (qT rfl (qG (mv (vP vp 0) rfl (mv (nK n) rfl (sv (vP vp 0) (jl _ rfl _ rfl) rfl (sv (vP vp 2) (je 62 _ 2 rfl vp 0 rfl 2 (by kernel_rfl)) rfl (nq ?_)))))))
  refine jE rfl rfl 2 _ _ rfl vp 2 rfl (nK n) rfl 62 _ kvp #[nK n] rfl si64i (by rw [VP]; exact Nat.le_of_ble_eq_true rfl) (jea _) (rvA none ro R.length rc ((n : Nat) : Int)) (jbo _ _ _ _ _ _) ?_
  intro w5 St
  replace HS := HS.gros St.gros (yx kvp (by decide))
  replace HW := HW.st St (fun hm => by obtain ⟨cur, hc, _⟩ := HW.blkt hm; exact jB hc kvp (by decide) rfl)
  replace GG := St.gros.gro GG (fun k hk => by rw [List.mem_singleton.1 hk]; exact bvp)
  have kv2 := St.new
  clear St kvp
  have kvp := kv2
  clear kv2
  have hh2 : hld (ls.take (i + 1)) = some (R.map IM.it, n) := by
    rw [hs]
    unfold hldR
    rw [hx]
    exact if_pos (by have := of_decide_eq_false h2; simp only; omega)
  refine qN (zb (jC (qG (mv (nK i) rfl (sv (nK (i + 1)) (jV 3 _ _ _ rfl ((i : Nat) : Int) 1 ((i + 1 : Nat) : Int) rfl rfl (by omega) (by omega) (by omega) _) rfl (mv (nK (i + 1)) rfl (nq ?_)))))))
  refine qL ?_
  exact ⟨_, by omega, i + 1, n, R, _, _, usK ⟨GG, kvp, HW, HS, by omega, hh2, hn0⟩⟩
  refine jg ?_
  intro OPS hY
  have y2 := hY 2 29 rfl
  have y5 := hY 5 32 rfl
  clear hY
  refine mv (vT) rfl (sv (vF) (jZ _ _ rfl true rfl) rfl (mv (vF) rfl (jd 30 rfl rfl y2 rfl (nK n) (rfl) (jd 31 rfl rfl y2 rfl (vT) (jy 2 _ _ _ rfl ((n : Nat) : Int) 0 rfl rfl true k1 _) (jd 32 rfl rfl y2 rfl (vT) (rfl) ?_)))))
  refine nq ?_
  refine jd 33 rfl rfl y5 rfl (nK n) (rfl) (jd 34 rfl rfl y5 rfl (vP vp 0) (rfl) (jd 35 rfl rfl y5 rfl (vP vp 0) (jl _ rfl _ rfl) (jd 36 rfl rfl y5 rfl (vP vp 2) (je 62 _ 2 rfl vp 0 rfl 2 (by kernel_rfl)) (jd 37 rfl rfl y5 rfl (nK c) (ldRvi _ rfl vp rfl (kvp)) (jd 38 rfl rfl y5 rfl (vT) (yV 2 _ _ _ rfl ((n : Nat) : Int) ((c : Nat) : Int) rfl rfl true h2 _) ?_)))))
  refine nq ?_
  refine jd 39 rfl rfl y2 rfl (vT) (rfl) (mv (vT) rfl (nq ?_))
  refine qL (qT rfl (qE (qG (mv (.slice none 0 0) rfl (mv (iK 0) rfl (mv (vF) rfl (nq ?_)))))))
  refine qL (qR (jm (ze (jm (jm (ze (jm ?_)))))))
  refine bodyPost_ret (results_tmp3 results30 _ _ _) rfl ?_
  have hs2 : hld (ls.take (i + 1)) = none := by
    rw [hs]
    unfold hldR
    rw [hx]
    exact if_neg (by have := of_decide_eq_true h2; simp only; omega)
  rw [ui hs2]
  exact ⟨rfl, GG⟩
  have hxo := jcs HR.lt256 uq hx
  have hx1 := hxo.n1
  have k1 : decide ((0 : Int) < 0) = false := rfl
  have hs2 : hld (ls.take (i + 1)) = some (tkV (R.map IM.it) x, c) := by rw [hs]; unfold hldR; rw [hx]; rfl
  refine qG (mv (.slice ao ls.length cap) rfl (mv (nK i) rfl (sv (.pointer (some (ad.add i))) (yg _ _ rfl ad _ _ i (by rw [← had]; rfl) rfl hlt _) rfl (sv (.slice ao2 r.length cap2) (yB _ rfl (ad.add i) rfl _ _ hcell) rfl (nq ?_)))))
  refine jq 23 rfl rfl _ 55 call55 rfl rfl _ rfl [.slice ao2 r.length cap2] rfl ((JN _ ao2 cap2 r HR (by omega)).mono fun e w' HZ => by rw [hx] at HZ; exact HZ) (by rintro _ _ ⟨_, _, he, _, _⟩; exact ⟨_, he⟩) ?_
  have lzvp := ji kvp
  rintro v w2 ⟨ao3, cap3, he, G, HB⟩
  cases he
  have dHBvp := HB.neB lzvp
  replace HB := HB.mono GG.size
  replace kvp := G.has kvp
  replace HW := HW.gro G
  replace HS := HS.gro G
  replace GG := GG.trans G
  clear G
  refine nq ?_
  refine mv (.tuple #[iA (x.im ao3 cap3), iK 0, vT]) rfl (mv (iA (x.im ao3 cap3)) rfl (mv (iK 0) rfl (mv (vT) rfl (nq ?_))))
  refine jH 7 rfl rfl 42 rfl _ zeroIt (itA zM) rfl ?_
  intro w3 g1 G eg1 kg1
  have bg1 := jh GG eg1
  have dvpg1 := jn kvp eg1
  have dHWg1 := HW.ne eg1
  have dHSg1 := HS.ne eg1
  have dHBg1 := HB.ne eg1
  replace kvp := G.has kvp
  replace HW := HW.gro G
  replace HS := HS.gro G
  replace HB := HB.gro G
  replace GG := GG.trans G
  clear G
  clear eg1
  refine nq ?_
  refine stI (x.im ao3 cap3) rfl rfl rfl kg1 rfl ?_
  intro w4 St
  replace kvp := St.has (by omega) kvp
  replace HW := HW.st St dHWg1
  replace HS := HS.st St dHSg1
  replace HB := HB.st St dHBg1
  replace GG := GG.store St bg1
  replace kg1 := St.new
  clear St
  refine mv (iK 0) rfl (mv (vT) rfl (nq ?_))
  refine qL (qE (qE ?_))
  refine jg ?_
  intro OPS hY
  have y2 := hY 2 29 rfl
  have y5 := hY 5 32 rfl
  clear hY
  refine mv (vT) rfl (sv (vF) (jZ _ _ rfl true rfl) rfl (mv (vF) rfl (jd 30 rfl rfl y2 rfl (iK 0) (rfl) (jd 31 rfl rfl y2 rfl (vF) (jy 2 _ _ _ rfl 0 0 rfl rfl false k1 _) (jd 32 rfl rfl y2 rfl (vF) (rfl) ?_)))))
  refine nq ?_
  refine jk 33 rfl rfl y5 rfl (jk 34 rfl rfl y5 rfl (jk 35 rfl rfl y5 rfl (jk 36 rfl rfl y5 rfl (jk 37 rfl rfl y5 rfl (jk 38 rfl rfl y5 rfl ?_)))))
  refine nq ?_
  refine jd 39 rfl rfl y2 rfl (vF) (rfl) (mv (vF) rfl (nq ?_))
  refine qL (qF rfl (qK (qE (qG (mv (iK 0) rfl (sv (vF) (jy 2 _ _ _ rfl 0 0 rfl rfl false k1 _) rfl (nq ?_)))))))
  refine qL (qF rfl (qG (mv (vP vp 0) rfl (sv (iA (x.im ao3 cap3)) (ldIt0 _ rfl g1 rfl (kg1)) rfl (nq ?_)))))
  have hsz := GG.size
  refine jq 49 rfl rfl _ 37 call37 rfl rfl _ rfl [vP vp 0, iA (x.im ao3 cap3)] rfl (uv _ w.heap.size vp none ro rc R ((c : Nat) : Int) kvp HW GG.size (by omega) hSK (fun y hy => by have := hn0 y hy; omega) (x.im ao3 cap3) (Kg hxo _ _) (by simp only [It.im]; omega)) (by rintro _ _ ⟨_, _, _, _, he, _, _, _, _, _, _⟩; exact ⟨_, he⟩) ?_
  rintro v w5 ⟨b, ro2, rc2, R2, he, G, kv2, HW2, hR2, hm2, _⟩
  cases he
  replace HS := HS.gros G (yx kvp (by decide))
  replace HB := HB.gros G (fun ad ha hm => by obtain ⟨cur, hc⟩ := HB.blk5 ha; exact yx kvp (by decide) _ hm _ hc)
  replace GG := G.gro GG (fun k hk => by rw [List.mem_singleton.1 hk]; exact bvp)
  clear kvp HW
  have kvp := kv2
  have HW := HW2
  clear kv2 HW2
  replace HS := HS.both (x := (x.im ao3 cap3)) HB hm2
  have hh2 : hld (ls.take (i + 1)) = some (R2.map IM.it, c) := by rw [hs2, hR2, Ut]
  refine nq ?_
  refine qN (zb (jC (qG (mv (nK i) rfl (sv (nK (i + 1)) (jV 3 _ _ _ rfl ((i : Nat) : Int) 1 ((i + 1 : Nat) : Int) rfl rfl (by omega) (by omega) (by omega) _) rfl (mv (nK (i + 1)) rfl (nq ?_)))))))
  refine qL ?_
  exact ⟨_, by omega, i + 1, c, R2, _, _, usK ⟨GG, kvp, HW, HS, by omega, hh2, JJ hn0 (x := (x.im ao3 cap3)) (by simp only [It.im]; omega) hm2⟩⟩
end Go.Proofs.YtgfnjekpafempaaGreat
