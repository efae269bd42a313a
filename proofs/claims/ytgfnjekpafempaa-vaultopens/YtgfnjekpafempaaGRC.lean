/- The document's side: what the records say. -/
import Derived.Test.YtgfnjekpafempaaGRB
import Derived.Test.YtgfnjekpafempaaGAb
namespace Go.Proofs.Ytgfnjekpafempaa
open Go.RowKit
theorem Ub {w : World} {vp : Nat} {c : Array Value} {t : TypeId} (k : w.heap[vp]? = some (.cells c t (0, 0))) (ht : t ≠ 5) : ∀ j ∈ [vp], ∀ d, w.heap[j]? ≠ some (.cells d 5 (0, 0)) := fun j hj d hd => by
  rw [List.mem_singleton.1 hj, k] at hd
  injection hd with hd
  injection hd with _ h2
  exact ht h2
theorem OBs.both {w : World} {B : Nat} {R R2 : List IM} {x : IM} (h : OBs w B R) (hx : OB w 5 .u8 B x.ao x.cap x.val) (hm : ∀ y ∈ R2, y ∈ R ∨ y = x) : OBs w B R2 := fun y hy => by
  rcases hm y hy with hy | rfl
  · exact h y hy
  · exact hx
theorem jcc {R R2 : List IM} {x : IM} {p : IM → Prop} (h : ∀ y ∈ R, p y) (hx : p x) (hm : ∀ y ∈ R2, y ∈ R ∨ y = x) : ∀ y ∈ R2, p y := fun y hy => by
  rcases hm y hy with hy | rfl
  · exact h y hy
  · exact hx
theorem Qg {ls : List (List Nat)} {i : Nat} {r : List Nat} (hi : i < ls.length) (hr : ls.getD i [] = r) : ls.take (i + 1) = ls.take i ++ [r] := by
  rw [yu ls [] i hi, hr]
def HdP (w : World) : Option (List It × Nat) → Ending → World → Prop
  | none, e, w' => e = .returned (.tuple #[.slice none 0 0, .int .i64 0, .bool false]) ∧ Gro w w'
  | some s, e, w' => ∃ ao cap R, e = .returned (.tuple #[.slice ao (List.length R) cap, .int .i64 (s.2 : Int), .bool true]) ∧ Gro w w' ∧ OW kM 56 w' w.heap.size ao cap R ∧ OBs w' w.heap.size R ∧ R.map IM.it = s.1 ∧ ∀ y ∈ R, 1 ≤ y.n
set_option maxRecDepth 100000 in
set_option maxHeartbeats 4000000 in
theorem Qx (w : World) (ao : Option Addr) (cap : Nat) (ls : List (List Nat)) (HL : LC w ao cap ls) (hlen : ∀ r ∈ ls, r.length ≤ 1024) (hll : ls.length ≤ 4096) : Calls Try.prog 41 #[.slice ao ls.length cap] w (HdP w (hld ls)) := by
  refine js Try.func41 rfl Try.ntmps41 [.slice ao ls.length cap] [.slice ao ls.length cap, uD, uD, uD, uD, uD, uD, uD, uD, uD, uD, uD, uD, uD, uD, uD, uD, uD, uD, uD, uD, uD, uD, uD, uD, uD, uD, uD, uD, uD, uD, uD, uD, uD, uD, uD, uD, uD, uD, uD, uD, uD, uD, uD, uD, uD, uD, uD, uD, uD, uD, uD, uD, uD, uD, uD, uD, uD] rfl ?_
  have GG := Gro.refl w
  refine qS ?_
  refine ja 2 rfl rfl (.slice none 0 0) (rfl) ?_
  refine ja 3 rfl rfl (iK 0) (rfl) ?_
  refine ja 4 rfl rfl (vF) (rfl) ?_
  refine nr ?_; intro U h; simp only [z0, z1] at h; subst h
  refine qA ?_
  refine ja 10 rfl rfl (.agg (rvA none none 0 0 0)) (jN 48 _ rfl [] rfl _ (bdRv0 _)) ?_
  refine nr ?_; intro U h; simp only [z0, z1] at h; subst h
  refine zw 11 rfl rfl 48 _ rfl _ rfl (rvA none none 0 0 0) rfl ?_
  intro w1 vp G evp kvp
  have bvp : w.heap.size ≤ vp := by rw [← evp]; exact GG.size
  replace GG := GG.trans G
  clear G
  refine nr ?_; intro U h; simp only [z0, z1] at h; subst h
  refine ja 5 rfl rfl (vP vp 0) (rfl) ?_
  refine nr ?_; intro U h; simp only [z0, z1] at h; subst h
  refine qL (qE (qS ?_))
  refine ja 6 rfl rfl (iK 0) (rfl) ?_
  refine nr ?_; intro U h; simp only [z0, z1] at h; subst h
  refine qL (qB ?_)
  refine jV (fun mz az wv => ∃ (i : Nat) (c : Nat) (R : List IM) (ro : Option Addr) (rc : Nat) (us1 : Nat → Value), mz = ls.length - i ∧ az = ⟨[.slice ao ls.length cap, uD, us1 0, us1 1, us1 2, vP vp 0, nK i, us1 3, us1 4, us1 5, .agg (rvA none none 0 0 0), vP vp 0, us1 6, us1 7, us1 8, us1 9, us1 10, us1 11, us1 12, us1 13, us1 14, us1 15, us1 16, us1 17, us1 18, us1 19, us1 20, us1 21, us1 22, us1 23, us1 24, us1 25, us1 26, us1 27, us1 28, us1 29, us1 30, us1 31, us1 32, us1 33, us1 34, us1 35, us1 36, us1 37, us1 38, us1 39, us1 40, us1 41, us1 42, us1 43, uD, uD, uD, uD, uD, uD, uD, uD].toArray, []⟩ ∧ Gro w wv ∧ wv.heap[vp]? = some (.cells (rvA none ro R.length rc ((c : Nat) : Int)) 48 (0, 0)) ∧ OW kM 56 wv w.heap.size ro rc R ∧ OBs wv w.heap.size R ∧ i ≤ ls.length ∧ hld (ls.take i) = some (R.map IM.it, c) ∧ (∀ y ∈ R, 1 ≤ y.n)) ?_ _ ⟨0, 0, [], none, 0, (fun kz => ([.slice none 0 0, iK 0, vF, uD, uD, uD, uD, uD, uD, uD, uD, uD, uD, uD, uD, uD, uD, uD, uD, uD, uD, uD, uD, uD, uD, uD, uD, uD, uD, uD, uD, uD, uD, uD, uD, uD, uD, uD, uD, uD, uD, uD, uD, uD] : List Value).getD kz uD), rfl, rfl, GG, kvp, OW.nil _ _, OBs.nil _ _, Nat.zero_le _, rfl, fun _ h => by (cases h)⟩
  clear GG kvp
  rintro mz az wv ⟨i, c, R, ro, rc, us1, rfl, rfl, GG, kvp, HW, HS, hi, hh, hn0⟩
  have hRl : R.length ≤ i := by
    have h1 := UO (s := ([], 0)) hh
    rw [List.length_map, List.length_take] at h1
    simp only [List.length_nil] at h1
    omega
  refine qE (qE ?_)
  cases h1 : decide (((i : Nat) : Int) < ((ls.length : Nat) : Int))
  have hiq : i = ls.length := by have := of_decide_eq_false h1; omega
  rw [List.take_of_length_le (by omega)] at hh
  refine qG ?_
  refine ja 12 rfl rfl (nK i) (rfl) ?_
  refine ja 13 rfl rfl (.slice ao ls.length cap) (rfl) ?_
  refine ja 14 rfl rfl (nK ls.length) (jA Try.underlying22 _ rfl _ _ _ rfl _) ?_
  refine ja 15 rfl rfl (vF) (jE 3 _ _ _ rfl ((i : Nat) : Int) ((ls.length : Nat) : Int) rfl rfl false h1 _) ?_
  refine nr ?_; intro U h; simp only [z0, z1] at h; subst h
  refine qL (qF rfl (wp_exit (jL (jL (zC (jG (qE ?_)))))))
  refine jl (A := ?Ax1) 9 [(0, 50), (1, 51), (2, 52), (3, 53), (4, 54), (5, 55), (6, 56), (7, 57), (8, 2)] [.val (vP vp 0), .val (vP vp 0), .val (vP vp 1), .val (.slice ro R.length rc), .val (vP vp 0), .val (vP vp 0), .val (vP vp 2), .val (nK c), .val (.slice ro R.length rc)] follows (by kernel_rfl) rfl ?hAx1 (jb ?o0x1 (jb ?o1x1 (jb ?o2x1 (jb ?o3x1 (jb ?o4x1 (jb ?o5x1 (jb ?o6x1 (jb ?o7x1 (jb ?o8x1 jF))))))))) ?restx1
  case hAx1 =>
    intro ptrs
    simp only [full, foldSlots, filledE, postE, List.foldl_cons, List.foldl_nil, List.getD_cons_zero, List.getD_cons_succ, jI, List.set_cons_zero, List.set_cons_succ]
    exact rfl
  case o0x1 => exact fun _ _ _ _ => jg (v := vP vp 0) _ rfl rfl rfl
  case o1x1 => exact fun _ _ _ _ => jd (v := vP vp 0) rfl (jn _ rfl _ rfl)
  case o2x1 => exact fun _ _ _ _ => jd (v := vP vp 1) rfl (jf 48 _ 1 rfl vp 0 rfl 1 (by kernel_rfl))
  case o3x1 => exact fun _ _ hw _ => jd (v := .slice ro R.length rc) rfl (ldRvr _ rfl vp rfl (hw.has kvp))
  case o4x1 => exact fun _ _ _ _ => jg (v := vP vp 0) _ rfl rfl rfl
  case o5x1 => exact fun _ _ _ _ => jd (v := vP vp 0) rfl (jn _ rfl _ rfl)
  case o6x1 => exact fun _ _ _ _ => jd (v := vP vp 2) rfl (jf 48 _ 2 rfl vp 0 rfl 2 (by kernel_rfl))
  case o7x1 => exact fun _ _ hw _ => jd (v := nK c) rfl (ldRvi _ rfl vp rfl (hw.has kvp))
  case o8x1 => exact fun _ _ _ _ => yb (v := .slice ro R.length rc) _ rfl rfl rfl
  intro ptrs w2 GD hxE
  simp only [List.drop_succ_cons, List.drop_zero]
  replace kvp := GD.has kvp
  replace HW := HW.gro ((Gro.refl _).drew.trans GD)
  replace HS := HS.gro ((Gro.refl _).drew.trans GD)
  replace GG := GG.drew.trans GD
  clear GD
  refine ja 3 rfl rfl (nK c) (rfl) ?_
  refine ja 4 rfl rfl (vT) (rfl) ?_
  refine nr ?_; intro U h; simp only [z0, z1] at h; subst h
  refine qL (qR ?_)
  refine bodyPost_ret (results_tmp3 Try.results41 _ _ _) rfl ?_
  rw [hh]
  exact ⟨_, _, R, rfl, GG, HW, HS, rfl, hn0⟩
  have hlt : i < ls.length := by have := of_decide_eq_true h1; omega
  refine qG ?_
  refine ja 12 rfl rfl (nK i) (rfl) ?_
  refine ja 13 rfl rfl (.slice ao ls.length cap) (rfl) ?_
  refine ja 14 rfl rfl (nK ls.length) (jA Try.underlying22 _ rfl _ _ _ rfl _) ?_
  refine ja 15 rfl rfl (vT) (jE 3 _ _ _ rfl ((i : Nat) : Int) ((ls.length : Nat) : Int) rfl rfl true h1 _) ?_
  refine nr ?_; intro U h; simp only [z0, z1] at h; subst h
  refine qL (qT rfl (qK (qE (qB (qE ?_)))))
  obtain ⟨ad, ao2, cap2, had, hcell, HR⟩ := (HL.gro GG).at (j := i) hlt
  obtain ⟨r, hr⟩ : ∃ r, ls.getD i [] = r := ⟨_, rfl⟩
  rw [hr] at hcell HR
  have hrl : r.length ≤ 1024 := hlen r (by rw [← hr]; exact vn hlt)
  have hs : hld (ls.take (i + 1)) = hldR (R.map IM.it, c) r := by rw [Qg hlt hr, yQ, hh]; rfl
  have hSK : SKv (R.map IM.it) := jbb (s := ([], 0)) SKv.nil hh
  rcases hx : readV r with _ | (n | x)
  have hs2 : hld (ls.take (i + 1)) = none := by rw [hs]; unfold hldR; rw [hx]; rfl
  refine qG ?_
  refine ja 19 rfl rfl (.slice ao ls.length cap) (rfl) ?_
  refine ja 20 rfl rfl (nK i) (rfl) ?_
  refine ja 21 rfl rfl (.pointer (some (ad.add i))) (zT _ _ rfl ad _ _ i (by rw [← had]; rfl) rfl hlt _) ?_
  refine ja 22 rfl rfl (.slice ao2 r.length cap2) (yi _ rfl (ad.add i) rfl _ _ hcell) ?_
  refine nr ?_; intro U h; simp only [z0, z1] at h; subst h
  refine jx 23 rfl rfl _ 68 Try.call68 rfl rfl _ rfl [.slice ao2 r.length cap2] rfl ((Jl _ ao2 cap2 r HR (by omega)).mono fun e w' HZ => by rw [hx] at HZ; exact HZ) (by rintro _ _ ⟨_, he, _⟩; exact ⟨_, he⟩) ?_
  rintro v w2 ⟨n, he, G⟩
  cases he
  replace kvp := G.has kvp
  replace HW := HW.gro G
  replace HS := HS.gro G
  replace GG := GG.trans G
  clear G
  refine nr ?_; intro U h; simp only [z0, z1] at h; subst h
  refine ja 18 rfl rfl (.tuple #[.agg (itA zM), iK n, vF]) (rfl) ?_
  refine ja 24 rfl rfl (.agg (itA zM)) (rfl) ?_
  refine ja 25 rfl rfl (iK n) (rfl) ?_
  refine ja 26 rfl rfl (vF) (rfl) ?_
  refine nr ?_; intro U h; simp only [z0, z1] at h; subst h
  refine jU 7 rfl rfl 56 rfl _ zeroIt (itA zM) rfl ?_
  intro w3 g1 G eg1 kg1
  have bg1 := jk GG eg1
  have dvpg1 := jH kvp eg1
  have dHWg1 := HW.ne eg1
  have dHSg1 := HS.ne eg1
  replace kvp := G.has kvp
  replace HW := HW.gro G
  replace HS := HS.gro G
  replace GG := GG.trans G
  clear G
  clear eg1
  refine nr ?_; intro U h; simp only [z0, z1] at h; subst h
  refine jt rfl rfl 56 _ _ rfl g1 0 rfl (.agg (itA zM)) rfl 56 _ kg1 (itA zM) rfl (siIt' _) (jT _ _) (jQ _) (itA zM) (jm _ _ (jZ _ _)) ?_
  intro w4 St
  replace kvp := St.has (by omega) kvp
  replace HW := HW.st St dHWg1
  replace HS := HS.st St dHSg1
  replace GG := GG.store St bg1
  replace kg1 := St.new
  clear St
  refine ja 8 rfl rfl (iK n) (rfl) ?_
  refine ja 9 rfl rfl (vF) (rfl) ?_
  refine nr ?_; intro U h; simp only [z0, z1] at h; subst h
  refine qL (qE (qE ?_))
  refine jj ?_
  intro OPS hY
  have y2 := hY 2 29 rfl
  have y5 := hY 5 32 rfl
  clear hY
  refine ja 27 rfl rfl (vF) (rfl) ?_
  refine ja 28 rfl rfl (vT) (zi _ _ rfl false rfl) ?_
  refine ja 29 rfl rfl (vT) (rfl) ?_
  refine jo 30 rfl rfl y2 rfl ?_
  refine jo 31 rfl rfl y2 rfl ?_
  refine jo 32 rfl rfl y2 rfl ?_
  refine nr ?_; intro U h; simp only [z0, z1] at h; subst h
  refine jo 33 rfl rfl y5 rfl ?_
  refine jo 34 rfl rfl y5 rfl ?_
  refine jo 35 rfl rfl y5 rfl ?_
  refine jo 36 rfl rfl y5 rfl ?_
  refine jo 37 rfl rfl y5 rfl ?_
  refine jo 38 rfl rfl y5 rfl ?_
  refine nr ?_; intro U h; simp only [z0, z1] at h; subst h
  refine jo 39 rfl rfl y2 rfl ?_
  refine ja 40 rfl rfl (vT) (rfl) ?_
  refine nr ?_; intro U h; simp only [z0, z1] at h; subst h
  refine qL (qT rfl (qS ?_))
  refine ja 2 rfl rfl (.slice none 0 0) (rfl) ?_
  refine ja 3 rfl rfl (iK 0) (rfl) ?_
  refine ja 4 rfl rfl (vF) (rfl) ?_
  refine nr ?_; intro U h; simp only [z0, z1] at h; subst h
  refine qL (qR (jr (zk (jr (jr (zk (jr ?_)))))))
  refine bodyPost_ret (results_tmp3 Try.results41 _ _ _) rfl ?_
  rw [vR hs2]
  exact ⟨rfl, GG⟩
  have hn := UB hx
  have k1 : decide ((0 : Int) < ((n : Nat) : Int)) = true := decide_eq_true (by omega)
  refine qG ?_
  refine ja 19 rfl rfl (.slice ao ls.length cap) (rfl) ?_
  refine ja 20 rfl rfl (nK i) (rfl) ?_
  refine ja 21 rfl rfl (.pointer (some (ad.add i))) (zT _ _ rfl ad _ _ i (by rw [← had]; rfl) rfl hlt _) ?_
  refine ja 22 rfl rfl (.slice ao2 r.length cap2) (yi _ rfl (ad.add i) rfl _ _ hcell) ?_
  refine nr ?_; intro U h; simp only [z0, z1] at h; subst h
  refine jy 23 rfl rfl _ 68 Try.call68 rfl rfl _ rfl [.slice ao2 r.length cap2] rfl ((Jl _ ao2 cap2 r HR (by omega)).mono fun e w' HZ => by rw [hx] at HZ; exact HZ) ?_
  intro w2 G
  replace kvp := G.has kvp
  replace HW := HW.gro G
  replace HS := HS.gro G
  replace GG := GG.trans G
  clear G
  refine nr ?_; intro U h; simp only [z0, z1] at h; subst h
  refine ja 18 rfl rfl (.tuple #[.agg (itA zM), nK n, vT]) (rfl) ?_
  refine ja 24 rfl rfl (.agg (itA zM)) (rfl) ?_
  refine ja 25 rfl rfl (nK n) (rfl) ?_
  refine ja 26 rfl rfl (vT) (rfl) ?_
  refine nr ?_; intro U h; simp only [z0, z1] at h; subst h
  refine jU 7 rfl rfl 56 rfl _ zeroIt (itA zM) rfl ?_
  intro w3 g1 G eg1 kg1
  have bg1 := jk GG eg1
  have dvpg1 := jH kvp eg1
  have dHWg1 := HW.ne eg1
  have dHSg1 := HS.ne eg1
  replace kvp := G.has kvp
  replace HW := HW.gro G
  replace HS := HS.gro G
  replace GG := GG.trans G
  clear G
  clear eg1
  refine nr ?_; intro U h; simp only [z0, z1] at h; subst h
  refine jt rfl rfl 56 _ _ rfl g1 0 rfl (.agg (itA zM)) rfl 56 _ kg1 (itA zM) rfl (siIt' _) (jT _ _) (jQ _) (itA zM) (jm _ _ (jZ _ _)) ?_
  intro w4 St
  replace kvp := St.has (by omega) kvp
  replace HW := HW.st St dHWg1
  replace HS := HS.st St dHSg1
  replace GG := GG.store St bg1
  replace kg1 := St.new
  clear St
  refine ja 8 rfl rfl (nK n) (rfl) ?_
  refine ja 9 rfl rfl (vT) (rfl) ?_
  refine nr ?_; intro U h; simp only [z0, z1] at h; subst h
  refine qL (qE (qE ?_))
  cases h2 : decide (((n : Nat) : Int) ≤ ((c : Nat) : Int))
  refine jj ?_
  intro OPS hY
  have y2 := hY 2 29 rfl
  have y5 := hY 5 32 rfl
  clear hY
  refine ja 27 rfl rfl (vT) (rfl) ?_
  refine ja 28 rfl rfl (vF) (zi _ _ rfl true rfl) ?_
  refine ja 29 rfl rfl (vF) (rfl) ?_
  refine je 30 rfl rfl y2 rfl (nK n) (rfl) ?_
  refine je 31 rfl rfl y2 rfl (vT) (jJ 2 _ _ _ rfl ((n : Nat) : Int) 0 rfl rfl true k1 _) ?_
  refine je 32 rfl rfl y2 rfl (vT) (rfl) ?_
  refine nr ?_; intro U h; simp only [z0, z1] at h; subst h
  refine je 33 rfl rfl y5 rfl (nK n) (rfl) ?_
  refine je 34 rfl rfl y5 rfl (vP vp 0) (rfl) ?_
  refine je 35 rfl rfl y5 rfl (vP vp 0) (jn _ rfl _ rfl) ?_
  refine je 36 rfl rfl y5 rfl (vP vp 2) (jf 48 _ 2 rfl vp 0 rfl 2 (by kernel_rfl)) ?_
  refine je 37 rfl rfl y5 rfl (nK c) (ldRvi _ rfl vp rfl (kvp)) ?_
  refine je 38 rfl rfl y5 rfl (vF) (ve 2 _ _ _ rfl ((n : Nat) : Int) ((c : Nat) : Int) rfl rfl false h2 _) ?_
  refine nr ?_; intro U h; simp only [z0, z1] at h; subst h
  refine je 39 rfl rfl y2 rfl (vF) (rfl) ?_
  refine ja 40 rfl rfl (vF) (rfl) ?_
  refine nr ?_; intro U h; simp only [z0, z1] at h; subst h
  refine qL (qF rfl (qK (qS ?_)))
  refine ja 41 rfl rfl (nK n) (rfl) ?_
  refine ja 42 rfl rfl (vT) (jJ 2 _ _ _ rfl ((n : Nat) : Int) 0 rfl rfl true k1 _) ?_
  refine nr ?_; intro U h; simp only [z0, z1] at h; subst h
  refine qL (qT rfl (qG ?_))
  refine ja 43 rfl rfl (vP vp 0) (rfl) ?_
  refine ja 44 rfl rfl (nK n) (rfl) ?_
  refine ja 45 rfl rfl (vP vp 0) (jn _ rfl _ rfl) ?_
  refine ja 46 rfl rfl (vP vp 2) (jf 48 _ 2 rfl vp 0 rfl 2 (by kernel_rfl)) ?_
  refine nr ?_; intro U h; simp only [z0, z1] at h; subst h
  refine jt rfl rfl 2 _ _ rfl vp 2 rfl (nK n) rfl 48 _ kvp #[nK n] rfl si64i (by rw [YG]; exact Nat.le_of_ble_eq_true rfl) (jaz _) (rvA none ro R.length rc ((n : Nat) : Int)) (Kr _ _ _ _ _ _) ?_
  intro w5 St
  replace HS := HS.gros St.gros (Ub kvp (by decide))
  replace HW := HW.st St (fun hm => by obtain ⟨cur, hc, _⟩ := HW.blkt hm; exact zj hc kvp (by decide) rfl)
  replace GG := St.gros.gro GG (fun k hk => by rw [List.mem_singleton.1 hk]; exact bvp)
  have kv2 := St.new
  clear St kvp
  have kvp := kv2
  clear kv2
  have hh2 : hld (ls.take (i + 1)) = some (R.map IM.it, n) := by
    rw [hs]
    unfold hldR
    rw [hx]
    exact if_pos (by have := of_decide_eq_false h2; simp only; omega)
  refine qN (zh (jG (qG ?_)))
  refine ja 16 rfl rfl (nK i) (rfl) ?_
  refine ja 17 rfl rfl (nK (i + 1)) (zm 3 _ _ _ rfl ((i : Nat) : Int) 1 ((i + 1 : Nat) : Int) rfl rfl (by omega) (by omega) (by omega) _) ?_
  refine ja 6 rfl rfl (nK (i + 1)) (rfl) ?_
  refine nr ?_; intro U h; simp only [z0, z1] at h; subst h
  refine qL ?_
  exact ⟨_, by omega, i + 1, n, R, _, _, (fun kz => ([us1 0, us1 1, us1 2, vP g1 0, nK n, vT, nK i, .slice ao ls.length cap, nK ls.length, vT, nK i, nK (i + 1), .tuple #[.agg (itA zM), nK n, vT], .slice ao ls.length cap, nK i, .pointer (some (ad.add i)), .slice ao2 r.length cap2, .tuple #[.agg (itA zM), nK n, vT], .agg (itA zM), nK n, vT, vT, vF, vF, nK n, vT, vT, nK n, vP vp 0, vP vp 0, vP vp 2, nK c, vF, vF, vF, nK n, vT, vP vp 0, nK n, vP vp 0, vP vp 2, us1 41, us1 42, us1 43] : List Value).getD kz uD), rfl, rfl, GG, kvp, HW, HS, by omega, hh2, hn0⟩
  refine jj ?_
  intro OPS hY
  have y2 := hY 2 29 rfl
  have y5 := hY 5 32 rfl
  clear hY
  refine ja 27 rfl rfl (vT) (rfl) ?_
  refine ja 28 rfl rfl (vF) (zi _ _ rfl true rfl) ?_
  refine ja 29 rfl rfl (vF) (rfl) ?_
  refine je 30 rfl rfl y2 rfl (nK n) (rfl) ?_
  refine je 31 rfl rfl y2 rfl (vT) (jJ 2 _ _ _ rfl ((n : Nat) : Int) 0 rfl rfl true k1 _) ?_
  refine je 32 rfl rfl y2 rfl (vT) (rfl) ?_
  refine nr ?_; intro U h; simp only [z0, z1] at h; subst h
  refine je 33 rfl rfl y5 rfl (nK n) (rfl) ?_
  refine je 34 rfl rfl y5 rfl (vP vp 0) (rfl) ?_
  refine je 35 rfl rfl y5 rfl (vP vp 0) (jn _ rfl _ rfl) ?_
  refine je 36 rfl rfl y5 rfl (vP vp 2) (jf 48 _ 2 rfl vp 0 rfl 2 (by kernel_rfl)) ?_
  refine je 37 rfl rfl y5 rfl (nK c) (ldRvi _ rfl vp rfl (kvp)) ?_
  refine je 38 rfl rfl y5 rfl (vT) (ve 2 _ _ _ rfl ((n : Nat) : Int) ((c : Nat) : Int) rfl rfl true h2 _) ?_
  refine nr ?_; intro U h; simp only [z0, z1] at h; subst h
  refine je 39 rfl rfl y2 rfl (vT) (rfl) ?_
  refine ja 40 rfl rfl (vT) (rfl) ?_
  refine nr ?_; intro U h; simp only [z0, z1] at h; subst h
  refine qL (qT rfl (qS ?_))
  refine ja 2 rfl rfl (.slice none 0 0) (rfl) ?_
  refine ja 3 rfl rfl (iK 0) (rfl) ?_
  refine ja 4 rfl rfl (vF) (rfl) ?_
  refine nr ?_; intro U h; simp only [z0, z1] at h; subst h
  refine qL (qR (jr (zk (jr (jr (zk (jr ?_)))))))
  refine bodyPost_ret (results_tmp3 Try.results41 _ _ _) rfl ?_
  have hs2 : hld (ls.take (i + 1)) = none := by
    rw [hs]
    unfold hldR
    rw [hx]
    exact if_neg (by have := of_decide_eq_true h2; simp only; omega)
  rw [vR hs2]
  exact ⟨rfl, GG⟩
  have hxo := KX HR.lt256 JK hx
  have hx1 := hxo.n1
  have k1 : decide ((0 : Int) < 0) = false := rfl
  have hs2 : hld (ls.take (i + 1)) = some (tkV (R.map IM.it) x, c) := by rw [hs]; unfold hldR; rw [hx]; rfl
  refine qG ?_
  refine ja 19 rfl rfl (.slice ao ls.length cap) (rfl) ?_
  refine ja 20 rfl rfl (nK i) (rfl) ?_
  refine ja 21 rfl rfl (.pointer (some (ad.add i))) (zT _ _ rfl ad _ _ i (by rw [← had]; rfl) rfl hlt _) ?_
  refine ja 22 rfl rfl (.slice ao2 r.length cap2) (yi _ rfl (ad.add i) rfl _ _ hcell) ?_
  refine nr ?_; intro U h; simp only [z0, z1] at h; subst h
  refine jx 23 rfl rfl _ 68 Try.call68 rfl rfl _ rfl [.slice ao2 r.length cap2] rfl ((Jl _ ao2 cap2 r HR (by omega)).mono fun e w' HZ => by rw [hx] at HZ; exact HZ) (by rintro _ _ ⟨_, _, he, _, _⟩; exact ⟨_, he⟩) ?_
  have lzvp := ji kvp
  rintro v w2 ⟨ao3, cap3, he, G, HB⟩
  cases he
  have dHBvp := HB.neB lzvp
  replace HB := HB.mono GG.size
  replace kvp := G.has kvp
  replace HW := HW.gro G
  replace HS := HS.gro G
  replace GG := GG.trans G
  clear G
  refine nr ?_; intro U h; simp only [z0, z1] at h; subst h
  refine ja 18 rfl rfl (.tuple #[.agg (itA (x.im ao3 cap3)), iK 0, vT]) (rfl) ?_
  refine ja 24 rfl rfl (.agg (itA (x.im ao3 cap3))) (rfl) ?_
  refine ja 25 rfl rfl (iK 0) (rfl) ?_
  refine ja 26 rfl rfl (vT) (rfl) ?_
  refine nr ?_; intro U h; simp only [z0, z1] at h; subst h
  refine jU 7 rfl rfl 56 rfl _ zeroIt (itA zM) rfl ?_
  intro w3 g1 G eg1 kg1
  have bg1 := jk GG eg1
  have dvpg1 := jH kvp eg1
  have dHWg1 := HW.ne eg1
  have dHSg1 := HS.ne eg1
  have dHBg1 := HB.ne eg1
  replace kvp := G.has kvp
  replace HW := HW.gro G
  replace HS := HS.gro G
  replace HB := HB.gro G
  replace GG := GG.trans G
  clear G
  clear eg1
  refine nr ?_; intro U h; simp only [z0, z1] at h; subst h
  refine jt rfl rfl 56 _ _ rfl g1 0 rfl (.agg (itA (x.im ao3 cap3))) rfl 56 _ kg1 (itA (x.im ao3 cap3)) rfl (siIt' _) (jT _ _) (jQ _) (itA (x.im ao3 cap3)) (jm _ _ (jZ _ _)) ?_
  intro w4 St
  replace kvp := St.has (by omega) kvp
  replace HW := HW.st St dHWg1
  replace HS := HS.st St dHSg1
  replace HB := HB.st St dHBg1
  replace GG := GG.store St bg1
  replace kg1 := St.new
  clear St
  refine ja 8 rfl rfl (iK 0) (rfl) ?_
  refine ja 9 rfl rfl (vT) (rfl) ?_
  refine nr ?_; intro U h; simp only [z0, z1] at h; subst h
  refine qL (qE (qE ?_))
  refine jj ?_
  intro OPS hY
  have y2 := hY 2 29 rfl
  have y5 := hY 5 32 rfl
  clear hY
  refine ja 27 rfl rfl (vT) (rfl) ?_
  refine ja 28 rfl rfl (vF) (zi _ _ rfl true rfl) ?_
  refine ja 29 rfl rfl (vF) (rfl) ?_
  refine je 30 rfl rfl y2 rfl (iK 0) (rfl) ?_
  refine je 31 rfl rfl y2 rfl (vF) (jJ 2 _ _ _ rfl 0 0 rfl rfl false k1 _) ?_
  refine je 32 rfl rfl y2 rfl (vF) (rfl) ?_
  refine nr ?_; intro U h; simp only [z0, z1] at h; subst h
  refine jo 33 rfl rfl y5 rfl ?_
  refine jo 34 rfl rfl y5 rfl ?_
  refine jo 35 rfl rfl y5 rfl ?_
  refine jo 36 rfl rfl y5 rfl ?_
  refine jo 37 rfl rfl y5 rfl ?_
  refine jo 38 rfl rfl y5 rfl ?_
  refine nr ?_; intro U h; simp only [z0, z1] at h; subst h
  refine je 39 rfl rfl y2 rfl (vF) (rfl) ?_
  refine ja 40 rfl rfl (vF) (rfl) ?_
  refine nr ?_; intro U h; simp only [z0, z1] at h; subst h
  refine qL (qF rfl (qK (qS ?_)))
  refine ja 41 rfl rfl (iK 0) (rfl) ?_
  refine ja 42 rfl rfl (vF) (jJ 2 _ _ _ rfl 0 0 rfl rfl false k1 _) ?_
  refine nr ?_; intro U h; simp only [z0, z1] at h; subst h
  refine qL (qF rfl (qG ?_))
  refine ja 47 rfl rfl (vP vp 0) (rfl) ?_
  refine ja 48 rfl rfl (.agg (itA (x.im ao3 cap3))) (ldIt0 _ rfl g1 rfl (kg1)) ?_
  refine nr ?_; intro U h; simp only [z0, z1] at h; subst h
  have hsz := GG.size
  refine jx 49 rfl rfl _ 69 Try.call69 rfl rfl _ rfl [vP vp 0, .agg (itA (x.im ao3 cap3))] rfl (Qv _ w.heap.size vp none ro rc R ((c : Nat) : Int) kvp HW GG.size (by omega) hSK (fun y hy => by have := hn0 y hy; omega) (x.im ao3 cap3) (UM hxo _ _) (by simp only [It.im]; omega)) (by rintro _ _ ⟨_, _, _, _, he, _, _, _, _, _⟩; exact ⟨_, he⟩) ?_
  rintro v w5 ⟨b, ro2, rc2, R2, he, G, kv2, HW2, hR2, hm2⟩
  cases he
  replace HS := HS.gros G (Ub kvp (by decide))
  replace HB := HB.gros G (fun ad ha hm => by obtain ⟨cur, hc⟩ := HB.blk5 ha; exact Ub kvp (by decide) _ hm _ hc)
  replace GG := G.gro GG (fun k hk => by rw [List.mem_singleton.1 hk]; exact bvp)
  clear kvp HW
  have kvp := kv2
  have HW := HW2
  clear kv2 HW2
  replace HS := HS.both (x := (x.im ao3 cap3)) HB hm2
  have hh2 : hld (ls.take (i + 1)) = some (R2.map IM.it, c) := by rw [hs2, hR2, Ve]
  refine nr ?_; intro U h; simp only [z0, z1] at h; subst h
  refine qN (zh (jG (qG ?_)))
  refine ja 16 rfl rfl (nK i) (rfl) ?_
  refine ja 17 rfl rfl (nK (i + 1)) (zm 3 _ _ _ rfl ((i : Nat) : Int) 1 ((i + 1 : Nat) : Int) rfl rfl (by omega) (by omega) (by omega) _) ?_
  refine ja 6 rfl rfl (nK (i + 1)) (rfl) ?_
  refine nr ?_; intro U h; simp only [z0, z1] at h; subst h
  refine qL ?_
  exact ⟨_, by omega, i + 1, c, R2, _, _, (fun kz => ([us1 0, us1 1, us1 2, vP g1 0, iK 0, vT, nK i, .slice ao ls.length cap, nK ls.length, vT, nK i, nK (i + 1), .tuple #[.agg (itA (x.im ao3 cap3)), iK 0, vT], .slice ao ls.length cap, nK i, .pointer (some (ad.add i)), .slice ao2 r.length cap2, .tuple #[.agg (itA (x.im ao3 cap3)), iK 0, vT], .agg (itA (x.im ao3 cap3)), iK 0, vT, vT, vF, vF, iK 0, vF, vF, uD, uD, uD, uD, uD, uD, vF, vF, iK 0, vF, us1 37, us1 38, us1 39, us1 40, vP vp 0, .agg (itA (x.im ao3 cap3)), .bool b] : List Value).getD kz uD), rfl, rfl, GG, kvp, HW, HS, by omega, hh2, jcc hn0 (x := (x.im ao3 cap3)) (by simp only [It.im]; omega) hm2⟩
end Go.Proofs.Ytgfnjekpafempaa
