import Derived.Test.YtgfnjekpafempaaGreatBD1
import Derived.Test.YtgfnjekpafempaaGreatBB11
import Derived.Test.YtgfnjekpafempaaGreatBQ0
import Derived.Test.YtgfnjekpafempaaGreatBAb
namespace Go.Proofs.YtgfnjekpafempaaGreat
open Go.Proofs.Tryz
set_option maxHeartbeats 4000000
set_option maxRecDepth 100000
open Go.RowKit
/-! ### Regions whose operations are not looked at again -/
structure DK (w : World) (p sg n : Nat) (L : List Nat) (pw dn : Int) : Prop where
  box : w.heap[p]? = some (.cells (c92 ⟨some ⟨sg, 0, none⟩, n, n⟩ pw dn) 92 (0, 0))
  sec : w.heap[sg]? = some (.cells (bv L) 89 (0, 0))
  len : L.length = n * 64
  le : n ≤ 4096
  byte : ∀ x ∈ L, x < 256
  ne : p ≠ sg
theorem DK.gro {w w' : World} {p sg n : Nat} {L : List Nat} {pw dn : Int} (h : DK w p sg n L pw dn) (G : Gro w w') : DK w' p sg n L pw dn := ⟨G.has h.box, G.has h.sec, h.len, h.le, h.byte, h.ne⟩
theorem DK.gros {S : List Nat} {w w' : World} {p sg n : Nat} {L : List Nat} {pw dn : Int} (h : DK w p sg n L pw dn) (G : GroS S w w') (hp : p ∉ S) (hs : sg ∉ S) : DK w' p sg n L pw dn := ⟨G.has h.box hp, G.has h.sec hs, h.len, h.le, h.byte, h.ne⟩
theorem yT (w : World) (p sg n : Nat) (L : List Nat) (pw dn : Int) (H : DK w p sg n L pw dn) : Calls Tryz.prog 33 #[vP p 0] w fun e w' => e = .returned (nK n) ∧ Gro w w' := by
  refine eN func33 rfl ntmps33 [vP p 0] ?_
  have GG := Gro.refl w
  have kp := H.box
  have ksg := H.sec
  have hne := H.ne
  refine qE (qG (mv (iK 0) rfl (nq ?_)))
  refine qL (qE (qE (qG (mv (vP p 0) rfl (sv (vF) (jT 23 _ _ _ rfl _ rfl rfl underlying23 _) rfl (nq ?_))))))
  refine qL (qF rfl (qK (qE (qG (mv (vP p 0) rfl (sv (vP p 0) (jl _ rfl _ rfl) rfl (sv (vP p 0) (je 92 _ 0 rfl _ _ rfl _ (by kernel_rfl)) rfl (sv (.slice (some ⟨sg, 0, none⟩) n n) (jo 90 _ rfl p 0 rfl 92 _ kp (na90 _) _ rfl) rfl (sv (nK n) (js underlying90 _ rfl _ _ _ rfl _) rfl (mv (nK n) rfl ?_))))))))))
  refine nq ?_
  refine qL (qR ?_)
  refine bodyPost_ret (results_tmp results33 _ _ _) rfl ?_
  exact ⟨rfl, GG⟩
theorem Yz (w : World) (p sg n : Nat) (L : List Nat) (pw dn : Int) (H : DK w p sg n L pw dn) (x : Int) : Calls Tryz.prog 9 #[vP p 0, iK x] w fun e w' => e = .returned (.tuple #[]) ∧ GroS [p] w w' ∧ DK w' p sg n L (max x (-1)) dn := by
  refine eN func9 rfl ntmps9 [vP p 0, iK x] ?_
  have GG := GroS.refl [p] w
  have kp := H.box
  have ksg := H.sec
  have hne := H.ne
  refine qE (qE (qG (mv (vP p 0) rfl (sv (vF) (jT 23 _ _ _ rfl _ rfl rfl underlying23 _) rfl (nq ?_)))))
  refine qL (qF rfl (qK (qG (mv (vP p 0) rfl (mv (iK x) rfl (sv (iK (max x (-1))) (JM _ _ _ rfl x (-1) _ rfl rfl rfl _) rfl (sv (vP p 0) (jl _ rfl _ rfl) rfl (sv (vP p 1) (je 92 _ 1 rfl _ _ rfl _ (by kernel_rfl)) rfl (nq ?_)))))))))
  refine jE rfl rfl 3 _ _ rfl p 1 rfl (iK (max x (-1))) rfl 92 _ kp #[iK (max x (-1))] rfl (by kernel_rfl) (Nat.le_of_ble_eq_true rfl) (by kernel_rfl) (c92 ⟨some ⟨sg, 0, none⟩, n, n⟩ (max x (-1)) dn) (by kernel_rfl) ?_
  intro w2 St
  replace ksg := St.has (by omega) ksg
  replace GG := GG.st St (.inr (by simp))
  replace kp := St.new
  clear St
  refine qN ?_
  refine post_n (results_none results9 _ _ _) rfl ?_
  exact ⟨rfl, GG, kp, ksg, H.len, H.le, H.byte, H.ne⟩
def hasB (n : Nat) (i : Int) : Bool := bif decide (0 ≤ i) then decide (i < (n : Int)) else false
theorem Zz (w : World) (p sg n : Nat) (L : List Nat) (pw dn : Int) (H : DK w p sg n L pw dn) (i : Int) : Calls Tryz.prog 93 #[vP p 0, iK i] w fun e w' => e = .returned (.bool (hasB n i)) ∧ Gro w w' := by
  refine eN func93 rfl ntmps93 [vP p 0, iK i] ?_
  have GG := Gro.refl w
  have kp := H.box
  have ksg := H.sec
  have hne := H.ne
  refine qE (qG (mv (vF) rfl (nq ?_)))
  refine qL (qE ?_)
  refine jg ?_
  intro OPS hY
  have y2 := hY 2 7 rfl
  clear hY
  refine mv (iK i) rfl (nq ?_)
  obtain ⟨p1, hp1⟩ : ∃ p, decide (0 ≤ i) = p := ⟨_, rfl⟩
  refine sv (.bool p1) (yV 3 _ _ _ rfl 0 i rfl rfl p1 hp1 _) rfl (nq ?_)
  cases p1
  refine vw _ rfl rfl (vF) rfl ?_
  refine nq ?_
  iterate 4 (refine jk _ rfl rfl y2 rfl ?_; refine nr ?_; intro U h; simp only [z0, z1] at h; subst h)
  refine vw _ rfl rfl (vF) rfl ?_
  refine vw _ rfl rfl (vF) rfl ?_
  refine nq ?_
  refine qL (qR ?_)
  refine bodyPost_ret (results_tmp results93 _ _ _) rfl ?_
  refine ⟨?_, GG⟩
  show Ending.returned (vF) = _
  unfold hasB
  rw [hp1]
  first | done | rfl
  refine mv (vT) rfl (jd 8 rfl rfl y2 rfl (iK i) (rfl) (jd 9 rfl rfl y2 rfl (vP p 0) (rfl) (nq ?_)))
  refine zP 10 rfl rfl y2 rfl _ 33 call33 rfl rfl _ rfl [vP p 0] rfl (yT w p sg n L pw dn (H.gro GG)) ?_
  intro w1 G
  replace kp := G.has kp
  replace ksg := G.has ksg
  replace GG := GG.trans G
  clear G
  refine nq ?_
  obtain ⟨p2, hp2⟩ : ∃ p, decide (i < ((n : Nat) : Int)) = p := ⟨_, rfl⟩
  refine jd 11 rfl rfl y2 rfl (.bool p2) (jv 3 _ _ _ rfl i ((n : Nat) : Int) rfl rfl p2 hp2 _) (nq ?_)
  cases p2
  refine vw _ rfl rfl (vF) rfl ?_
  refine vw _ rfl rfl (vF) rfl ?_
  refine nq ?_
  refine qL (qR ?_)
  refine bodyPost_ret (results_tmp results93 _ _ _) rfl ?_
  refine ⟨?_, GG⟩
  show Ending.returned (vF) = _
  unfold hasB
  rw [hp1, hp2]
  first | done | rfl
  refine mv (vT) rfl (mv (vT) rfl (nq ?_))
  refine qL (qR ?_)
  refine bodyPost_ret (results_tmp results93 _ _ _) rfl ?_
  refine ⟨?_, GG⟩
  show Ending.returned (vT) = _
  unfold hasB
  rw [hp1, hp2]
  first | done | rfl
end Go.Proofs.YtgfnjekpafempaaGreat
