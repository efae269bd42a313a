/- Disk: how many sectors, how many writes, power. -/
import Derived.Test.YtgfnjekpafempaaGD1
import Derived.Test.YtgfnjekpafempaaGB11
import Derived.Test.YtgfnjekpafempaaGQ0
import Derived.Test.YtgfnjekpafempaaGAb
namespace Go.Proofs.Ytgfnjekpafempaa
set_option maxHeartbeats 4000000
set_option maxRecDepth 100000
open Go.RowKit
/-! ### Regions whose operations are not looked at again -/
structure DK (w : World) (p sg n : Nat) (L : List Nat) (pw dn : Int) : Prop where
  box : w.heap[p]? = some (.cells (c101 ⟨some ⟨sg, 0, none⟩, n, n⟩ pw dn) 101 (0, 0))
  sec : w.heap[sg]? = some (.cells (bv L) 98 (0, 0))
  len : L.length = n * 64
  le : n ≤ 4096
  byte : ∀ x ∈ L, x < 256
  ne : p ≠ sg
theorem DK.gro {w w' : World} {p sg n : Nat} {L : List Nat} {pw dn : Int} (h : DK w p sg n L pw dn) (G : Gro w w') : DK w' p sg n L pw dn := ⟨G.has h.box, G.has h.sec, h.len, h.le, h.byte, h.ne⟩
theorem DK.gros {S : List Nat} {w w' : World} {p sg n : Nat} {L : List Nat} {pw dn : Int} (h : DK w p sg n L pw dn) (G : GroS S w w') (hp : p ∉ S) (hs : sg ∉ S) : DK w' p sg n L pw dn := ⟨G.has h.box hp, G.has h.sec hs, h.len, h.le, h.byte, h.ne⟩
theorem va (w : World) (p sg n : Nat) (L : List Nat) (pw dn : Int) (H : DK w p sg n L pw dn) : Calls Try.prog 43 #[vP p 0] w fun e w' => e = .returned (nK n) ∧ Gro w w' := by
  refine js Try.func43 rfl Try.ntmps43 [vP p 0] [vP p 0, uD, uD, uD, uD, uD, uD, uD, uD, uD] rfl ?_
  have GG := Gro.refl w
  have kp := H.box
  have ksg := H.sec
  have hne := H.ne
  refine qS ?_
  refine ja 2 rfl rfl (iK 0) (rfl) ?_
  refine nr ?_; intro U h; simp only [z0, z1] at h; subst h
  refine qL (qE (qS ?_))
  refine ja 3 rfl rfl (vP p 0) (rfl) ?_
  refine ja 4 rfl rfl (vF) (zg 32 _ _ _ rfl _ rfl rfl Try.underlying32 _) ?_
  refine nr ?_; intro U h; simp only [z0, z1] at h; subst h
  refine qL (qF rfl (qK (qS ?_)))
  refine ja 5 rfl rfl (vP p 0) (rfl) ?_
  refine ja 6 rfl rfl (vP p 0) (jn _ rfl _ rfl) ?_
  refine ja 7 rfl rfl (vP p 0) (jf 101 _ 0 rfl _ _ rfl _ (by kernel_rfl)) ?_
  refine ja 8 rfl rfl (.slice (some ⟨sg, 0, none⟩) n n) (jq 99 _ rfl p 0 rfl 101 _ kp (na99 _) _ rfl) ?_
  refine ja 9 rfl rfl (nK n) (jA Try.underlying99 _ rfl _ _ _ rfl _) ?_
  refine ja 2 rfl rfl (nK n) (rfl) ?_
  refine nr ?_; intro U h; simp only [z0, z1] at h; subst h
  refine qL (qR ?_)
  refine bodyPost_ret (results_tmp Try.results43 _ _ _) rfl ?_
  exact ⟨rfl, GG⟩
def hasB (n : Nat) (i : Int) : Bool := bif decide (0 ≤ i) then decide (i < (n : Int)) else false
theorem JX (w : World) (p sg n : Nat) (L : List Nat) (pw dn : Int) (H : DK w p sg n L pw dn) (i : Int) : Calls Try.prog 96 #[vP p 0, iK i] w fun e w' => e = .returned (.bool (hasB n i)) ∧ Gro w w' := by
  refine js Try.func96 rfl Try.ntmps96 [vP p 0, iK i] [vP p 0, iK i, uD, uD, uD, uD, uD, uD, uD, uD, uD, uD, uD] rfl ?_
  have GG := Gro.refl w
  have kp := H.box
  have ksg := H.sec
  have hne := H.ne
  refine qS ?_
  refine ja 4 rfl rfl (vF) (rfl) ?_
  refine nr ?_; intro U h; simp only [z0, z1] at h; subst h
  refine qL (qE ?_)
  refine jj ?_
  intro OPS hY
  have y2 := hY 2 7 rfl
  clear hY
  refine ja 5 rfl rfl (iK i) (rfl) ?_
  refine nr ?_; intro U h; simp only [z0, z1] at h; subst h
  obtain ⟨p1, hp1⟩ : ∃ p, decide (0 ≤ i) = p := ⟨_, rfl⟩
  refine ja 6 rfl rfl (.bool p1) (ve 3 _ _ _ rfl 0 i rfl rfl p1 hp1 _) ?_
  refine nr ?_; intro U h; simp only [z0, z1] at h; subst h
  cases p1
  refine ja _ rfl rfl (vF) rfl ?_
  refine nr ?_; intro U h; simp only [z0, z1] at h; subst h
  iterate 4 (refine jo _ rfl rfl y2 rfl ?_; refine nr ?_; intro U h; simp only [z0, z1] at h; subst h)
  refine ja _ rfl rfl (vF) rfl ?_
  refine ja _ rfl rfl (vF) rfl ?_
  refine nr ?_; intro U h; simp only [z0, z1] at h; subst h
  refine qL (qR ?_)
  refine bodyPost_ret (results_tmp Try.results96 _ _ _) rfl ?_
  refine ⟨?_, GG⟩
  show Ending.returned (vF) = _
  unfold hasB
  rw [hp1]
  first | done | rfl
  refine ja 7 rfl rfl (vT) (rfl) ?_
  refine je 8 rfl rfl y2 rfl (iK i) (rfl) ?_
  refine je 9 rfl rfl y2 rfl (vP p 0) (rfl) ?_
  refine nr ?_; intro U h; simp only [z0, z1] at h; subst h
  refine yd 10 rfl rfl y2 rfl _ 43 Try.call43 rfl rfl _ rfl [vP p 0] rfl (va w p sg n L pw dn (H.gro GG)) ?_
  intro w1 G
  replace kp := G.has kp
  replace ksg := G.has ksg
  replace GG := GG.trans G
  clear G
  refine nr ?_; intro U h; simp only [z0, z1] at h; subst h
  obtain ⟨p2, hp2⟩ : ∃ p, decide (i < ((n : Nat) : Int)) = p := ⟨_, rfl⟩
  refine je 11 rfl rfl y2 rfl (.bool p2) (jE 3 _ _ _ rfl i ((n : Nat) : Int) rfl rfl p2 hp2 _) ?_
  refine nr ?_; intro U h; simp only [z0, z1] at h; subst h
  cases p2
  refine ja _ rfl rfl (vF) rfl ?_
  refine nr ?_; intro U h; simp only [z0, z1] at h; subst h
  refine ja _ rfl rfl (vF) rfl ?_
  refine nr ?_; intro U h; simp only [z0, z1] at h; subst h
  refine qL (qR ?_)
  refine bodyPost_ret (results_tmp Try.results96 _ _ _) rfl ?_
  refine ⟨?_, GG⟩
  show Ending.returned (vF) = _
  unfold hasB
  rw [hp1, hp2]
  first | done | rfl
  refine ja 12 rfl rfl (vT) (rfl) ?_
  refine ja 4 rfl rfl (vT) (rfl) ?_
  refine nr ?_; intro U h; simp only [z0, z1] at h; subst h
  refine qL (qR ?_)
  refine bodyPost_ret (results_tmp Try.results96 _ _ _) rfl ?_
  refine ⟨?_, GG⟩
  show Ending.returned (vT) = _
  unfold hasB
  rw [hp1, hp2]
  first | done | rfl
end Go.Proofs.Ytgfnjekpafempaa
