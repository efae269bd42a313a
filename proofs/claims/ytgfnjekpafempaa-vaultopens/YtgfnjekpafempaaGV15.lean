/- Whether a vault holds what it must; of each key the newest is kept (the law). -/
import Derived.Test.YtgfnjekpafempaaGV12
namespace Go.Proofs.Ytgfnjekpafempaa
open Go.RowKit
theorem QX {l : List IM} {j : Nat} (h : j < l.length) : l.getD j zM ∈ l := by
  rw [List.getD_eq_getElem?_getD, List.getElem?_eq_getElem h]
  exact List.getElem_mem h
end Go.Proofs.Ytgfnjekpafempaa
namespace Go.Proofs.Ytgfnjekpafempaa
open Go.RowKit
structure PS (n : Nat) (L : List Nat) (h : Hd) (rs : List (List Nat)) (Lx : List It) (c : Nat) (M : List (Nat × IM)) : Prop where
  good : Good L n h rs
  hld : hld rs = some (Lx, c)
  rel : MRel M Lx
  sk : SKv Lx
  ok : ∀ x ∈ Lx, x.ok
section
variable {n : Nat} {L : List Nat} {h : Hd} {rs : List (List Nat)} {Lx : List It} {c : Nat} {M : List (Nat × IM)}
theorem PS.few (H : PS n L h rs Lx c M) (hn : n ≤ 4096) : Lx.length ≤ 4096 := H.good.few hn H.hld
theorem PS.fail (H : PS n L h rs Lx c M) {L2 : List Nat} {h2 : Hd} (hg : Good L2 n h2 rs) : PS n L2 h2 rs Lx c M := ⟨hg, H.hld, H.rel, H.sk, H.ok⟩
end
theorem VK.keepW {U : List Nat} {w w' : World} {vp lp p sg mb n : Nat} {L : List Nat} {pw dn : Int} {h : Hd} {dw : Bool} {inc : Int} {M : List (Nat × IM)} (H : VK U w vp lp p sg mb n L pw dn h dw inc M) (G : GroS [vp, lp, p, sg, mb] w w') {B : Nat} {ao : Option Addr} {cap : Nat} {l : List IM} (HO : OW kM 56 w B ao cap l) : OW kM 56 w' B ao cap l :=
  HO.gros G fun k hk hm => by
    obtain ⟨cur, hc, _⟩ := HO.blkt hk
    exact H.nin hc (by decide) hm
theorem DK.keepW {w w' : World} {p sg n : Nat} {L : List Nat} {pw dn : Int} (H : DK w p sg n L pw dn) (G : GroS [p, sg] w w') {B : Nat} {ao : Option Addr} {cap : Nat} {l : List IM} (HO : OW kM 56 w B ao cap l) : OW kM 56 w' B ao cap l :=
  HO.gros G fun k hk hm => by
    obtain ⟨cur, hc, _⟩ := HO.blkt hk
    exact H.nin hc (by decide) hm
theorem VK.nrow {U : List Nat} {w : World} {vp lp p sg mb n : Nat} {L : List Nat} {pw dn : Int} {h : Hd} {dw : Bool} {inc : Int} {M : List (Nat × IM)} (H : VK U w vp lp p sg mb n L pw dn h dw inc M) {g : Nat} {c : Array Value} {t : TypeId} (hk : w.heap[g]? = some (.cells c t (0, 0))) (ht : t ≠ 5) : ∀ x ∈ M, ∀ ad, x.2.ao = some ad → 0 < x.2.val.length → ad.block ≠ g := fun x hx ad ha h0 => by
  obtain ⟨cur, hc⟩ := (H.mr.row x hx).ty ad ha h0
  exact zj hc hk (Ne.symm ht)
theorem VK.gros {U : List Nat} {w w' : World} {vp lp p sg mb n : Nat} {L : List Nat} {pw dn : Int} {h : Hd} {dw : Bool} {inc : Int} {M : List (Nat × IM)} (H : VK U w vp lp p sg mb n L pw dn h dw inc M) {S : List Nat} (G : GroS S w w') (hs : ∀ k ∈ S, k ∉ [vp, lp, p, sg, mb] ∧ ∀ x ∈ M, ∀ ad, x.2.ao = some ad → 0 < x.2.val.length → ad.block ≠ k) : VK U w' vp lp p sg mb n L pw dn h dw inc M := by
  have hk : ∀ k ∈ [vp, lp, p, sg, mb], k ∉ S := fun k hm hS => (hs k hS).1 hm
  exact ⟨⟨G.has H.vb.box (hk _ (by simp)), H.vb.map.gros G (hk _ (by simp)), H.vb.ok⟩, H.log.gros G (hk _ (by simp)), H.dsk.gros G (hk _ (by simp)) (hk _ (by simp)), ⟨fun x hx => ⟨⟨G.nc (H.mr.row x hx).nc (fun ad ha h0 hm => (hs _ hm).2 x hx ad ha h0 rfl), (H.mr.row x hx).ne⟩, fun ad ha h0 => by
    obtain ⟨cur, hc⟩ := (H.mr.row x hx).ty ad ha h0
    exact ⟨cur, G.has hc (fun hm => (hs _ hm).2 x hx ad ha h0 rfl)⟩⟩, H.mr.key, H.mr.n1, H.mr.len⟩, H.sub, fun k hk => Nat.lt_of_lt_of_le (H.lt k hk) G.size⟩
end Go.Proofs.Ytgfnjekpafempaa
namespace Go.Proofs.Ytgfnjekpafempaa
open Go.RowKit
theorem jce {P : Program} {c1 c2 : Code} {Q : Exit → Act → World → Prop} {a : Act} {w : World} (R : Act → World → Prop) (h2 : ∀ a w, R a w → c2.wp P Q a w) (h1 : (∀ a w, R a w → c2.wp P Q a w) → (Code.seq c1 c2).wp P Q a w) : (Code.seq c1 c2).wp P Q a w := h1 h2
section
variable {w w' : World} {B : Nat} {ao ao2 bo : Option Addr} {bap : Nat} {m : List IM}
theorem uI (k : OW kM 56 w B bo bap m) (ha : ∀ j ∈ blk bo, j ∉ blk ao) (hK : Kept w.heap.size ao ao2) : ∀ j ∈ blk bo, j ∉ blk ao2 := fun j hj hm => by
  rcases hK j hm with h | h
  · exact ha j hj h
  · have := k.own.lt j hj
    omega
theorem uu (h : ∀ j ∈ blk ao, j ∉ blk bo) : ∀ j ∈ blk bo, j ∉ blk ao := fun j hj hm => h j hm hj
end
end Go.Proofs.Ytgfnjekpafempaa
