import Derived.Test.YtgfnjekpafempaaGreatBV12
namespace Go.Proofs.YtgfnjekpafempaaGreat
open Go.RowKit
theorem jat {l : List IM} {j : Nat} (h : j < l.length) : l.getD j zM ∈ l := by
  rw [List.getD_eq_getElem?_getD, List.getElem?_eq_getElem h]
  exact List.getElem_mem h
structure PS (n : Nat) (L : List Nat) (h : Hd) (rs : List (List Nat)) (Lx : List It) (c : Nat) (M : List (Nat × IM)) : Prop where
  good : Good L n h rs
  hld : hld rs = some (Lx, c)
  rel : MRel M Lx
  sk : SKv Lx
  ok : ∀ x ∈ Lx, x.ok
section
variable {n : Nat} {L : List Nat} {h : Hd} {rs : List (List Nat)} {Lx : List It} {c : Nat} {M : List (Nat × IM)}
theorem PS.few (H : PS n L h rs Lx c M) (hn : n ≤ 4096) : Lx.length ≤ 4096 := H.good.few hn H.hld
theorem QS (x : IM) (ao : Option Addr) (cap : Nat) : (x.re ao cap).it = x.it := rfl
theorem PS.item (H : PS n L h rs Lx c M) (kn : KNM M) (hn0 : ∀ y ∈ M, 0 ≤ y.2.n) {x : IM} (hx : x.it.ok) (hx0 : 0 ≤ x.n) (hq : isN M x = true) {L2 : List Nat} {h2 : Hd} (hg : Good L2 n h2 (rs ++ [formV x.it])) (ao : Option Addr) (cap : Nat) : PS n L2 h2 (rs ++ [formV x.it]) (tkV Lx x.it) c (putM M x.key (x.re ao cap)) :=
  ⟨hg, Yb H.hld hx uq, MRel.put H.rel kn H.sk (Us H.rel hx0 hn0 hq) (QS x ao cap), YR H.sk _, fun y hy => by
    rcases Zo hy with hy | rfl
    · exact H.ok y hy
    · exact hx⟩
theorem PS.fail (H : PS n L h rs Lx c M) {L2 : List Nat} {h2 : Hd} (hg : Good L2 n h2 rs) : PS n L2 h2 rs Lx c M := ⟨hg, H.hld, H.rel, H.sk, H.ok⟩
end
theorem VK.keepW {U : List Nat} {w w' : World} {vp lp p sg mb n : Nat} {L : List Nat} {pw dn : Int} {h : Hd} {dw : Bool} {inc : Int} {M : List (Nat × IM)} (H : VK U w vp lp p sg mb n L pw dn h dw inc M) (G : GroS [vp, lp, p, sg, mb] w w') {B : Nat} {ao : Option Addr} {cap : Nat} {l : List IM} (HO : OW kM 42 w B ao cap l) : OW kM 42 w' B ao cap l :=
  HO.gros G fun k hk hm => by
    obtain ⟨cur, hc, _⟩ := HO.blkt hk
    exact H.nin hc (by decide) hm
theorem DK.keepW {w w' : World} {p sg n : Nat} {L : List Nat} {pw dn : Int} (H : DK w p sg n L pw dn) (G : GroS [p, sg] w w') {B : Nat} {ao : Option Addr} {cap : Nat} {l : List IM} (HO : OW kM 42 w B ao cap l) : OW kM 42 w' B ao cap l :=
  HO.gros G fun k hk hm => by
    obtain ⟨cur, hc, _⟩ := HO.blkt hk
    exact H.nin hc (by decide) hm
theorem VK.nrow {U : List Nat} {w : World} {vp lp p sg mb n : Nat} {L : List Nat} {pw dn : Int} {h : Hd} {dw : Bool} {inc : Int} {M : List (Nat × IM)} (H : VK U w vp lp p sg mb n L pw dn h dw inc M) {g : Nat} {c : Array Value} {t : TypeId} (hk : w.heap[g]? = some (.cells c t (0, 0))) (ht : t ≠ 5) : ∀ x ∈ M, ∀ ad, x.2.ao = some ad → 0 < x.2.val.length → ad.block ≠ g := fun x hx ad ha h0 => by
  obtain ⟨cur, hc⟩ := (H.mr.row x hx).ty ad ha h0
  exact jB hc hk (Ne.symm ht)
theorem VK.gros {U : List Nat} {w w' : World} {vp lp p sg mb n : Nat} {L : List Nat} {pw dn : Int} {h : Hd} {dw : Bool} {inc : Int} {M : List (Nat × IM)} (H : VK U w vp lp p sg mb n L pw dn h dw inc M) {S : List Nat} (G : GroS S w w') (hs : ∀ k ∈ S, k ∉ [vp, lp, p, sg, mb] ∧ ∀ x ∈ M, ∀ ad, x.2.ao = some ad → 0 < x.2.val.length → ad.block ≠ k) : VK U w' vp lp p sg mb n L pw dn h dw inc M := by
  have hk : ∀ k ∈ [vp, lp, p, sg, mb], k ∉ S := fun k hm hS => (hs k hS).1 hm
  exact ⟨⟨G.has H.vb.box (hk _ (by simp)), H.vb.map.gros G (hk _ (by simp)), H.vb.ok⟩, H.log.gros G (hk _ (by simp)), H.dsk.gros G (hk _ (by simp)) (hk _ (by simp)), ⟨fun x hx => ⟨⟨G.nc (H.mr.row x hx).nc (fun ad ha h0 hm => (hs _ hm).2 x hx ad ha h0 rfl), (H.mr.row x hx).ne⟩, fun ad ha h0 => by
    obtain ⟨cur, hc⟩ := (H.mr.row x hx).ty ad ha h0
    exact ⟨cur, G.has hc (fun hm => (hs _ hm).2 x hx ad ha h0 rfl)⟩⟩, H.mr.key, H.mr.n1, H.mr.len⟩, H.sub, fun k hk => Nat.lt_of_lt_of_le (H.lt k hk) G.size⟩
theorem YN {P : Program} {c1 c2 : Code} {Q : Exit → Act → World → Prop} {a : Act} {w : World} (R : Act → World → Prop) (h2 : ∀ a w, R a w → c2.wp P Q a w) (h1 : (∀ a w, R a w → c2.wp P Q a w) → (Code.seq c1 c2).wp P Q a w) : (Code.seq c1 c2).wp P Q a w := h1 h2
section
variable {w w' : World} {B : Nat} {ao ao2 bo : Option Addr} {bap : Nat} {m : List IM}
theorem Je (k : OW kM 42 w B bo bap m) (ha : ∀ j ∈ blk bo, j ∉ blk ao) (hK : Kept w.heap.size ao ao2) : ∀ j ∈ blk bo, j ∉ blk ao2 := fun j hj hm => by
  rcases hK j hm with h | h
  · exact ha j hj h
  · have := k.own.lt j hj
    omega
theorem uP (h : ∀ j ∈ blk ao, j ∉ blk bo) : ∀ j ∈ blk bo, j ∉ blk ao := fun j hj hm => h j hm hj
end
theorem VK.power {U : List Nat} {w w' : World} {vp lp p sg mb n : Nat} {L : List Nat} {pw pw2 dn : Int} {h : Hd} {dw : Bool} {inc : Int} {M : List (Nat × IM)} (H : VK U w vp lp p sg mb n L pw dn h dw inc M) (G : GroS [p] w w') (HD : DK w' p sg n L pw2 dn) : VK U w' vp lp p sg mb n L pw2 dn h dw inc M :=
  ⟨⟨G.has H.vb.box (by simpa using H.n2), H.vb.map.gros G (by simpa using H.n8.symm), H.vb.ok⟩, H.log.gros G (by simpa using H.n5), HD, H.mr.gros G (fun k hk => by rw [List.mem_singleton.1 hk]; exact H.sub p (by simp)), H.sub, fun k hk => Nat.lt_of_lt_of_le (H.lt k hk) G.size⟩
end Go.Proofs.YtgfnjekpafempaaGreat
