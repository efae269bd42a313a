/- An append on both sides; the document's vault is opened. -/
import Derived.Test.YtgfnjekpafempaaGRC
import Derived.Test.YtgfnjekpafempaaGE15
import Derived.Test.YtgfnjekpafempaaGAb
namespace Go.Proofs.Ytgfnjekpafempaa
set_option maxHeartbeats 4000000
set_option maxRecDepth 100000
open Go.RowKit
theorem VI (w : World) (mp rp : Nat) (h : Hd) (HM : MK w mp rp h false) (B : Nat) (ro : Option Addr) (rc n : Nat) (L : List Nat) (pw dn : Int) (HR : QK w rp B ro rc n L pw dn) (hu : h.u + 2 ≤ n) (ao : Option Addr) (cap : Nat) (l : List Nat) (HB : BS (rp :: mp :: blk ro) w ao cap l) (hl : l.length ≤ 1024) (hf : h.u + secN l.length + 2 ≤ n) (hP : okP pw) (hg : h.g + 1 < lim) (hc : h.c + 1 < 9223372036854775808) (hd : 0 ≤ dn) (hd2 : dn < 9223372036854760000) (hA : apOK pw (secN l.length) = true) :
    Calls Try.prog 11 #[.pointer (some ⟨mp, 0, none⟩), .slice ao l.length cap] w fun e w' => ∃ dn', e = .returned (.int .i64 0) ∧ GroS (rp :: mp :: blk ro) w w' ∧ dn ≤ dn' ∧ dn' ≤ dn + 20 ∧ QK w' rp B ro rc n (okL L h l) (apP pw (secN l.length)) dn' ∧ MK w' mp rp (h.next (secN l.length)) false := by
  refine (Zo w mp rp h HM B ro rc n L pw dn HR hu ao cap l HB hl hf hP hg hc hd hd2).mono fun e w' H => ?_
  unfold RApP apL apH at H
  rw [hA] at H
  exact H
theorem VJ (w : World) (mp rp : Nat) (h : Hd) (HM : MK w mp rp h false) (B : Nat) (ro : Option Addr) (rc n : Nat) (L : List Nat) (pw dn : Int) (HR : QK w rp B ro rc n L pw dn) (hu : h.u + 2 ≤ n) (ao : Option Addr) (cap : Nat) (l : List Nat) (HB : BS (rp :: mp :: blk ro) w ao cap l) (hl : l.length ≤ 1024) (hf : h.u + secN l.length + 2 ≤ n) (hP : okP pw) (hg : h.g + 1 < lim) (hc : h.c + 1 < 9223372036854775808) (hd : 0 ≤ dn) (hd2 : dn < 9223372036854760000) (hA : apOK pw (secN l.length) = false) :
    Calls Try.prog 11 #[.pointer (some ⟨mp, 0, none⟩), .slice ao l.length cap] w fun e w' => ∃ dn', e = .returned (.int .i64 8) ∧ GroS (rp :: mp :: blk ro) w w' ∧ dn ≤ dn' ∧ dn' ≤ dn + 20 ∧ QK w' rp B ro rc n (apL L pw h l) (apP pw (secN l.length)) dn' ∧ MK w' mp rp h true := by
  refine (Zo w mp rp h HM B ro rc n L pw dn HR hu ao cap l HB hl hf hP hg hc hd hd2).mono fun e w' H => ?_
  unfold RApP apH at H
  rw [hA] at H
  exact H
def SideB (n : Nat) (L : List Nat) (pw : Int) (h : Hd) (dw : Bool) (l : List Nat) (err : Int) (L2 : List Nat) (pw2 : Int) (h2 : Hd) (dw2 : Bool) : Prop :=
  ∀ (w : World) (mp rp B : Nat) (ro : Option Addr) (rc : Nat) (dn : Int) (ao : Option Addr) (cap : Nat), MK w mp rp h dw → QK w rp B ro rc n L pw dn → BS (rp :: mp :: blk ro) w ao cap l → 0 ≤ dn → dn < 9223372036854760000 →
    Calls Try.prog 11 #[.pointer (some ⟨mp, 0, none⟩), .slice ao l.length cap] w fun e w' => ∃ dn', e = .returned (.int .i64 err) ∧ GroS (rp :: mp :: blk ro) w w' ∧ dn ≤ dn' ∧ dn' ≤ dn + 20 ∧ QK w' rp B ro rc n L2 pw2 dn' ∧ MK w' mp rp h2 dw2
theorem notS {w : World} {k : Nat} {c : Array Value} {t : TypeId} {mp rp B : Nat} {ro : Option Addr} {rc n : Nat} {L : List Nat} {pw dn : Int} {h : Hd} {dw : Bool} (hk : w.heap[k]? = some (.cells c t (0, 0))) (HR : QK w rp B ro rc n L pw dn) (HM : MK w mp rp h dw) (h1 : t ≠ 36) (h2 : t ≠ 79) (h3 : t ≠ 5) : k ∉ rp :: mp :: blk ro := by
  simp only [List.mem_cons, mem_blk, not_or]
  refine ⟨zj hk HR.box h1, zj hk HM.box h2, fun ⟨a, ha, hb⟩ => ?_⟩
  obtain ⟨cur, hc⟩ := HR.row.blk5 ha
  exact zj hc hk (Ne.symm h3) hb
theorem QK.gros {S : List Nat} {w w' : World} {p B : Nat} {ao : Option Addr} {cap n : Nat} {L : List Nat} {pw dn : Int} (h : QK w p B ao cap n L pw dn) (G : GroS S w w') (hp : p ∉ S) (hs : ∀ ad, ao = some ad → ad.block ∉ S) : QK w' p B ao cap n L pw dn := ⟨G.has h.box hp, h.row.gros G hs, h.len, h.le⟩
theorem ZW (n : Nat) (L : List Nat) (pw : Int) (h : Hd) (dw : Bool) (rs : List (List Nat)) (l : List Nat) (HG : Good L n h rs) (hP : okP pw) (hg : h.g < 10000) (hn : n ≤ 4096) :
    ∃ (err : Int) (L2 : List Nat) (pw2 : Int) (h2 : Hd) (dw2 : Bool) (rs2 : List (List Nat)), Out n L pw h dw rs l err L2 pw2 h2 dw2 rs2 ∧ SideA n L pw h dw l err L2 pw2 h2 dw2 ∧ SideB n L pw h dw l err L2 pw2 h2 dw2 := by
  have hlim : lim = 18446744073709551616 := rfl
  have hf := HG.fit
  have hc := HG.cnt
  have still : ∀ err : Int, (∀ (w : World) (lp p sg : Nat) (dn : Int) (ao : Option Addr) (cap : Nat), LK w lp p h dw → DK w p sg n L pw dn → Calls Try.prog 39 #[.pointer (some ⟨lp, 0, none⟩), .slice ao l.length cap] w fun e w' => e = .returned (.int .i64 err) ∧ Gro w w') →
      (∀ (w : World) (mp rp B : Nat) (ro : Option Addr) (rc : Nat) (dn : Int) (ao : Option Addr) (cap : Nat), MK w mp rp h dw → QK w rp B ro rc n L pw dn → Calls Try.prog 11 #[.pointer (some ⟨mp, 0, none⟩), .slice ao l.length cap] w fun e w' => e = .returned (.int .i64 err) ∧ Gro w w') →
      SideA n L pw h dw l err L pw h dw ∧ SideB n L pw h dw l err L pw h dw := fun err a b =>
    ⟨fun w lp p sg dn ao cap h1 h2 _ _ _ _ _ => (a w lp p sg dn ao cap h1 h2).mono fun e w' ⟨he, G⟩ => ⟨dn, he, .of G, Int.le_refl _, by omega, h2.gro G, h1.gro G⟩,
     fun w mp rp B ro rc dn ao cap h1 h2 _ _ _ => (b w mp rp B ro rc dn ao cap h1 h2).mono fun e w' ⟨he, G⟩ => ⟨dn, he, .of G, Int.le_refl _, by omega, h2.gro G, h1.gro G⟩⟩
  cases dw with
  | true => exact ⟨8, L, pw, h, true, rs, ⟨hP, by omega, by omega, HG, .inr ⟨by decide, rfl⟩, fun e => absurd e (by decide), fun _ e => absurd e (by decide)⟩, still 8 (fun w lp p _ _ ao cap h1 _ => JE w lp p h h1 ao cap l) (fun w mp rp _ _ _ _ ao cap h1 _ => Yg w mp rp h h1 ao cap l)⟩
  | false =>
    by_cases hl : 1024 < l.length
    · exact ⟨4, L, pw, h, false, rs, ⟨hP, by omega, by omega, HG, .inr ⟨by decide, rfl⟩, fun _ => rfl, fun _ _ e => absurd e (by omega)⟩, still 4 (fun w lp p _ _ ao cap h1 _ => JC w lp p h h1 ao cap l hl) (fun w mp rp _ _ _ _ ao cap h1 _ => uY w mp rp h h1 ao cap l hl)⟩
    by_cases hk : n - 2 - h.u < secN l.length
    · exact ⟨5, L, pw, h, false, rs, ⟨hP, by omega, by omega, HG, .inr ⟨by decide, rfl⟩, fun _ => rfl, fun _ _ _ e => absurd e (by omega)⟩, still 5 (fun w lp p sg dn ao cap h1 h2 => JD w lp p h h1 sg n L pw dn h2 hf ao cap l (by omega) hk) (fun w mp rp B ro rc dn ao cap h1 h2 => uZ w mp rp h h1 B ro rc n L pw dn h2 hf ao cap l (by omega) hk)⟩
    have HA := HG.app pw hn (l := l) (by omega) (by omega) (by omega)
    cases hA : apOK pw (secN l.length) with
    | true =>
      unfold apL apH apR at HA
      rw [hA] at HA
      exact ⟨0, okL L h l, apP pw (secN l.length), h.next (secN l.length), false, rs ++ [l], ⟨Yw hP _, Nat.le_refl _, Nat.le_refl _, HA, .inl ⟨rfl, rfl⟩, fun _ => rfl, fun e _ _ _ => ⟨rfl, by unfold apP; rw [if_pos e]⟩⟩,
        fun w lp p sg dn ao cap h1 h2 h3 h4 h5 h6 h7 => ZT w lp p h h1 sg n L pw dn h2 hf ao cap l h3 (by omega) (by omega) hP (by omega) (by omega) h4 h5 h6 h7 hA,
        fun w mp rp B ro rc dn ao cap h1 h2 h3 h6 h7 => VI w mp rp h h1 B ro rc n L pw dn h2 hf ao cap l h3 (by omega) (by omega) hP (by omega) (by omega) h6 h7 hA⟩
    | false =>
      unfold apH apR at HA
      rw [hA] at HA
      exact ⟨8, apL L pw h l, apP pw (secN l.length), h, true, rs, ⟨Yw hP _, by omega, by omega, HA, .inr ⟨by decide, rfl⟩, fun e => absurd e (by decide), fun e _ _ _ => by
          unfold apOK at hA
          rw [decide_eq_false_iff_not] at hA
          exact absurd (.inl e) hA⟩,
        fun w lp p sg dn ao cap h1 h2 h3 h4 h5 h6 h7 => ZU w lp p h h1 sg n L pw dn h2 hf ao cap l h3 (by omega) (by omega) hP (by omega) (by omega) h4 h5 h6 h7 hA,
        fun w mp rp B ro rc dn ao cap h1 h2 h3 h6 h7 => VJ w mp rp h h1 B ro rc n L pw dn h2 hf ao cap l h3 (by omega) (by omega) hP (by omega) (by omega) h6 h7 hA⟩
theorem JO (w : World) (ao : Option Addr) (cap n : Nat) (ls : List (List Nat)) (hn : n = ls.length) (HL : LC w ao cap ls) (hlen : ∀ r ∈ ls, r.length ≤ 1024) (hll : ls.length ≤ 4096) : Calls Try.prog 41 #[.slice ao n cap] w (HdP w (hld ls)) := by
  subst hn
  exact Qx w ao cap ls HL hlen hll
section
variable {w w' : World} {rp mp B : Nat} {ro : Option Addr} {rc n : Nat} {L : List Nat} {pw dn : Int} {h : Hd} {dw : Bool}
theorem QK.ltr (H : QK w rp B ro rc n L pw dn) : ∀ k ∈ blk ro, k < w.heap.size := fun k hk => by
  obtain ⟨ad, ha, rfl⟩ := mem_blk.1 hk
  obtain ⟨cur, hc⟩ := H.row.blk5 ha
  exact ji hc
theorem QK.lt3 (H : QK w rp B ro rc n L pw dn) (HM : MK w mp rp h dw) : ∀ k ∈ rp :: mp :: blk ro, k < w.heap.size := fun k hk => by
  rcases List.mem_cons.1 hk with rfl | hk
  · exact ji H.box
  rcases List.mem_cons.1 hk with rfl | hk
  · exact ji HM.box
  · exact H.ltr k hk
theorem QK.keepW (H : QK w rp B ro rc n L pw dn) (HM : MK w mp rp h dw) (G : GroS (rp :: mp :: blk ro) w w') {C : Nat} {ao : Option Addr} {cap : Nat} {l : List IM} (HO : OW kM 56 w C ao cap l) : OW kM 56 w' C ao cap l :=
  HO.gros G fun k hk hm => by
    obtain ⟨cur, hc, _⟩ := HO.blkt hk
    exact notS hc H HM (by decide) (by decide) (by decide) hm
theorem QK.keepB (H : QK w rp B ro rc n L pw dn) (HM : MK w mp rp h dw) (G : GroS (rp :: mp :: blk ro) w w') {C : Nat} {ao : Option Addr} {cap : Nat} {l : List Nat} (HO : OB w 5 .u8 C ao cap l) (hC : ∀ k ∈ blk ro, k < C) : OB w' 5 .u8 C ao cap l :=
  HO.gros G fun ad ha hm => by
    obtain ⟨cur, hc⟩ := HO.blk5 ha
    have hge := (HO.ge ad ha).1
    rcases List.mem_cons.1 hm with hm | hm
    · exact zj hc H.box (by decide) hm
    rcases List.mem_cons.1 hm with hm | hm
    · exact zj hc HM.box (by decide) hm
    · have := hC _ hm
      omega
end
structure VD (C : Nat) (w : World) (vq mp rp B : Nat) (ro : Option Addr) (rc n : Nat) (L : List Nat) (pw dn : Int) (h : Hd) (dw : Bool) (inc : Int) (ao : Option Addr) (cap : Nat) (R : List IM) : Prop where
  box : w.heap[vq]? = some (.cells (rvA (some mp) ao R.length cap inc) 48 (0, 0))
  log : MK w mp rp h dw
  dsk : QK w rp B ro rc n L pw dn
  row : OW kM 56 w C ao cap R
  byt : OBs w C R
  n0 : ∀ y ∈ R, 1 ≤ y.n
  lt : ∀ k ∈ blk ro, k < C
def RoP (w : World) (rp B : Nat) (ro : Option Addr) (rc n : Nat) (dn : Int) (L0 : List It) (c0 : Nat) (err : Int) (L2 : List Nat) (pw2 : Int) (h2 : Hd) (e : Ending) (w' : World) : Prop :=
  (err ≠ 0 ∧ ∃ dn', e = .returned (.tuple #[.pointer none, .int .i64 err]) ∧ GroS (rp :: blk ro) w w' ∧ QK w' rp B ro rc n L2 pw2 dn' ∧ dn ≤ dn' ∧ dn' ≤ dn + 20) ∨
  (err = 0 ∧ ∃ vq mp ao cap R dn', e = .returned (.tuple #[.pointer (some ⟨vq, 0, none⟩), .int .i64 0]) ∧ GroS (rp :: blk ro) w w' ∧ VD w.heap.size w' vq mp rp B ro rc n L2 pw2 dn' h2 false ((c0 + 1 : Nat) : Int) ao cap R ∧ R.map IM.it = L0 ∧ w.heap.size ≤ vq ∧ w.heap.size ≤ mp ∧ dn ≤ dn' ∧ dn' ≤ dn + 20)
theorem RoP.yes {w w' : World} {rp B : Nat} {ro : Option Addr} {rc n : Nat} {dn : Int} {L0 : List It} {c0 : Nat} {L2 : List Nat} {pw2 : Int} {h2 : Hd} {e : Ending} (h : RoP w rp B ro rc n dn L0 c0 0 L2 pw2 h2 e w') : ∃ vq mp ao cap R dn', e = .returned (.tuple #[.pointer (some ⟨vq, 0, none⟩), .int .i64 0]) ∧ GroS (rp :: blk ro) w w' ∧ VD w.heap.size w' vq mp rp B ro rc n L2 pw2 dn' h2 false ((c0 + 1 : Nat) : Int) ao cap R ∧ R.map IM.it = L0 ∧ w.heap.size ≤ vq ∧ w.heap.size ≤ mp ∧ dn ≤ dn' ∧ dn' ≤ dn + 20 := by
  rcases h with ⟨h0, _⟩ | ⟨_, h⟩
  · exact absurd rfl h0
  · exact h
theorem RoP.no {w w' : World} {rp B : Nat} {ro : Option Addr} {rc n : Nat} {dn : Int} {L0 : List It} {c0 : Nat} {err : Int} {L2 : List Nat} {pw2 : Int} {h2 : Hd} {e : Ending} (h : RoP w rp B ro rc n dn L0 c0 err L2 pw2 h2 e w') (h0 : err ≠ 0) : ∃ dn', e = .returned (.tuple #[.pointer none, .int .i64 err]) ∧ GroS (rp :: blk ro) w w' ∧ QK w' rp B ro rc n L2 pw2 dn' ∧ dn ≤ dn' ∧ dn' ≤ dn + 20 := by
  rcases h with ⟨_, h⟩ | ⟨h1, _⟩
  · exact h
  · exact absurd h1 h0
theorem Vw (w : World) (rp B : Nat) (ro : Option Addr) (rc n : Nat) (L : List Nat) (pw dn : Int) (H : QK w rp B ro rc n L pw dn) (hn3 : 3 ≤ n) (h : Hd) (rs : List (List Nat)) (HG : Good L n h rs) (hg : h.g < 10000) (hN : hld rs = none) : Calls Try.prog 14 #[vP rp 0] w (fun e w' => e = .returned (.tuple #[.pointer none, iK 2]) ∧ Gro w w') := by
  refine js Try.func14 rfl Try.ntmps14 [vP rp 0] [vP rp 0, uD, uD, uD, uD, uD, uD, uD, uD, uD, uD, uD, uD, uD, uD, uD, uD, uD, uD, uD, uD, uD, uD, uD, uD, uD, uD, uD, uD, uD, uD, uD, uD, uD, uD, uD, uD, uD, uD, uD, uD, uD, uD, uD, uD, uD] rfl ?_
  have GG := Gro.refl w
  have hro := H.ltr
  refine qS ?_
  refine ja 2 rfl rfl (.pointer none) (rfl) ?_
  refine ja 3 rfl rfl (iK 0) (rfl) ?_
  refine nr ?_; intro U h; simp only [z0, z1] at h; subst h
  refine qA ?_
  refine ja 11 rfl rfl (vP rp 0) (rfl) ?_
  refine nr ?_; intro U h; simp only [z0, z1] at h; subst h
  refine jx 12 rfl rfl _ 9 Try.call9 rfl rfl _ rfl [vP rp 0] rfl (vL _ rp B ro rc n L pw dn H hn3 rs (HG.opens (by omega))) (by rintro _ _ ⟨_, _, _, _, he, _, _, _, _, _⟩; exact ⟨_, he⟩) ?_
  rintro v w1 ⟨mp, ao1, cap1, q, he, hq, G, hmp, HK, HL⟩
  cases he
  replace H := H.gro G
  replace GG := GG.trans G
  clear G
  rw [HG.counts] at HK
  have hql : q.length ≤ 4096 := by
    have h1 := HG.num
    rw [hq, List.length_map] at h1
    have h2 := HG.cnt
    have h3 := HG.fit
    have h4 := H.le
    omega
  have hN2 : hld (q.map (·.l)) = none := by rw [← hq]; exact hN
  have hls : ∀ r ∈ q.map (·.l), r.length ≤ 1024 := fun r hr => HG.lens r (by rw [hq]; exact hr)
  refine nr ?_; intro U h; simp only [z0, z1] at h; subst h
  refine ja 10 rfl rfl (.tuple #[vP mp 0, .slice ao1 q.length cap1, iK 0]) (rfl) ?_
  refine ja 13 rfl rfl (vP mp 0) (rfl) ?_
  refine ja 14 rfl rfl (.slice ao1 q.length cap1) (rfl) ?_
  refine ja 15 rfl rfl (iK 0) (rfl) ?_
  refine ja 4 rfl rfl (vP mp 0) (rfl) ?_
  refine ja 5 rfl rfl (.slice ao1 q.length cap1) (rfl) ?_
  refine nr ?_; intro U h; simp only [z0, z1] at h; subst h
  refine ja 6 rfl rfl (iK 0) (rfl) ?_
  refine nr ?_; intro U h; simp only [z0, z1] at h; subst h
  refine qL (qE (qS ?_))
  refine ja 16 rfl rfl (iK 0) (rfl) ?_
  refine ja 17 rfl rfl (vF) (jh 26 .i64 _ _ _ rfl Try.underlying26 0 0 rfl rfl false (decide_eq_true rfl) _) ?_
  refine nr ?_; intro U h; simp only [z0, z1] at h; subst h
  refine qL (qF rfl (qK (qS ?_)))
  refine ja 20 rfl rfl (.slice ao1 q.length cap1) (rfl) ?_
  refine nr ?_; intro U h; simp only [z0, z1] at h; subst h
  refine jy 21 rfl rfl _ 41 Try.call41 rfl rfl _ rfl [.slice ao1 q.length cap1] rfl ((JO _ ao1 cap1 q.length (q.map (·.l)) (by rw [List.length_map]) HL.lc hls (by rw [List.length_map]; exact hql)).mono fun e w' HZ => by rw [hN2] at HZ; exact HZ) ?_
  intro w2 G
  replace H := H.gro G
  replace HK := HK.gro G
  replace HL := HL.gro G
  replace GG := GG.trans G
  clear G
  refine nr ?_; intro U h; simp only [z0, z1] at h; subst h
  refine ja 19 rfl rfl (.tuple #[.slice none 0 0, iK 0, vF]) (rfl) ?_
  refine ja 22 rfl rfl (.slice none 0 0) (rfl) ?_
  refine ja 23 rfl rfl (iK 0) (rfl) ?_
  refine ja 24 rfl rfl (vF) (rfl) ?_
  refine ja 7 rfl rfl (.slice none 0 0) (rfl) ?_
  refine ja 8 rfl rfl (iK 0) (rfl) ?_
  refine nr ?_; intro U h; simp only [z0, z1] at h; subst h
  refine ja 9 rfl rfl (vF) (rfl) ?_
  refine nr ?_; intro U h; simp only [z0, z1] at h; subst h
  refine qL (qE (qS ?_))
  refine ja 25 rfl rfl (vF) (rfl) ?_
  refine ja 26 rfl rfl (vT) (zi _ _ rfl false rfl) ?_
  refine nr ?_; intro U h; simp only [z0, z1] at h; subst h
  refine qL (qT rfl (qS ?_))
  refine ja 2 rfl rfl (.pointer none) (rfl) ?_
  refine ja 3 rfl rfl (iK 2) (rfl) ?_
  refine nr ?_; intro U h; simp only [z0, z1] at h; subst h
  refine qL (qR (jr ?_))
  refine bodyPost_ret (results_tmp2 Try.results14 _ _ _) rfl ?_
  exact ⟨rfl, GG⟩
theorem YF (w : World) (rp B : Nat) (ro : Option Addr) (rc n : Nat) (L : List Nat) (pw dn : Int) (H : QK w rp B ro rc n L pw dn) (hn3 : 3 ≤ n) (h : Hd) (rs : List (List Nat)) (HG : Good L n h rs) (hg : h.g < 10000) (L0 : List It) (c0 : Nat) (hN : hld rs = some (L0, c0)) (hc : c0 = 1048576) : Calls Try.prog 14 #[vP rp 0] w (fun e w' => e = .returned (.tuple #[.pointer none, iK 5]) ∧ Gro w w') := by
  have t1 : decide (((c0 : Nat) : Int) = 1048576) = true := decide_eq_true (by omega)
  refine js Try.func14 rfl Try.ntmps14 [vP rp 0] [vP rp 0, uD, uD, uD, uD, uD, uD, uD, uD, uD, uD, uD, uD, uD, uD, uD, uD, uD, uD, uD, uD, uD, uD, uD, uD, uD, uD, uD, uD, uD, uD, uD, uD, uD, uD, uD, uD, uD, uD, uD, uD, uD, uD, uD, uD, uD] rfl ?_
  have GG := Gro.refl w
  have hro := H.ltr
  refine qS ?_
  refine ja 2 rfl rfl (.pointer none) (rfl) ?_
  refine ja 3 rfl rfl (iK 0) (rfl) ?_
  refine nr ?_; intro U h; simp only [z0, z1] at h; subst h
  refine qA ?_
  refine ja 11 rfl rfl (vP rp 0) (rfl) ?_
  refine nr ?_; intro U h; simp only [z0, z1] at h; subst h
  refine jx 12 rfl rfl _ 9 Try.call9 rfl rfl _ rfl [vP rp 0] rfl (vL _ rp B ro rc n L pw dn H hn3 rs (HG.opens (by omega))) (by rintro _ _ ⟨_, _, _, _, he, _, _, _, _, _⟩; exact ⟨_, he⟩) ?_
  rintro v w1 ⟨mp, ao1, cap1, q, he, hq, G, hmp, HK, HL⟩
  cases he
  replace H := H.gro G
  replace GG := GG.trans G
  clear G
  rw [HG.counts] at HK
  have hql : q.length ≤ 4096 := by
    have h1 := HG.num
    rw [hq, List.length_map] at h1
    have h2 := HG.cnt
    have h3 := HG.fit
    have h4 := H.le
    omega
  have hN2 : hld (q.map (·.l)) = some (L0, c0) := by rw [← hq]; exact hN
  have hls : ∀ r ∈ q.map (·.l), r.length ≤ 1024 := fun r hr => HG.lens r (by rw [hq]; exact hr)
  refine nr ?_; intro U h; simp only [z0, z1] at h; subst h
  refine ja 10 rfl rfl (.tuple #[vP mp 0, .slice ao1 q.length cap1, iK 0]) (rfl) ?_
  refine ja 13 rfl rfl (vP mp 0) (rfl) ?_
  refine ja 14 rfl rfl (.slice ao1 q.length cap1) (rfl) ?_
  refine ja 15 rfl rfl (iK 0) (rfl) ?_
  refine ja 4 rfl rfl (vP mp 0) (rfl) ?_
  refine ja 5 rfl rfl (.slice ao1 q.length cap1) (rfl) ?_
  refine nr ?_; intro U h; simp only [z0, z1] at h; subst h
  refine ja 6 rfl rfl (iK 0) (rfl) ?_
  refine nr ?_; intro U h; simp only [z0, z1] at h; subst h
  refine qL (qE (qS ?_))
  refine ja 16 rfl rfl (iK 0) (rfl) ?_
  refine ja 17 rfl rfl (vF) (jh 26 .i64 _ _ _ rfl Try.underlying26 0 0 rfl rfl false (decide_eq_true rfl) _) ?_
  refine nr ?_; intro U h; simp only [z0, z1] at h; subst h
  refine qL (qF rfl (qK (qS ?_)))
  refine ja 20 rfl rfl (.slice ao1 q.length cap1) (rfl) ?_
  refine nr ?_; intro U h; simp only [z0, z1] at h; subst h
  refine jx 21 rfl rfl _ 41 Try.call41 rfl rfl _ rfl [.slice ao1 q.length cap1] rfl ((JO _ ao1 cap1 q.length (q.map (·.l)) (by rw [List.length_map]) HL.lc hls (by rw [List.length_map]; exact hql)).mono fun e w' HZ => by rw [hN2] at HZ; exact HZ) (by rintro _ _ ⟨_, _, _, he, _, _, _, _, _⟩; exact ⟨_, he⟩) ?_
  rintro v w2 ⟨ao2, cap2, R, he, G, HW, HS, hR, hn0⟩
  cases he
  replace HW := HW.mono GG.size
  replace HS := HS.mono GG.size
  replace H := H.gro G
  replace HK := HK.gro G
  replace HL := HL.gro G
  replace GG := GG.trans G
  clear G
  refine nr ?_; intro U h; simp only [z0, z1] at h; subst h
  refine ja 19 rfl rfl (.tuple #[.slice ao2 R.length cap2, nK c0, vT]) (rfl) ?_
  refine ja 22 rfl rfl (.slice ao2 R.length cap2) (rfl) ?_
  refine ja 23 rfl rfl (nK c0) (rfl) ?_
  refine ja 24 rfl rfl (vT) (rfl) ?_
  refine ja 7 rfl rfl (.slice ao2 R.length cap2) (rfl) ?_
  refine ja 8 rfl rfl (nK c0) (rfl) ?_
  refine nr ?_; intro U h; simp only [z0, z1] at h; subst h
  refine ja 9 rfl rfl (vT) (rfl) ?_
  refine nr ?_; intro U h; simp only [z0, z1] at h; subst h
  refine qL (qE (qS ?_))
  refine ja 25 rfl rfl (vT) (rfl) ?_
  refine ja 26 rfl rfl (vF) (zi _ _ rfl true rfl) ?_
  refine nr ?_; intro U h; simp only [z0, z1] at h; subst h
  refine qL (qF rfl (qK (qE (qS ?_))))
  refine ja 27 rfl rfl (nK c0) (rfl) ?_
  refine ja 28 rfl rfl (vT) (jB 2 .i64 _ _ _ rfl Try.underlying2 ((c0 : Nat) : Int) 1048576 rfl rfl true t1 _) ?_
  refine nr ?_; intro U h; simp only [z0, z1] at h; subst h
  refine qL (qT rfl (qS ?_))
  refine ja 2 rfl rfl (.pointer none) (rfl) ?_
  refine ja 3 rfl rfl (iK 5) (rfl) ?_
  refine nr ?_; intro U h; simp only [z0, z1] at h; subst h
  refine qL (qR (jr ?_))
  refine bodyPost_ret (results_tmp2 Try.results14 _ _ _) rfl ?_
  exact ⟨rfl, GG⟩
theorem ZF (w : World) (rp B : Nat) (ro : Option Addr) (rc n : Nat) (L : List Nat) (pw dn : Int) (H : QK w rp B ro rc n L pw dn) (hn3 : 3 ≤ n) (h : Hd) (rs : List (List Nat)) (HG : Good L n h rs) (hg : h.g < 10000) (L0 : List It) (c0 : Nat) (hN : hld rs = some (L0, c0)) (hc : c0 < 1048576) (err : Int) (L2 : List Nat) (pw2 : Int) (h2 : Hd) (dw2 : Bool) (rs2 : List (List Nat)) (HO : Out n L pw h false rs (begV (c0 + 1)) err L2 pw2 h2 dw2 rs2) (SB : SideB n L pw h false (begV (c0 + 1)) err L2 pw2 h2 dw2) (hd1 : 0 ≤ dn) (hd2 : dn < 9223372036854760000) : Calls Try.prog 14 #[vP rp 0] w (RoP w rp B ro rc n dn L0 c0 err L2 pw2 h2) := by
  have t1 : decide (((c0 : Nat) : Int) = 1048576) = false := decide_eq_false (by omega)
  rcases HO.res with ⟨rfl, hrs⟩ | ⟨he1, hrs⟩
  clear hrs
  refine js Try.func14 rfl Try.ntmps14 [vP rp 0] [vP rp 0, uD, uD, uD, uD, uD, uD, uD, uD, uD, uD, uD, uD, uD, uD, uD, uD, uD, uD, uD, uD, uD, uD, uD, uD, uD, uD, uD, uD, uD, uD, uD, uD, uD, uD, uD, uD, uD, uD, uD, uD, uD, uD, uD, uD, uD] rfl ?_
  have GG := Gro.refl w
  have hro := H.ltr
  refine qS ?_
  refine ja 2 rfl rfl (.pointer none) (rfl) ?_
  refine ja 3 rfl rfl (iK 0) (rfl) ?_
  refine nr ?_; intro U h; simp only [z0, z1] at h; subst h
  refine qA ?_
  refine ja 11 rfl rfl (vP rp 0) (rfl) ?_
  refine nr ?_; intro U h; simp only [z0, z1] at h; subst h
  refine jx 12 rfl rfl _ 9 Try.call9 rfl rfl _ rfl [vP rp 0] rfl (vL _ rp B ro rc n L pw dn H hn3 rs (HG.opens (by omega))) (by rintro _ _ ⟨_, _, _, _, he, _, _, _, _, _⟩; exact ⟨_, he⟩) ?_
  rintro v w1 ⟨mp, ao1, cap1, q, he, hq, G, hmp, HK, HL⟩
  cases he
  replace H := H.gro G
  replace GG := GG.trans G
  clear G
  rw [HG.counts] at HK
  have hql : q.length ≤ 4096 := by
    have h1 := HG.num
    rw [hq, List.length_map] at h1
    have h2 := HG.cnt
    have h3 := HG.fit
    have h4 := H.le
    omega
  have hN2 : hld (q.map (·.l)) = some (L0, c0) := by rw [← hq]; exact hN
  have hls : ∀ r ∈ q.map (·.l), r.length ≤ 1024 := fun r hr => HG.lens r (by rw [hq]; exact hr)
  refine nr ?_; intro U h; simp only [z0, z1] at h; subst h
  refine ja 10 rfl rfl (.tuple #[vP mp 0, .slice ao1 q.length cap1, iK 0]) (rfl) ?_
  refine ja 13 rfl rfl (vP mp 0) (rfl) ?_
  refine ja 14 rfl rfl (.slice ao1 q.length cap1) (rfl) ?_
  refine ja 15 rfl rfl (iK 0) (rfl) ?_
  refine ja 4 rfl rfl (vP mp 0) (rfl) ?_
  refine ja 5 rfl rfl (.slice ao1 q.length cap1) (rfl) ?_
  refine nr ?_; intro U h; simp only [z0, z1] at h; subst h
  refine ja 6 rfl rfl (iK 0) (rfl) ?_
  refine nr ?_; intro U h; simp only [z0, z1] at h; subst h
  refine qL (qE (qS ?_))
  refine ja 16 rfl rfl (iK 0) (rfl) ?_
  refine ja 17 rfl rfl (vF) (jh 26 .i64 _ _ _ rfl Try.underlying26 0 0 rfl rfl false (decide_eq_true rfl) _) ?_
  refine nr ?_; intro U h; simp only [z0, z1] at h; subst h
  refine qL (qF rfl (qK (qS ?_)))
  refine ja 20 rfl rfl (.slice ao1 q.length cap1) (rfl) ?_
  refine nr ?_; intro U h; simp only [z0, z1] at h; subst h
  refine jx 21 rfl rfl _ 41 Try.call41 rfl rfl _ rfl [.slice ao1 q.length cap1] rfl ((JO _ ao1 cap1 q.length (q.map (·.l)) (by rw [List.length_map]) HL.lc hls (by rw [List.length_map]; exact hql)).mono fun e w' HZ => by rw [hN2] at HZ; exact HZ) (by rintro _ _ ⟨_, _, _, he, _, _, _, _, _⟩; exact ⟨_, he⟩) ?_
  rintro v w2 ⟨ao2, cap2, R, he, G, HW, HS, hR, hn0⟩
  cases he
  replace HW := HW.mono GG.size
  replace HS := HS.mono GG.size
  replace H := H.gro G
  replace HK := HK.gro G
  replace HL := HL.gro G
  replace GG := GG.trans G
  clear G
  refine nr ?_; intro U h; simp only [z0, z1] at h; subst h
  refine ja 19 rfl rfl (.tuple #[.slice ao2 R.length cap2, nK c0, vT]) (rfl) ?_
  refine ja 22 rfl rfl (.slice ao2 R.length cap2) (rfl) ?_
  refine ja 23 rfl rfl (nK c0) (rfl) ?_
  refine ja 24 rfl rfl (vT) (rfl) ?_
  refine ja 7 rfl rfl (.slice ao2 R.length cap2) (rfl) ?_
  refine ja 8 rfl rfl (nK c0) (rfl) ?_
  refine nr ?_; intro U h; simp only [z0, z1] at h; subst h
  refine ja 9 rfl rfl (vT) (rfl) ?_
  refine nr ?_; intro U h; simp only [z0, z1] at h; subst h
  refine qL (qE (qS ?_))
  refine ja 25 rfl rfl (vT) (rfl) ?_
  refine ja 26 rfl rfl (vF) (zi _ _ rfl true rfl) ?_
  refine nr ?_; intro U h; simp only [z0, z1] at h; subst h
  refine qL (qF rfl (qK (qE (qS ?_))))
  refine ja 27 rfl rfl (nK c0) (rfl) ?_
  refine ja 28 rfl rfl (vF) (jB 2 .i64 _ _ _ rfl Try.underlying2 ((c0 : Nat) : Int) 1048576 rfl rfl false t1 _) ?_
  refine nr ?_; intro U h; simp only [z0, z1] at h; subst h
  refine qL (qF rfl (qK (qS ?_)))
  refine ja 29 rfl rfl (vP mp 0) (rfl) ?_
  refine nr ?_; intro U h; simp only [z0, z1] at h; subst h
  have hU := H.lt3 HK
  have zH := H
  have zHK := HK
  have zHL := HL
  have zHW := HW
  have zHS := HS
  have GZ := GG
  have GA := Gro.refl w2
  refine jx 30 rfl rfl _ 42 Try.call42 rfl rfl _ rfl [.int .u64 1] rfl ((JU 1 (by decide) _).mono fun _ _ h => h.byt) (by rintro _ _ ⟨_, _, he, _, _⟩; exact ⟨_, he⟩) ?_
  rintro v w3 ⟨ao3, cap3, he, G, HO3⟩
  cases he
  replace H := H.gro G
  replace HK := HK.gro G
  replace HL := HL.gro G
  replace HW := HW.gro G
  replace HS := HS.gro G
  replace GA := GA.gro G
  replace GG := GG.trans G
  clear G
  refine nr ?_; intro U h; simp only [z0, z1] at h; subst h
  refine ja 31 rfl rfl (nK c0) (rfl) ?_
  refine ja 32 rfl rfl (nK (c0 + 1)) (zm 2 _ _ _ rfl ((c0 : Nat) : Int) 1 ((c0 + 1 : Nat) : Int) rfl rfl (by omega) (by omega) (by omega) _) ?_
  refine ja 33 rfl rfl (.int .u64 (((c0 + 1) : Nat) : Int)) (conv2U _ rfl ((c0 + 1 : Nat) : Int) rfl (c0 + 1) rfl (by unfold lim; omega) _) ?_
  refine nr ?_; intro U h; simp only [z0, z1] at h; subst h
  refine jx 34 rfl rfl _ 42 Try.call42 rfl rfl _ rfl [.int .u64 (((c0 + 1) : Nat) : Int)] rfl ((JU (c0 + 1) (by unfold lim; omega) _).mono fun _ _ h => h.byt) (by rintro _ _ ⟨_, _, he, _, _⟩; exact ⟨_, he⟩) ?_
  rintro v w4 ⟨ao4, cap4, he, G, HO4⟩
  cases he
  replace H := H.gro G
  replace HK := HK.gro G
  replace HL := HL.gro G
  replace HW := HW.gro G
  replace HS := HS.gro G
  replace GA := GA.gro G
  replace HO3 := HO3.gro G
  replace GG := GG.trans G
  clear G
  refine nr ?_; intro U h; simp only [z0, z1] at h; subst h
  refine vD bT 35 rfl rfl _ _ rfl (l := numL 1) (by exact rfl) HO3 (l' := numL (c0 + 1)) (by exact rfl) (HO4.nc) (by simp only [yk]; have h1 := yw 1; have h2 := yw (c0 + 1); omega) (by decide) GA.size ?_
  intro ao5 cap5 w5 HO5 BB
  replace GA := zI GA BB (Nat.le_refl _)
  replace H := zH.gro GA
  replace HK := zHK.gro GA
  replace HL := zHL.gro GA
  replace HW := zHW.gro GA
  replace HS := zHS.gro GA
  replace GG := GZ.trans GA
  clear BB
  refine nr ?_; intro U h; simp only [z0, z1] at h; subst h
  refine jx 36 rfl rfl _ 11 Try.call11 rfl rfl _ rfl [vP mp 0, .slice ao5 (numL 1 ++ numL (c0 + 1)).length cap5] rfl (SB _ mp rp B ro rc dn _ _ HK H (HO5.bs (fun k hk => hU k hk)) hd1 hd2) (by rintro _ _ ⟨_, he, _, _, _, _, _⟩; exact ⟨_, he⟩) ?_
  rintro v w6 ⟨dn2, he, G, hd3, hd4, HD2, HK2⟩
  cases he
  have HW3 := H.keepW HK G HW
  have HS3 : OBs _ w.heap.size R := fun y hy => H.keepB HK G (HS y hy) hro
  have GS : GroS (rp :: blk ro) w w6 := G.gros (GroS.of GG) (fun k hk => by
    rcases List.mem_cons.1 hk with hk | hk
    exact .inl (List.mem_cons.2 (.inl hk))
    rcases List.mem_cons.1 hk with hk | hk
    exact .inr (by rw [hk]; exact hmp)
    exact .inl (List.mem_cons.2 (.inr hk)))
  clear GG HW HS
  have GG := GS
  have HW := HW3
  have HS := HS3
  clear GS HW3 HS3
  refine nr ?_; intro U h; simp only [z0, z1] at h; subst h
  refine ja 6 rfl rfl (iK 0) (rfl) ?_
  refine nr ?_; intro U h; simp only [z0, z1] at h; subst h
  refine qL (qE (qS ?_))
  refine ja 37 rfl rfl (iK 0) (rfl) ?_
  refine ja 38 rfl rfl (vF) (jh 26 .i64 _ _ _ rfl Try.underlying26 0 0 rfl rfl false (decide_eq_true rfl) _) ?_
  refine nr ?_; intro U h; simp only [z0, z1] at h; subst h
  refine qL (qF rfl (qK (qS ?_)))
  refine ja 40 rfl rfl (vP mp 0) (rfl) ?_
  refine ja 41 rfl rfl (.slice ao2 R.length cap2) (rfl) ?_
  refine ja 42 rfl rfl (nK c0) (rfl) ?_
  refine ja 43 rfl rfl (nK (c0 + 1)) (zm 2 _ _ _ rfl ((c0 : Nat) : Int) 1 ((c0 + 1 : Nat) : Int) rfl rfl (by omega) (by omega) (by omega) _) ?_
  refine ja 44 rfl rfl (.agg (rvA (some mp) ao2 R.length cap2 ((c0 + 1 : Nat) : Int))) (jN 48 _ rfl [(0, vP mp 0), (1, .slice ao2 R.length cap2), (2, nK (c0 + 1))] rfl _ (bdRv mp ao2 R.length cap2 _ _)) ?_
  refine nr ?_; intro U h; simp only [z0, z1] at h; subst h
  refine zw 45 rfl rfl 48 _ rfl _ rfl (rvA (some mp) ao2 R.length cap2 ((c0 + 1 : Nat) : Int)) rfl ?_
  intro w7 g1 G eg1 kg1
  have bg1 := jO GG eg1
  replace HW := HW.gro G
  replace HS := HS.gro G
  replace HD2 := HD2.gro G
  replace HK2 := HK2.gro G
  replace GG := GG.tg G
  clear G
  clear eg1
  refine nr ?_; intro U h; simp only [z0, z1] at h; subst h
  refine ja 2 rfl rfl (vP g1 0) (rfl) ?_
  refine ja 3 rfl rfl (iK 0) (rfl) ?_
  refine nr ?_; intro U h; simp only [z0, z1] at h; subst h
  refine qL (qR ?_)
  refine bodyPost_ret (results_tmp2 Try.results14 _ _ _) rfl ?_
  have hdw := HO.ok rfl
  subst hdw
  exact .inr ⟨rfl, g1, mp, ao2, cap2, R, dn2, rfl, GG, ⟨kg1, HK2, HD2, HW, HS, hn0, hro⟩, hR, bg1, hmp, hd3, hd4⟩
  clear hrs
  have t2 : decide (err = 0) = false := decide_eq_false he1
  refine js Try.func14 rfl Try.ntmps14 [vP rp 0] [vP rp 0, uD, uD, uD, uD, uD, uD, uD, uD, uD, uD, uD, uD, uD, uD, uD, uD, uD, uD, uD, uD, uD, uD, uD, uD, uD, uD, uD, uD, uD, uD, uD, uD, uD, uD, uD, uD, uD, uD, uD, uD, uD, uD, uD, uD, uD] rfl ?_
  have GG := Gro.refl w
  have hro := H.ltr
  refine qS ?_
  refine ja 2 rfl rfl (.pointer none) (rfl) ?_
  refine ja 3 rfl rfl (iK 0) (rfl) ?_
  refine nr ?_; intro U h; simp only [z0, z1] at h; subst h
  refine qA ?_
  refine ja 11 rfl rfl (vP rp 0) (rfl) ?_
  refine nr ?_; intro U h; simp only [z0, z1] at h; subst h
  refine jx 12 rfl rfl _ 9 Try.call9 rfl rfl _ rfl [vP rp 0] rfl (vL _ rp B ro rc n L pw dn H hn3 rs (HG.opens (by omega))) (by rintro _ _ ⟨_, _, _, _, he, _, _, _, _, _⟩; exact ⟨_, he⟩) ?_
  rintro v w1 ⟨mp, ao1, cap1, q, he, hq, G, hmp, HK, HL⟩
  cases he
  replace H := H.gro G
  replace GG := GG.trans G
  clear G
  rw [HG.counts] at HK
  have hql : q.length ≤ 4096 := by
    have h1 := HG.num
    rw [hq, List.length_map] at h1
    have h2 := HG.cnt
    have h3 := HG.fit
    have h4 := H.le
    omega
  have hN2 : hld (q.map (·.l)) = some (L0, c0) := by rw [← hq]; exact hN
  have hls : ∀ r ∈ q.map (·.l), r.length ≤ 1024 := fun r hr => HG.lens r (by rw [hq]; exact hr)
  refine nr ?_; intro U h; simp only [z0, z1] at h; subst h
  refine ja 10 rfl rfl (.tuple #[vP mp 0, .slice ao1 q.length cap1, iK 0]) (rfl) ?_
  refine ja 13 rfl rfl (vP mp 0) (rfl) ?_
  refine ja 14 rfl rfl (.slice ao1 q.length cap1) (rfl) ?_
  refine ja 15 rfl rfl (iK 0) (rfl) ?_
  refine ja 4 rfl rfl (vP mp 0) (rfl) ?_
  refine ja 5 rfl rfl (.slice ao1 q.length cap1) (rfl) ?_
  refine nr ?_; intro U h; simp only [z0, z1] at h; subst h
  refine ja 6 rfl rfl (iK 0) (rfl) ?_
  refine nr ?_; intro U h; simp only [z0, z1] at h; subst h
  refine qL (qE (qS ?_))
  refine ja 16 rfl rfl (iK 0) (rfl) ?_
  refine ja 17 rfl rfl (vF) (jh 26 .i64 _ _ _ rfl Try.underlying26 0 0 rfl rfl false (decide_eq_true rfl) _) ?_
  refine nr ?_; intro U h; simp only [z0, z1] at h; subst h
  refine qL (qF rfl (qK (qS ?_)))
  refine ja 20 rfl rfl (.slice ao1 q.length cap1) (rfl) ?_
  refine nr ?_; intro U h; simp only [z0, z1] at h; subst h
  refine jx 21 rfl rfl _ 41 Try.call41 rfl rfl _ rfl [.slice ao1 q.length cap1] rfl ((JO _ ao1 cap1 q.length (q.map (·.l)) (by rw [List.length_map]) HL.lc hls (by rw [List.length_map]; exact hql)).mono fun e w' HZ => by rw [hN2] at HZ; exact HZ) (by rintro _ _ ⟨_, _, _, he, _, _, _, _, _⟩; exact ⟨_, he⟩) ?_
  rintro v w2 ⟨ao2, cap2, R, he, G, HW, HS, hR, hn0⟩
  cases he
  replace HW := HW.mono GG.size
  replace HS := HS.mono GG.size
  replace H := H.gro G
  replace HK := HK.gro G
  replace HL := HL.gro G
  replace GG := GG.trans G
  clear G
  refine nr ?_; intro U h; simp only [z0, z1] at h; subst h
  refine ja 19 rfl rfl (.tuple #[.slice ao2 R.length cap2, nK c0, vT]) (rfl) ?_
  refine ja 22 rfl rfl (.slice ao2 R.length cap2) (rfl) ?_
  refine ja 23 rfl rfl (nK c0) (rfl) ?_
  refine ja 24 rfl rfl (vT) (rfl) ?_
  refine ja 7 rfl rfl (.slice ao2 R.length cap2) (rfl) ?_
  refine ja 8 rfl rfl (nK c0) (rfl) ?_
  refine nr ?_; intro U h; simp only [z0, z1] at h; subst h
  refine ja 9 rfl rfl (vT) (rfl) ?_
  refine nr ?_; intro U h; simp only [z0, z1] at h; subst h
  refine qL (qE (qS ?_))
  refine ja 25 rfl rfl (vT) (rfl) ?_
  refine ja 26 rfl rfl (vF) (zi _ _ rfl true rfl) ?_
  refine nr ?_; intro U h; simp only [z0, z1] at h; subst h
  refine qL (qF rfl (qK (qE (qS ?_))))
  refine ja 27 rfl rfl (nK c0) (rfl) ?_
  refine ja 28 rfl rfl (vF) (jB 2 .i64 _ _ _ rfl Try.underlying2 ((c0 : Nat) : Int) 1048576 rfl rfl false t1 _) ?_
  refine nr ?_; intro U h; simp only [z0, z1] at h; subst h
  refine qL (qF rfl (qK (qS ?_)))
  refine ja 29 rfl rfl (vP mp 0) (rfl) ?_
  refine nr ?_; intro U h; simp only [z0, z1] at h; subst h
  have hU := H.lt3 HK
  have zH := H
  have zHK := HK
  have zHL := HL
  have zHW := HW
  have zHS := HS
  have GZ := GG
  have GA := Gro.refl w2
  refine jx 30 rfl rfl _ 42 Try.call42 rfl rfl _ rfl [.int .u64 1] rfl ((JU 1 (by decide) _).mono fun _ _ h => h.byt) (by rintro _ _ ⟨_, _, he, _, _⟩; exact ⟨_, he⟩) ?_
  rintro v w3 ⟨ao3, cap3, he, G, HO3⟩
  cases he
  replace H := H.gro G
  replace HK := HK.gro G
  replace HL := HL.gro G
  replace HW := HW.gro G
  replace HS := HS.gro G
  replace GA := GA.gro G
  replace GG := GG.trans G
  clear G
  refine nr ?_; intro U h; simp only [z0, z1] at h; subst h
  refine ja 31 rfl rfl (nK c0) (rfl) ?_
  refine ja 32 rfl rfl (nK (c0 + 1)) (zm 2 _ _ _ rfl ((c0 : Nat) : Int) 1 ((c0 + 1 : Nat) : Int) rfl rfl (by omega) (by omega) (by omega) _) ?_
  refine ja 33 rfl rfl (.int .u64 (((c0 + 1) : Nat) : Int)) (conv2U _ rfl ((c0 + 1 : Nat) : Int) rfl (c0 + 1) rfl (by unfold lim; omega) _) ?_
  refine nr ?_; intro U h; simp only [z0, z1] at h; subst h
  refine jx 34 rfl rfl _ 42 Try.call42 rfl rfl _ rfl [.int .u64 (((c0 + 1) : Nat) : Int)] rfl ((JU (c0 + 1) (by unfold lim; omega) _).mono fun _ _ h => h.byt) (by rintro _ _ ⟨_, _, he, _, _⟩; exact ⟨_, he⟩) ?_
  rintro v w4 ⟨ao4, cap4, he, G, HO4⟩
  cases he
  replace H := H.gro G
  replace HK := HK.gro G
  replace HL := HL.gro G
  replace HW := HW.gro G
  replace HS := HS.gro G
  replace GA := GA.gro G
  replace HO3 := HO3.gro G
  replace GG := GG.trans G
  clear G
  refine nr ?_; intro U h; simp only [z0, z1] at h; subst h
  refine vD bT 35 rfl rfl _ _ rfl (l := numL 1) (by exact rfl) HO3 (l' := numL (c0 + 1)) (by exact rfl) (HO4.nc) (by simp only [yk]; have h1 := yw 1; have h2 := yw (c0 + 1); omega) (by decide) GA.size ?_
  intro ao5 cap5 w5 HO5 BB
  replace GA := zI GA BB (Nat.le_refl _)
  replace H := zH.gro GA
  replace HK := zHK.gro GA
  replace HL := zHL.gro GA
  replace HW := zHW.gro GA
  replace HS := zHS.gro GA
  replace GG := GZ.trans GA
  clear BB
  refine nr ?_; intro U h; simp only [z0, z1] at h; subst h
  refine jx 36 rfl rfl _ 11 Try.call11 rfl rfl _ rfl [vP mp 0, .slice ao5 (numL 1 ++ numL (c0 + 1)).length cap5] rfl (SB _ mp rp B ro rc dn _ _ HK H (HO5.bs (fun k hk => hU k hk)) hd1 hd2) (by rintro _ _ ⟨_, he, _, _, _, _, _⟩; exact ⟨_, he⟩) ?_
  rintro v w6 ⟨dn2, he, G, hd3, hd4, HD2, HK2⟩
  cases he
  have HW3 := H.keepW HK G HW
  have HS3 : OBs _ w.heap.size R := fun y hy => H.keepB HK G (HS y hy) hro
  have GS : GroS (rp :: blk ro) w w6 := G.gros (GroS.of GG) (fun k hk => by
    rcases List.mem_cons.1 hk with hk | hk
    exact .inl (List.mem_cons.2 (.inl hk))
    rcases List.mem_cons.1 hk with hk | hk
    exact .inr (by rw [hk]; exact hmp)
    exact .inl (List.mem_cons.2 (.inr hk)))
  clear GG HW HS
  have GG := GS
  have HW := HW3
  have HS := HS3
  clear GS HW3 HS3
  refine nr ?_; intro U h; simp only [z0, z1] at h; subst h
  refine ja 6 rfl rfl (iK err) (rfl) ?_
  refine nr ?_; intro U h; simp only [z0, z1] at h; subst h
  refine qL (qE (qS ?_))
  refine ja 37 rfl rfl (iK err) (rfl) ?_
  refine ja 38 rfl rfl (vT) (jh 26 .i64 _ _ _ rfl Try.underlying26 err 0 rfl rfl true t2 _) ?_
  refine nr ?_; intro U h; simp only [z0, z1] at h; subst h
  refine qL (qT rfl (qS ?_))
  refine ja 39 rfl rfl (iK err) (rfl) ?_
  refine ja 2 rfl rfl (.pointer none) (rfl) ?_
  refine ja 3 rfl rfl (iK err) (rfl) ?_
  refine nr ?_; intro U h; simp only [z0, z1] at h; subst h
  refine qL (qR (jr ?_))
  refine bodyPost_ret (results_tmp2 Try.results14 _ _ _) rfl ?_
  exact .inl ⟨he1, dn2, rfl, GG, HD2, hd3, hd4⟩
end Go.Proofs.Ytgfnjekpafempaa
