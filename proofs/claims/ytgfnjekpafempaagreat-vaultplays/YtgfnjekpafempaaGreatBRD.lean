import Derived.Test.YtgfnjekpafempaaGreatBRC
import Derived.Test.YtgfnjekpafempaaGreatBE15
import Derived.Test.YtgfnjekpafempaaGreatBAb
namespace Go.Proofs.YtgfnjekpafempaaGreat
open Go.Proofs.Tryz
set_option maxHeartbeats 4000000
set_option maxRecDepth 100000
open Go.RowKit
theorem Qa (w : World) (mp rp : Nat) (h : Hd) (HM : MK w mp rp h false) (B : Nat) (ro : Option Addr) (rc n : Nat) (L : List Nat) (pw dn : Int) (HR : QK w rp B ro rc n L pw dn) (hu : h.u + 2 ≤ n) (ao : Option Addr) (cap : Nat) (l : List Nat) (HB : BS (rp :: mp :: blk ro) w ao cap l) (hl : l.length ≤ 1024) (hf : h.u + secN l.length + 2 ≤ n) (hP : okP pw) (hg : h.g + 1 < lim) (hc : h.c + 1 < 9223372036854775808) (hd : 0 ≤ dn) (hd2 : dn < 9223372036854760000) (hA : apOK pw (secN l.length) = true) :
    Calls Tryz.prog 31 #[.pointer (some ⟨mp, 0, none⟩), .slice ao l.length cap] w fun e w' => ∃ dn', e = .returned (.int .i64 0) ∧ GroS (rp :: mp :: blk ro) w w' ∧ dn ≤ dn' ∧ dn' ≤ dn + 20 ∧ QK w' rp B ro rc n (okL L h l) (apP pw (secN l.length)) dn' ∧ MK w' mp rp (h.next (secN l.length)) false := by
  refine (ZU w mp rp h HM B ro rc n L pw dn HR hu ao cap l HB hl hf hP hg hc hd hd2).mono fun e w' H => ?_
  unfold RApP apL apH at H
  rw [hA] at H
  exact H
theorem Qb (w : World) (mp rp : Nat) (h : Hd) (HM : MK w mp rp h false) (B : Nat) (ro : Option Addr) (rc n : Nat) (L : List Nat) (pw dn : Int) (HR : QK w rp B ro rc n L pw dn) (hu : h.u + 2 ≤ n) (ao : Option Addr) (cap : Nat) (l : List Nat) (HB : BS (rp :: mp :: blk ro) w ao cap l) (hl : l.length ≤ 1024) (hf : h.u + secN l.length + 2 ≤ n) (hP : okP pw) (hg : h.g + 1 < lim) (hc : h.c + 1 < 9223372036854775808) (hd : 0 ≤ dn) (hd2 : dn < 9223372036854760000) (hA : apOK pw (secN l.length) = false) :
    Calls Tryz.prog 31 #[.pointer (some ⟨mp, 0, none⟩), .slice ao l.length cap] w fun e w' => ∃ dn', e = .returned (.int .i64 8) ∧ GroS (rp :: mp :: blk ro) w w' ∧ dn ≤ dn' ∧ dn' ≤ dn + 20 ∧ QK w' rp B ro rc n (apL L pw h l) (apP pw (secN l.length)) dn' ∧ MK w' mp rp h true := by
  refine (ZU w mp rp h HM B ro rc n L pw dn HR hu ao cap l HB hl hf hP hg hc hd hd2).mono fun e w' H => ?_
  unfold RApP apH at H
  rw [hA] at H
  exact H
def SideB (n : Nat) (L : List Nat) (pw : Int) (h : Hd) (dw : Bool) (l : List Nat) (err : Int) (L2 : List Nat) (pw2 : Int) (h2 : Hd) (dw2 : Bool) : Prop :=
  ∀ (w : World) (mp rp B : Nat) (ro : Option Addr) (rc : Nat) (dn : Int) (ao : Option Addr) (cap : Nat), MK w mp rp h dw → QK w rp B ro rc n L pw dn → BS (rp :: mp :: blk ro) w ao cap l → 0 ≤ dn → dn < 9223372036854760000 →
    Calls Tryz.prog 31 #[.pointer (some ⟨mp, 0, none⟩), .slice ao l.length cap] w fun e w' => ∃ dn', e = .returned (.int .i64 err) ∧ GroS (rp :: mp :: blk ro) w w' ∧ dn ≤ dn' ∧ dn' ≤ dn + 20 ∧ QK w' rp B ro rc n L2 pw2 dn' ∧ MK w' mp rp h2 dw2
theorem notS {w : World} {k : Nat} {c : Array Value} {t : TypeId} {mp rp B : Nat} {ro : Option Addr} {rc n : Nat} {L : List Nat} {pw dn : Int} {h : Hd} {dw : Bool} (hk : w.heap[k]? = some (.cells c t (0, 0))) (HR : QK w rp B ro rc n L pw dn) (HM : MK w mp rp h dw) (h1 : t ≠ 47) (h2 : t ≠ 66) (h3 : t ≠ 5) : k ∉ rp :: mp :: blk ro := by
  simp only [List.mem_cons, mem_blk, not_or]
  refine ⟨jB hk HR.box h1, jB hk HM.box h2, fun ⟨a, ha, hb⟩ => ?_⟩
  obtain ⟨cur, hc⟩ := HR.row.blk5 ha
  exact jB hc hk (Ne.symm h3) hb
theorem QK.gros {S : List Nat} {w w' : World} {p B : Nat} {ao : Option Addr} {cap n : Nat} {L : List Nat} {pw dn : Int} (h : QK w p B ao cap n L pw dn) (G : GroS S w w') (hp : p ∉ S) (hs : ∀ ad, ao = some ad → ad.block ∉ S) : QK w' p B ao cap n L pw dn := ⟨G.has h.box hp, h.row.gros G hs, h.len, h.le⟩
theorem JX (n : Nat) (L : List Nat) (pw : Int) (h : Hd) (dw : Bool) (rs : List (List Nat)) (l : List Nat) (HG : Good L n h rs) (hP : okP pw) (hg : h.g < 10000) (hn : n ≤ 4096) :
    ∃ (err : Int) (L2 : List Nat) (pw2 : Int) (h2 : Hd) (dw2 : Bool) (rs2 : List (List Nat)), Out n L pw h dw rs l err L2 pw2 h2 dw2 rs2 ∧ SideA n L pw h dw l err L2 pw2 h2 dw2 ∧ SideB n L pw h dw l err L2 pw2 h2 dw2 := by
  have hlim : lim = 18446744073709551616 := rfl
  have hf := HG.fit
  have hc := HG.cnt
  have still : ∀ err : Int, (∀ (w : World) (lp p sg : Nat) (dn : Int) (ao : Option Addr) (cap : Nat), LK w lp p h dw → DK w p sg n L pw dn → Calls Tryz.prog 27 #[.pointer (some ⟨lp, 0, none⟩), .slice ao l.length cap] w fun e w' => e = .returned (.int .i64 err) ∧ Gro w w') →
      (∀ (w : World) (mp rp B : Nat) (ro : Option Addr) (rc : Nat) (dn : Int) (ao : Option Addr) (cap : Nat), MK w mp rp h dw → QK w rp B ro rc n L pw dn → Calls Tryz.prog 31 #[.pointer (some ⟨mp, 0, none⟩), .slice ao l.length cap] w fun e w' => e = .returned (.int .i64 err) ∧ Gro w w') →
      SideA n L pw h dw l err L pw h dw ∧ SideB n L pw h dw l err L pw h dw := fun err a b =>
    ⟨fun w lp p sg dn ao cap h1 h2 _ _ _ _ _ => (a w lp p sg dn ao cap h1 h2).mono fun e w' ⟨he, G⟩ => ⟨dn, he, .of G, Int.le_refl _, by omega, h2.gro G, h1.gro G⟩,
     fun w mp rp B ro rc dn ao cap h1 h2 _ _ _ => (b w mp rp B ro rc dn ao cap h1 h2).mono fun e w' ⟨he, G⟩ => ⟨dn, he, .of G, Int.le_refl _, by omega, h2.gro G, h1.gro G⟩⟩
  cases dw with
  | true => exact ⟨8, L, pw, h, true, rs, ⟨hP, by omega, by omega, HG, .inr ⟨by decide, rfl⟩, fun e => absurd e (by decide), fun _ e => absurd e (by decide)⟩, still 8 (fun w lp p _ _ ao cap h1 _ => Zi w lp p h h1 ao cap l) (fun w mp rp _ _ _ _ ao cap h1 _ => Vc w mp rp h h1 ao cap l)⟩
  | false =>
    by_cases hl : 1024 < l.length
    · exact ⟨4, L, pw, h, false, rs, ⟨hP, by omega, by omega, HG, .inr ⟨by decide, rfl⟩, fun _ => rfl, fun _ _ e => absurd e (by omega)⟩, still 4 (fun w lp p _ _ ao cap h1 _ => Zg w lp p h h1 ao cap l hl) (fun w mp rp _ _ _ _ ao cap h1 _ => Va w mp rp h h1 ao cap l hl)⟩
    by_cases hk : n - 2 - h.u < secN l.length
    · exact ⟨5, L, pw, h, false, rs, ⟨hP, by omega, by omega, HG, .inr ⟨by decide, rfl⟩, fun _ => rfl, fun _ _ _ e => absurd e (by omega)⟩, still 5 (fun w lp p sg dn ao cap h1 h2 => Zh w lp p h h1 sg n L pw dn h2 hf ao cap l (by omega) hk) (fun w mp rp B ro rc dn ao cap h1 h2 => Vb w mp rp h h1 B ro rc n L pw dn h2 hf ao cap l (by omega) hk)⟩
    have HA := HG.app pw hn (l := l) (by omega) (by omega) (by omega)
    cases hA : apOK pw (secN l.length) with
    | true =>
      unfold apL apH apR at HA
      rw [hA] at HA
      exact ⟨0, okL L h l, apP pw (secN l.length), h.next (secN l.length), false, rs ++ [l], ⟨Vy hP _, Nat.le_refl _, Nat.le_refl _, HA, .inl ⟨rfl, rfl⟩, fun _ => rfl, fun e _ _ _ => ⟨rfl, by unfold apP; rw [if_pos e]⟩⟩,
        fun w lp p sg dn ao cap h1 h2 h3 h4 h5 h6 h7 => YH w lp p h h1 sg n L pw dn h2 hf ao cap l h3 (by omega) (by omega) hP (by omega) (by omega) h4 h5 h6 h7 hA,
        fun w mp rp B ro rc dn ao cap h1 h2 h3 h6 h7 => Qa w mp rp h h1 B ro rc n L pw dn h2 hf ao cap l h3 (by omega) (by omega) hP (by omega) (by omega) h6 h7 hA⟩
    | false =>
      unfold apH apR at HA
      rw [hA] at HA
      exact ⟨8, apL L pw h l, apP pw (secN l.length), h, true, rs, ⟨Vy hP _, by omega, by omega, HA, .inr ⟨by decide, rfl⟩, fun e => absurd e (by decide), fun e _ _ _ => by
          unfold apOK at hA
          rw [decide_eq_false_iff_not] at hA
          exact absurd (.inl e) hA⟩,
        fun w lp p sg dn ao cap h1 h2 h3 h4 h5 h6 h7 => YI w lp p h h1 sg n L pw dn h2 hf ao cap l h3 (by omega) (by omega) hP (by omega) (by omega) h4 h5 h6 h7 hA,
        fun w mp rp B ro rc dn ao cap h1 h2 h3 h6 h7 => Qb w mp rp h h1 B ro rc n L pw dn h2 hf ao cap l h3 (by omega) (by omega) hP (by omega) (by omega) h6 h7 hA⟩
theorem Zv (w : World) (ao : Option Addr) (cap n : Nat) (ls : List (List Nat)) (hn : n = ls.length) (HL : LC w ao cap ls) (hlen : ∀ r ∈ ls, r.length ≤ 1024) (hll : ls.length ≤ 4096) : Calls Tryz.prog 30 #[.slice ao n cap] w (HdP w (hld ls)) := by
  subst hn
  exact KV w ao cap ls HL hlen hll
section
variable {w w' : World} {rp mp B : Nat} {ro : Option Addr} {rc n : Nat} {L : List Nat} {pw dn : Int} {h : Hd} {dw : Bool}
theorem QK.ltr (H : QK w rp B ro rc n L pw dn) : ∀ k ∈ blk ro, k < w.heap.size := fun k hk => by
  obtain ⟨ad, ha, rfl⟩ := mem_blk.1 hk
  obtain ⟨cur, hc⟩ := H.row.blk5 ha
  exact ji hc
theorem QK.lt3 (H : QK w rp B ro rc n L pw dn) (HM : MK w mp rp h dw) : ∀ k ∈ rp :: mp :: blk ro, k < w.heap.size := fun k hk => by
  rcases List.mem_cons.1 hk with rfl | hk
  · exact ji H.box
  rcases List.mem_cons.1 hk with rfl | hk
  · exact ji HM.box
  · exact H.ltr k hk
theorem QK.keepW (H : QK w rp B ro rc n L pw dn) (HM : MK w mp rp h dw) (G : GroS (rp :: mp :: blk ro) w w') {C : Nat} {ao : Option Addr} {cap : Nat} {l : List IM} (HO : OW kM 42 w C ao cap l) : OW kM 42 w' C ao cap l :=
  HO.gros G fun k hk hm => by
    obtain ⟨cur, hc, _⟩ := HO.blkt hk
    exact notS hc H HM (by decide) (by decide) (by decide) hm
theorem QK.keepB (H : QK w rp B ro rc n L pw dn) (HM : MK w mp rp h dw) (G : GroS (rp :: mp :: blk ro) w w') {C : Nat} {ao : Option Addr} {cap : Nat} {l : List Nat} (HO : OB w 5 .u8 C ao cap l) (hC : ∀ k ∈ blk ro, k < C) : OB w' 5 .u8 C ao cap l :=
  HO.gros G fun ad ha hm => by
    obtain ⟨cur, hc⟩ := HO.blk5 ha
    have hge := (HO.ge ad ha).1
    rcases List.mem_cons.1 hm with hm | hm
    · exact jB hc H.box (by decide) hm
    rcases List.mem_cons.1 hm with hm | hm
    · exact jB hc HM.box (by decide) hm
    · have := hC _ hm
      omega
end
structure VD (C : Nat) (w : World) (vq mp rp B : Nat) (ro : Option Addr) (rc n : Nat) (L : List Nat) (pw dn : Int) (h : Hd) (dw : Bool) (inc : Int) (ao : Option Addr) (cap : Nat) (R : List IM) : Prop where
  box : w.heap[vq]? = some (.cells (rvA (some mp) ao R.length cap inc) 62 (0, 0))
  log : MK w mp rp h dw
  dsk : QK w rp B ro rc n L pw dn
  row : OW kM 42 w C ao cap R
  byt : OBs w C R
  n0 : ∀ y ∈ R, 1 ≤ y.n
  lt : ∀ k ∈ blk ro, k < C
def RoP (w : World) (rp B : Nat) (ro : Option Addr) (rc n : Nat) (dn : Int) (L0 : List It) (c0 : Nat) (err : Int) (L2 : List Nat) (pw2 : Int) (h2 : Hd) (e : Ending) (w' : World) : Prop :=
  (err ≠ 0 ∧ ∃ dn', e = .returned (.tuple #[.pointer none, .int .i64 err]) ∧ GroS (rp :: blk ro) w w' ∧ QK w' rp B ro rc n L2 pw2 dn' ∧ dn ≤ dn' ∧ dn' ≤ dn + 20) ∨
  (err = 0 ∧ ∃ vq mp ao cap R dn', e = .returned (.tuple #[.pointer (some ⟨vq, 0, none⟩), .int .i64 0]) ∧ GroS (rp :: blk ro) w w' ∧ VD w.heap.size w' vq mp rp B ro rc n L2 pw2 dn' h2 false ((c0 + 1 : Nat) : Int) ao cap R ∧ R.map IM.it = L0 ∧ w.heap.size ≤ vq ∧ w.heap.size ≤ mp ∧ dn ≤ dn' ∧ dn' ≤ dn + 20)
theorem RoP.yes {w w' : World} {rp B : Nat} {ro : Option Addr} {rc n : Nat} {dn : Int} {L0 : List It} {c0 : Nat} {L2 : List Nat} {pw2 : Int} {h2 : Hd} {e : Ending} (h : RoP w rp B ro rc n dn L0 c0 0 L2 pw2 h2 e w') : ∃ vq mp ao cap R dn', e = .returned (.tuple #[.pointer (some ⟨vq, 0, none⟩), .int .i64 0]) ∧ GroS (rp :: blk ro) w w' ∧ VD w.heap.size w' vq mp rp B ro rc n L2 pw2 dn' h2 false ((c0 + 1 : Nat) : Int) ao cap R ∧ R.map IM.it = L0 ∧ w.heap.size ≤ vq ∧ w.heap.size ≤ mp ∧ dn ≤ dn' ∧ dn' ≤ dn + 20 := by
  rcases h with ⟨h0, _⟩ | ⟨_, h⟩
  · exact absurd rfl h0
  · exact h
theorem RoP.no {w w' : World} {rp B : Nat} {ro : Option Addr} {rc n : Nat} {dn : Int} {L0 : List It} {c0 : Nat} {err : Int} {L2 : List Nat} {pw2 : Int} {h2 : Hd} {e : Ending} (h : RoP w rp B ro rc n dn L0 c0 err L2 pw2 h2 e w') (h0 : err ≠ 0) : ∃ dn', e = .returned (.tuple #[.pointer none, .int .i64 err]) ∧ GroS (rp :: blk ro) w w' ∧ QK w' rp B ro rc n L2 pw2 dn' ∧ dn ≤ dn' ∧ dn' ≤ dn + 20 := by
  rcases h with ⟨_, h⟩ | ⟨h1, _⟩
  · exact h
  · exact absurd h1 h0
theorem UP (w : World) (rp B : Nat) (ro : Option Addr) (rc n : Nat) (L : List Nat) (pw dn : Int) (H : QK w rp B ro rc n L pw dn) (hn3 : 3 ≤ n) (h : Hd) (rs : List (List Nat)) (HG : Good L n h rs) (hg : h.g < 10000) (hN : hld rs = none) : Calls Tryz.prog 7 #[vP rp 0] w (fun e w' => e = .returned (.tuple #[.pointer none, iK 2]) ∧ Gro w w') := by
  refine eN func7 rfl ntmps7 [vP rp 0] ?_
  have GG := Gro.refl w
  have hro := H.ltr
  refine qE (qG (mv (.pointer none) rfl (mv (iK 0) rfl (nq ?_))))
  refine qL (qE (qG (mv (vP rp 0) rfl (nq ?_))))
  refine jq 12 rfl rfl _ 29 call29 rfl rfl _ rfl [vP rp 0] rfl (Jr _ rp B ro rc n L pw dn H hn3 rs (HG.opens (by omega))) (by rintro _ _ ⟨_, _, _, _, he, _, _, _, _, _⟩; exact ⟨_, he⟩) ?_
  rintro v w1 ⟨mp, ao1, cap1, q, he, hq, G, hmp, HK, HL⟩
  cases he
  replace H := H.gro G
  replace GG := GG.trans G
  clear G
  rw [HG.counts] at HK
  have hql : q.length ≤ 4096 := by
    have h1 := HG.num
    rw [hq, List.length_map] at h1
    have h2 := HG.cnt
    have h3 := HG.fit
    have h4 := H.le
    omega
  have hN2 : hld (q.map (·.l)) = none := by rw [← hq]; exact hN
  have hls : ∀ r ∈ q.map (·.l), r.length ≤ 1024 := fun r hr => HG.lens r (by rw [hq]; exact hr)
  refine nq ?_
  refine mv (.tuple #[vP mp 0, .slice ao1 q.length cap1, iK 0]) rfl (mv (vP mp 0) rfl (mv (.slice ao1 q.length cap1) rfl (mv (iK 0) rfl (mv (vP mp 0) rfl (mv (.slice ao1 q.length cap1) rfl ?_)))))
  refine nq ?_
  refine mv (iK 0) rfl (nq ?_)
  refine qL (qE (qE (qG (mv (iK 0) rfl (sv (vF) (jj 31 .i64 _ _ _ rfl underlying31 0 0 rfl rfl false (decide_eq_true rfl) _) rfl (nq ?_))))))
  refine qL (qF rfl (qK (qE (qG (mv (.slice ao1 q.length cap1) rfl (nq ?_))))))
  refine jr 21 rfl rfl _ 30 call30 rfl rfl _ rfl [.slice ao1 q.length cap1] rfl ((Zv _ ao1 cap1 q.length (q.map (·.l)) (by rw [List.length_map]) HL.lc hls (by rw [List.length_map]; exact hql)).mono fun e w' HZ => by rw [hN2] at HZ; exact HZ) ?_
  intro w2 G
  replace H := H.gro G
  replace HK := HK.gro G
  replace HL := HL.gro G
  replace GG := GG.trans G
  clear G
  refine nq ?_
  refine mv (.tuple #[.slice none 0 0, iK 0, vF]) rfl (mv (.slice none 0 0) rfl (mv (iK 0) rfl (mv (vF) rfl (mv (.slice none 0 0) rfl (mv (iK 0) rfl ?_)))))
  refine nq ?_
  refine mv (vF) rfl (nq ?_)
  refine qL (qE (qE (qG (mv (vF) rfl (sv (vT) (jZ _ _ rfl false rfl) rfl (nq ?_))))))
  refine qL (qT rfl (qE (qG (mv (.pointer none) rfl (mv (iK 2) rfl (nq ?_))))))
  refine qL (qR (jm ?_))
  refine bodyPost_ret (results_tmp2 results7 _ _ _) rfl ?_
  exact ⟨rfl, GG⟩
theorem VO (w : World) (rp B : Nat) (ro : Option Addr) (rc n : Nat) (L : List Nat) (pw dn : Int) (H : QK w rp B ro rc n L pw dn) (hn3 : 3 ≤ n) (h : Hd) (rs : List (List Nat)) (HG : Good L n h rs) (hg : h.g < 10000) (L0 : List It) (c0 : Nat) (hN : hld rs = some (L0, c0)) (hc : c0 = 1048576) : Calls Tryz.prog 7 #[vP rp 0] w (fun e w' => e = .returned (.tuple #[.pointer none, iK 5]) ∧ Gro w w') := by
  have t1 : decide (((c0 : Nat) : Int) = 1048576) = true := decide_eq_true (by omega)
  refine eN func7 rfl ntmps7 [vP rp 0] ?_
  have GG := Gro.refl w
  have hro := H.ltr
  refine qE (qG (mv (.pointer none) rfl (mv (iK 0) rfl (nq ?_))))
  refine qL (qE (qG (mv (vP rp 0) rfl (nq ?_))))
  refine jq 12 rfl rfl _ 29 call29 rfl rfl _ rfl [vP rp 0] rfl (Jr _ rp B ro rc n L pw dn H hn3 rs (HG.opens (by omega))) (by rintro _ _ ⟨_, _, _, _, he, _, _, _, _, _⟩; exact ⟨_, he⟩) ?_
  rintro v w1 ⟨mp, ao1, cap1, q, he, hq, G, hmp, HK, HL⟩
  cases he
  replace H := H.gro G
  replace GG := GG.trans G
  clear G
  rw [HG.counts] at HK
  have hql : q.length ≤ 4096 := by
    have h1 := HG.num
    rw [hq, List.length_map] at h1
    have h2 := HG.cnt
    have h3 := HG.fit
    have h4 := H.le
    omega
  have hN2 : hld (q.map (·.l)) = some (L0, c0) := by rw [← hq]; exact hN
  have hls : ∀ r ∈ q.map (·.l), r.length ≤ 1024 := fun r hr => HG.lens r (by rw [hq]; exact hr)
  refine nq ?_
  refine mv (.tuple #[vP mp 0, .slice ao1 q.length cap1, iK 0]) rfl (mv (vP mp 0) rfl (mv (.slice ao1 q.length cap1) rfl (mv (iK 0) rfl (mv (vP mp 0) rfl (mv (.slice ao1 q.length cap1) rfl ?_)))))
  refine nq ?_
  refine mv (iK 0) rfl (nq ?_)
  refine qL (qE (qE (qG (mv (iK 0) rfl (sv (vF) (jj 31 .i64 _ _ _ rfl underlying31 0 0 rfl rfl false (decide_eq_true rfl) _) rfl (nq ?_))))))
  refine qL (qF rfl (qK (qE (qG (mv (.slice ao1 q.length cap1) rfl (nq ?_))))))
  refine jq 21 rfl rfl _ 30 call30 rfl rfl _ rfl [.slice ao1 q.length cap1] rfl ((Zv _ ao1 cap1 q.length (q.map (·.l)) (by rw [List.length_map]) HL.lc hls (by rw [List.length_map]; exact hql)).mono fun e w' HZ => by rw [hN2] at HZ; exact HZ) (by rintro _ _ ⟨_, _, _, he, _, _, _, _, _⟩; exact ⟨_, he⟩) ?_
  rintro v w2 ⟨ao2, cap2, R, he, G, HW, HS, hR, hn0⟩
  cases he
  replace HW := HW.mono GG.size
  replace HS := HS.mono GG.size
  replace H := H.gro G
  replace HK := HK.gro G
  replace HL := HL.gro G
  replace GG := GG.trans G
  clear G
  refine nq ?_
  refine mv (.tuple #[.slice ao2 R.length cap2, nK c0, vT]) rfl (mv (.slice ao2 R.length cap2) rfl (mv (nK c0) rfl (mv (vT) rfl (mv (.slice ao2 R.length cap2) rfl (mv (nK c0) rfl ?_)))))
  refine nq ?_
  refine mv (vT) rfl (nq ?_)
  refine qL (qE (qE (qG (mv (vT) rfl (sv (vF) (jZ _ _ rfl true rfl) rfl (nq ?_))))))
  refine qL (qF rfl (qK (qE (qE (qG (mv (nK c0) rfl (sv (vT) (jw 2 .i64 _ _ _ rfl underlying2 ((c0 : Nat) : Int) 1048576 rfl rfl true t1 _) rfl (nq ?_))))))))
  refine qL (qT rfl (qE (qG (mv (.pointer none) rfl (mv (iK 5) rfl (nq ?_))))))
  refine qL (qR (jm ?_))
  refine bodyPost_ret (results_tmp2 results7 _ _ _) rfl ?_
  exact ⟨rfl, GG⟩
theorem KH (w : World) (rp B : Nat) (ro : Option Addr) (rc n : Nat) (L : List Nat) (pw dn : Int) (H : QK w rp B ro rc n L pw dn) (hn3 : 3 ≤ n) (h : Hd) (rs : List (List Nat)) (HG : Good L n h rs) (hg : h.g < 10000) (L0 : List It) (c0 : Nat) (hN : hld rs = some (L0, c0)) (hc : c0 < 1048576) (err : Int) (L2 : List Nat) (pw2 : Int) (h2 : Hd) (dw2 : Bool) (rs2 : List (List Nat)) (HO : Out n L pw h false rs (begV (c0 + 1)) err L2 pw2 h2 dw2 rs2) (SB : SideB n L pw h false (begV (c0 + 1)) err L2 pw2 h2 dw2) (hd1 : 0 ≤ dn) (hd2 : dn < 9223372036854760000) : Calls Tryz.prog 7 #[vP rp 0] w (RoP w rp B ro rc n dn L0 c0 err L2 pw2 h2) := by
  have t1 : decide (((c0 : Nat) : Int) = 1048576) = false := decide_eq_false (by omega)
  rcases HO.res with ⟨rfl, hrs⟩ | ⟨he1, hrs⟩
  clear hrs
  refine eN func7 rfl ntmps7 [vP rp 0] ?_
  have GG := Gro.refl w
  have hro := H.ltr
  refine qE (qG (mv (.pointer none) rfl (mv (iK 0) rfl (nq ?_))))
  refine qL (qE (qG (mv (vP rp 0) rfl (nq ?_))))
  refine jq 12 rfl rfl _ 29 call29 rfl rfl _ rfl [vP rp 0] rfl (Jr _ rp B ro rc n L pw dn H hn3 rs (HG.opens (by omega))) (by rintro _ _ ⟨_, _, _, _, he, _, _, _, _, _⟩; exact ⟨_, he⟩) ?_
  rintro v w1 ⟨mp, ao1, cap1, q, he, hq, G, hmp, HK, HL⟩
  cases he
  replace H := H.gro G
  replace GG := GG.trans G
  clear G
  rw [HG.counts] at HK
  have hql : q.length ≤ 4096 := by
    have h1 := HG.num
    rw [hq, List.length_map] at h1
    have h2 := HG.cnt
    have h3 := HG.fit
    have h4 := H.le
    omega
  have hN2 : hld (q.map (·.l)) = some (L0, c0) := by rw [← hq]; exact hN
  have hls : ∀ r ∈ q.map (·.l), r.length ≤ 1024 := fun r hr => HG.lens r (by rw [hq]; exact hr)
  refine nq ?_
  refine mv (.tuple #[vP mp 0, .slice ao1 q.length cap1, iK 0]) rfl (mv (vP mp 0) rfl (mv (.slice ao1 q.length cap1) rfl (mv (iK 0) rfl (mv (vP mp 0) rfl (mv (.slice ao1 q.length cap1) rfl ?_)))))
  refine nq ?_
  refine mv (iK 0) rfl (nq ?_)
  refine qL (qE (qE (qG (mv (iK 0) rfl (sv (vF) (jj 31 .i64 _ _ _ rfl underlying31 0 0 rfl rfl false (decide_eq_true rfl) _) rfl (nq ?_))))))
  refine qL (qF rfl (qK (qE (qG (mv (.slice ao1 q.length cap1) rfl (nq ?_))))))
  refine jq 21 rfl rfl _ 30 call30 rfl rfl _ rfl [.slice ao1 q.length cap1] rfl ((Zv _ ao1 cap1 q.length (q.map (·.l)) (by rw [List.length_map]) HL.lc hls (by rw [List.length_map]; exact hql)).mono fun e w' HZ => by rw [hN2] at HZ; exact HZ) (by rintro _ _ ⟨_, _, _, he, _, _, _, _, _⟩; exact ⟨_, he⟩) ?_
  rintro v w2 ⟨ao2, cap2, R, he, G, HW, HS, hR, hn0⟩
  cases he
  replace HW := HW.mono GG.size
  replace HS := HS.mono GG.size
  replace H := H.gro G
  replace HK := HK.gro G
  replace HL := HL.gro G
  replace GG := GG.trans G
  clear G
  refine nq ?_
  refine mv (.tuple #[.slice ao2 R.length cap2, nK c0, vT]) rfl (mv (.slice ao2 R.length cap2) rfl (mv (nK c0) rfl (mv (vT) rfl (mv (.slice ao2 R.length cap2) rfl (mv (nK c0) rfl ?_)))))
  refine nq ?_
  refine mv (vT) rfl (nq ?_)
  refine qL (qE (qE (qG (mv (vT) rfl (sv (vF) (jZ _ _ rfl true rfl) rfl (nq ?_))))))
  refine qL (qF rfl (qK (qE (qE (qG (mv (nK c0) rfl (sv (vF) (jw 2 .i64 _ _ _ rfl underlying2 ((c0 : Nat) : Int) 1048576 rfl rfl false t1 _) rfl (nq ?_))))))))
  refine qL (qF rfl (qK (qE (qG (mv (vP mp 0) rfl (nq ?_))))))
  have hU := H.lt3 HK
  have zH := H
  have zHK := HK
  have zHL := HL
  have zHW := HW
  have zHS := HS
  have GZ := GG
  have GA := Gro.refl w2
  refine jq 30 rfl rfl _ 32 call32 rfl rfl _ rfl [.int .u64 1] rfl ((vQ 1 (by decide) _).mono fun _ _ h => h.byt) (by rintro _ _ ⟨_, _, he, _, _⟩; exact ⟨_, he⟩) ?_
  rintro v w3 ⟨ao3, cap3, he, G, HO3⟩
  cases he
  replace H := H.gro G
  replace HK := HK.gro G
  replace HL := HL.gro G
  replace HW := HW.gro G
  replace HS := HS.gro G
  replace GA := GA.gro G
  replace GG := GG.trans G
  clear G
  refine nq ?_
  refine mv (nK c0) rfl (sv (nK (c0 + 1)) (jV 2 _ _ _ rfl ((c0 : Nat) : Int) 1 ((c0 + 1 : Nat) : Int) rfl rfl (by omega) (by omega) (by omega) _) rfl (sv (.int .u64 (((c0 + 1) : Nat) : Int)) (conv2U _ rfl ((c0 + 1 : Nat) : Int) rfl (c0 + 1) rfl (by unfold lim; omega) _) rfl (nq ?_)))
  refine jq 34 rfl rfl _ 32 call32 rfl rfl _ rfl [.int .u64 (((c0 + 1) : Nat) : Int)] rfl ((vQ (c0 + 1) (by unfold lim; omega) _).mono fun _ _ h => h.byt) (by rintro _ _ ⟨_, _, he, _, _⟩; exact ⟨_, he⟩) ?_
  rintro v w4 ⟨ao4, cap4, he, G, HO4⟩
  cases he
  replace H := H.gro G
  replace HK := HK.gro G
  replace HL := HL.gro G
  replace HW := HW.gro G
  replace HS := HS.gro G
  replace GA := GA.gro G
  replace HO3 := HO3.gro G
  replace GG := GG.trans G
  clear G
  refine nq ?_
  refine yH bT 35 rfl rfl _ _ rfl (l := numL 1) (by exact rfl) HO3 (l' := numL (c0 + 1)) (by exact rfl) (HO4.nc) (by simp only [zG]; have h1 := zL 1; have h2 := zL (c0 + 1); omega) (by decide) GA.size ?_
  intro ao5 cap5 w5 HO5 BB
  replace GA := zq GA BB (Nat.le_refl _)
  replace H := zH.gro GA
  replace HK := zHK.gro GA
  replace HL := zHL.gro GA
  replace HW := zHW.gro GA
  replace HS := zHS.gro GA
  replace GG := GZ.trans GA
  clear BB
  refine nq ?_
  refine jq 36 rfl rfl _ 31 call31 rfl rfl _ rfl [vP mp 0, .slice ao5 (numL 1 ++ numL (c0 + 1)).length cap5] rfl (SB _ mp rp B ro rc dn _ _ HK H (HO5.bs (fun k hk => hU k hk)) hd1 hd2) (by rintro _ _ ⟨_, he, _, _, _, _, _⟩; exact ⟨_, he⟩) ?_
  rintro v w6 ⟨dn2, he, G, hd3, hd4, HD2, HK2⟩
  cases he
  have HW3 := H.keepW HK G HW
  have HS3 : OBs _ w.heap.size R := fun y hy => H.keepB HK G (HS y hy) hro
  have GS : GroS (rp :: blk ro) w w6 := G.gros (GroS.of GG) (fun k hk => by
    rcases List.mem_cons.1 hk with hk | hk
    exact .inl (List.mem_cons.2 (.inl hk))
    rcases List.mem_cons.1 hk with hk | hk
    exact .inr (by rw [hk]; exact hmp)
    exact .inl (List.mem_cons.2 (.inr hk)))
  clear GG HW HS
  have GG := GS
  have HW := HW3
  have HS := HS3
  clear GS HW3 HS3
  refine nq ?_
  refine mv (iK 0) rfl (nq ?_)
  refine qL (qE (qE (qG (mv (iK 0) rfl (sv (vF) (jj 31 .i64 _ _ _ rfl underlying31 0 0 rfl rfl false (decide_eq_true rfl) _) rfl (nq ?_))))))
  refine qL (qF rfl (qK (qE (qG (mv (vP mp 0) rfl (mv (.slice ao2 R.length cap2) rfl (mv (nK c0) rfl (sv (nK (c0 + 1)) (jV 2 _ _ _ rfl ((c0 : Nat) : Int) 1 ((c0 + 1 : Nat) : Int) rfl rfl (by omega) (by omega) (by omega) _) rfl (sv (.agg (rvA (some mp) ao2 R.length cap2 ((c0 + 1 : Nat) : Int))) (jK 62 _ rfl [(0, vP mp 0), (1, .slice ao2 R.length cap2), (2, nK (c0 + 1))] rfl _ (bdRv mp ao2 R.length cap2 _ _)) rfl (nq ?_))))))))))
  refine jW 45 rfl rfl 62 _ rfl _ rfl (rvA (some mp) ao2 R.length cap2 ((c0 + 1 : Nat) : Int)) rfl ?_
  intro w7 g1 G eg1 kg1
  have bg1 := jN GG eg1
  replace HW := HW.gro G
  replace HS := HS.gro G
  replace HD2 := HD2.gro G
  replace HK2 := HK2.gro G
  replace GG := GG.tg G
  clear G
  clear eg1
  refine nq ?_
  refine mv (vP g1 0) rfl (mv (iK 0) rfl (nq ?_))
  refine qL (qR ?_)
  refine bodyPost_ret (results_tmp2 results7 _ _ _) rfl ?_
  have hdw := HO.ok rfl
  subst hdw
  exact .inr ⟨rfl, g1, mp, ao2, cap2, R, dn2, rfl, GG, ⟨kg1, HK2, HD2, HW, HS, hn0, hro⟩, hR, bg1, hmp, hd3, hd4⟩
  clear hrs
  have t2 : decide (err = 0) = false := decide_eq_false he1
  refine eN func7 rfl ntmps7 [vP rp 0] ?_
  have GG := Gro.refl w
  have hro := H.ltr
  refine qE (qG (mv (.pointer none) rfl (mv (iK 0) rfl (nq ?_))))
  refine qL (qE (qG (mv (vP rp 0) rfl (nq ?_))))
  refine jq 12 rfl rfl _ 29 call29 rfl rfl _ rfl [vP rp 0] rfl (Jr _ rp B ro rc n L pw dn H hn3 rs (HG.opens (by omega))) (by rintro _ _ ⟨_, _, _, _, he, _, _, _, _, _⟩; exact ⟨_, he⟩) ?_
  rintro v w1 ⟨mp, ao1, cap1, q, he, hq, G, hmp, HK, HL⟩
  cases he
  replace H := H.gro G
  replace GG := GG.trans G
  clear G
  rw [HG.counts] at HK
  have hql : q.length ≤ 4096 := by
    have h1 := HG.num
    rw [hq, List.length_map] at h1
    have h2 := HG.cnt
    have h3 := HG.fit
    have h4 := H.le
    omega
  have hN2 : hld (q.map (·.l)) = some (L0, c0) := by rw [← hq]; exact hN
  have hls : ∀ r ∈ q.map (·.l), r.length ≤ 1024 := fun r hr => HG.lens r (by rw [hq]; exact hr)
  refine nq ?_
  refine mv (.tuple #[vP mp 0, .slice ao1 q.length cap1, iK 0]) rfl (mv (vP mp 0) rfl (mv (.slice ao1 q.length cap1) rfl (mv (iK 0) rfl (mv (vP mp 0) rfl (mv (.slice ao1 q.length cap1) rfl ?_)))))
  refine nq ?_
  refine mv (iK 0) rfl (nq ?_)
  refine qL (qE (qE (qG (mv (iK 0) rfl (sv (vF) (jj 31 .i64 _ _ _ rfl underlying31 0 0 rfl rfl false (decide_eq_true rfl) _) rfl (nq ?_))))))
  refine qL (qF rfl (qK (qE (qG (mv (.slice ao1 q.length cap1) rfl (nq ?_))))))
  refine jq 21 rfl rfl _ 30 call30 rfl rfl _ rfl [.slice ao1 q.length cap1] rfl ((Zv _ ao1 cap1 q.length (q.map (·.l)) (by rw [List.length_map]) HL.lc hls (by rw [List.length_map]; exact hql)).mono fun e w' HZ => by rw [hN2] at HZ; exact HZ) (by rintro _ _ ⟨_, _, _, he, _, _, _, _, _⟩; exact ⟨_, he⟩) ?_
  rintro v w2 ⟨ao2, cap2, R, he, G, HW, HS, hR, hn0⟩
  cases he
  replace HW := HW.mono GG.size
  replace HS := HS.mono GG.size
  replace H := H.gro G
  replace HK := HK.gro G
  replace HL := HL.gro G
  replace GG := GG.trans G
  clear G
  refine nq ?_
  refine mv (.tuple #[.slice ao2 R.length cap2, nK c0, vT]) rfl (mv (.slice ao2 R.length cap2) rfl (mv (nK c0) rfl (mv (vT) rfl (mv (.slice ao2 R.length cap2) rfl (mv (nK c0) rfl ?_)))))
  refine nq ?_
  refine mv (vT) rfl (nq ?_)
  refine qL (qE (qE (qG (mv (vT) rfl (sv (vF) (jZ _ _ rfl true rfl) rfl (nq ?_))))))
  refine qL (qF rfl (qK (qE (qE (qG (mv (nK c0) rfl (sv (vF) (jw 2 .i64 _ _ _ rfl underlying2 ((c0 : Nat) : Int) 1048576 rfl rfl false t1 _) rfl (nq ?_))))))))
  refine qL (qF rfl (qK (qE (qG (mv (vP mp 0) rfl (nq ?_))))))
  have hU := H.lt3 HK
  have zH := H
  have zHK := HK
  have zHL := HL
  have zHW := HW
  have zHS := HS
  have GZ := GG
  have GA := Gro.refl w2
  refine jq 30 rfl rfl _ 32 call32 rfl rfl _ rfl [.int .u64 1] rfl ((vQ 1 (by decide) _).mono fun _ _ h => h.byt) (by rintro _ _ ⟨_, _, he, _, _⟩; exact ⟨_, he⟩) ?_
  rintro v w3 ⟨ao3, cap3, he, G, HO3⟩
  cases he
  replace H := H.gro G
  replace HK := HK.gro G
  replace HL := HL.gro G
  replace HW := HW.gro G
  replace HS := HS.gro G
  replace GA := GA.gro G
  replace GG := GG.trans G
  clear G
  refine nq ?_
  refine mv (nK c0) rfl (sv (nK (c0 + 1)) (jV 2 _ _ _ rfl ((c0 : Nat) : Int) 1 ((c0 + 1 : Nat) : Int) rfl rfl (by omega) (by omega) (by omega) _) rfl (sv (.int .u64 (((c0 + 1) : Nat) : Int)) (conv2U _ rfl ((c0 + 1 : Nat) : Int) rfl (c0 + 1) rfl (by unfold lim; omega) _) rfl (nq ?_)))
  refine jq 34 rfl rfl _ 32 call32 rfl rfl _ rfl [.int .u64 (((c0 + 1) : Nat) : Int)] rfl ((vQ (c0 + 1) (by unfold lim; omega) _).mono fun _ _ h => h.byt) (by rintro _ _ ⟨_, _, he, _, _⟩; exact ⟨_, he⟩) ?_
  rintro v w4 ⟨ao4, cap4, he, G, HO4⟩
  cases he
  replace H := H.gro G
  replace HK := HK.gro G
  replace HL := HL.gro G
  replace HW := HW.gro G
  replace HS := HS.gro G
  replace GA := GA.gro G
  replace HO3 := HO3.gro G
  replace GG := GG.trans G
  clear G
  refine nq ?_
  refine yH bT 35 rfl rfl _ _ rfl (l := numL 1) (by exact rfl) HO3 (l' := numL (c0 + 1)) (by exact rfl) (HO4.nc) (by simp only [zG]; have h1 := zL 1; have h2 := zL (c0 + 1); omega) (by decide) GA.size ?_
  intro ao5 cap5 w5 HO5 BB
  replace GA := zq GA BB (Nat.le_refl _)
  replace H := zH.gro GA
  replace HK := zHK.gro GA
  replace HL := zHL.gro GA
  replace HW := zHW.gro GA
  replace HS := zHS.gro GA
  replace GG := GZ.trans GA
  clear BB
  refine nq ?_
  refine jq 36 rfl rfl _ 31 call31 rfl rfl _ rfl [vP mp 0, .slice ao5 (numL 1 ++ numL (c0 + 1)).length cap5] rfl (SB _ mp rp B ro rc dn _ _ HK H (HO5.bs (fun k hk => hU k hk)) hd1 hd2) (by rintro _ _ ⟨_, he, _, _, _, _, _⟩; exact ⟨_, he⟩) ?_
  rintro v w6 ⟨dn2, he, G, hd3, hd4, HD2, HK2⟩
  cases he
  have HW3 := H.keepW HK G HW
  have HS3 : OBs _ w.heap.size R := fun y hy => H.keepB HK G (HS y hy) hro
  have GS : GroS (rp :: blk ro) w w6 := G.gros (GroS.of GG) (fun k hk => by
    rcases List.mem_cons.1 hk with hk | hk
    exact .inl (List.mem_cons.2 (.inl hk))
    rcases List.mem_cons.1 hk with hk | hk
    exact .inr (by rw [hk]; exact hmp)
    exact .inl (List.mem_cons.2 (.inr hk)))
  clear GG HW HS
  have GG := GS
  have HW := HW3
  have HS := HS3
  clear GS HW3 HS3
  refine nq ?_
  refine mv (iK err) rfl (nq ?_)
  refine qL (qE (qE (qG (mv (iK err) rfl (sv (vT) (jj 31 .i64 _ _ _ rfl underlying31 err 0 rfl rfl true t2 _) rfl (nq ?_))))))
  refine qL (qT rfl (qE (qG (mv (iK err) rfl (mv (.pointer none) rfl (mv (iK err) rfl (nq ?_)))))))
  refine qL (qR (jm ?_))
  refine bodyPost_ret (results_tmp2 results7 _ _ _) rfl ?_
  exact .inl ⟨he1, dn2, rfl, GG, HD2, hd3, hd4⟩
end Go.Proofs.YtgfnjekpafempaaGreat
