import Derived.Test.YtgfnjekpafempaaGreatBRI
import Derived.Test.YtgfnjekpafempaaGreatBAb
namespace Go.Proofs.YtgfnjekpafempaaGreat
open Go.Proofs.Tryz
open Go.RowKit
set_option maxRecDepth 100000 in
set_option maxHeartbeats 4000000 in
theorem YV (w : World) (rp B : Nat) (ro : Option Addr) (rc n : Nat) (L : List Nat) (pw dn : Int) (H : QK w rp B ro rc n L pw dn) (hn : n < 3) : Calls Tryz.prog 7 #[vP rp 0] w (fun e w' => e = .returned (.tuple #[.pointer none, iK 1]) ∧ Gro w w') := by
  refine eN func7 rfl ntmps7 [vP rp 0] ?_
  have GG := Gro.refl w
  refine qE (qG (mv (.pointer none) rfl (mv (iK 0) rfl (nq ?_))))
  refine qL (qE (qG (mv (vP rp 0) rfl (nq ?_))))
  refine jr 12 rfl rfl _ 29 call29 rfl rfl _ rfl [vP rp 0] rfl (Ud _ rp B ro rc n L pw dn H hn) ?_
  intro w1 G
  replace H := H.gro G
  replace GG := GG.trans G
  clear G
  refine nq ?_
  refine mv (.tuple #[.pointer none, .slice none 0 0, iK 1]) rfl (mv (.pointer none) rfl (mv (.slice none 0 0) rfl (mv (iK 1) rfl (mv (.pointer none) rfl (mv (.slice none 0 0) rfl ?_)))))
  refine nq ?_
  refine mv (iK 1) rfl (nq ?_)
  refine qL (qE (qE (qG (mv (iK 1) rfl (sv (vT) (jj 31 .i64 _ _ _ rfl underlying31 1 0 rfl rfl true (by decide) _) rfl (nq ?_))))))
  refine qL (qT rfl (qE (qG (mv (iK 1) rfl (mv (.pointer none) rfl (mv (iK 1) rfl (nq ?_)))))))
  refine qL (qR (jm ?_))
  refine bodyPost_ret (results_tmp2 results7 _ _ _) rfl ?_
  exact ⟨rfl, GG⟩
theorem PU.up {n : Nat} {L : List Nat} {pw : Int} {h : Hd} {rs : List (List Nat)} {Lx : List It} {c : Nat} {er : Int} {m : Nat} (H : PU n L pw h rs Lx c er m) : PU n L pw h rs Lx c er (m + 1) := ⟨H.okp, H.good, Nat.le_succ_of_le H.g, H.op⟩
theorem PU.item {n : Nat} {L : List Nat} {pw : Int} {h : Hd} {dw : Bool} {rs : List (List Nat)} {Lx : List It} {c : Nat} {m : Nat} (H : PU n L pw h rs Lx c 0 m) {x : It} (hx : x.ok) {L2 : List Nat} {pw2 : Int} {h2 : Hd} {dw2 : Bool} {rs2 : List (List Nat)} (HO : Out n L pw h dw rs (formV x) 0 L2 pw2 h2 dw2 rs2) : PU n L2 pw2 h2 rs2 (tkV Lx x) c 0 (m + 1) := by
  obtain ⟨hn3, hh, hsk, hok⟩ := H.op rfl
  have hgm := H.g
  have hg2 := HO.g
  refine ⟨HO.okp, fun _ => HO.good, by omega, fun _ => ⟨hn3, ?_, YR hsk _, fun y hy => ?_⟩⟩
  · rcases HO.res with ⟨_, e⟩ | ⟨h0, _⟩
    · rw [e]
      exact Yb hh hx uq
    · exact absurd rfl h0
  · rcases Zo hy with hy | rfl
    · exact hok y hy
    · exact hx
theorem PU.fail {n : Nat} {L : List Nat} {pw : Int} {h : Hd} {dw : Bool} {rs : List (List Nat)} {Lx : List It} {c : Nat} {m : Nat} (H : PU n L pw h rs Lx c 0 m) {l : List Nat} {err : Int} (he : err ≠ 0) {L2 : List Nat} {pw2 : Int} {h2 : Hd} {dw2 : Bool} {rs2 : List (List Nat)} (HO : Out n L pw h dw rs l err L2 pw2 h2 dw2 rs2) : PU n L2 pw2 h2 rs Lx c 0 (m + 1) := by
  have hgm := H.g
  have hg2 := HO.g
  exact ⟨HO.okp, fun _ => HO.no he, by omega, H.op⟩
theorem getK_ok {U : List Nat} {w : World} {vp lp p sg mb n : Nat} {L : List Nat} {pw dn : Int} {h : Hd} {dw : Bool} {inc : Int} {M : List (Nat × IM)} (H : VK U w vp lp p sg mb n L pw dn h dw inc M) (k : Nat) : (getK M k).ok := by
  unfold getK
  cases hg : getM M k with
  | none => exact JY
  | some y => exact H.vb.ok _ (zh hg)
theorem fkI_nc {C : Nat} {w : World} {vq mp rp B : Nat} {ro : Option Addr} {rc n : Nat} {L : List Nat} {pw dn : Int} {h : Hd} {dw : Bool} {inc : Int} {ao : Option Addr} {cap : Nat} {R : List IM} (H : VD C w vq mp rp B ro rc n L pw dn h dw inc ao cap R) (k : Nat) : NC w .u8 ((fkI R k).getD zM).ao ((fkI R k).getD zM).cap ((fkI R k).getD zM).val ∧ ((fkI R k).getD zM).ok := by
  cases hg : fkI R k with
  | none => exact ⟨NC.nil _ _, JY⟩
  | some y => exact ⟨(H.byt y (List.mem_of_find?_eq_some hg)).nc, H.row.all y (List.mem_of_find?_eq_some hg)⟩
theorem Yi {n : Nat} {L : List Nat} {pw : Int} {h : Hd} {dw : Bool} {Lx : List It} {c f : Nat} {l : List Nat} {args : Option Addr → Nat → List Value} {ans : IM → Value} {L2 : List Nat} {pw2 : Int} {h2 : Hd} {dw2 : Bool} (a : ∀ (U : List Nat) (w : World) (vp lp p sg mb : Nat) (dn : Int) (M : List (Nat × IM)) (ao : Option Addr) (cap : Nat), VK U w vp lp p sg mb n L pw dn h dw (c : Int) M → MRel M Lx → BS U w ao cap l → 0 ≤ dn → dn < 9223372036854760000 → Calls Tryz.prog f (.pointer (some ⟨vp, 0, none⟩) :: args ao cap).toArray w fun e w' => ∃ dn', e = .returned (ans zM) ∧ GroS [vp, lp, p, sg, mb] w w' ∧ VK U w' vp lp p sg mb n L2 pw2 dn' h2 dw2 (c : Int) M ∧ dn ≤ dn' ∧ dn' ≤ dn + 20) : CallA n L pw h dw Lx c f l args ans zM.sg L2 pw2 h2 dw2 Lx :=
  fun U w vp lp p sg mb dn M ao cap hv hr hx h0 h1 => (a U w vp lp p sg mb dn M ao cap hv hr hx h0 h1).mono fun _e w' ⟨dn', he, G, HV, d1, d2⟩ => ⟨w'.heap.size, dn', M, zM, he, ⟨G, HV, hr, fun _y hy => .inl hy, d1, d2⟩, HV.bd, G.size, OB.nil _ _ _ _, JY, rfl⟩
theorem Yh {n : Nat} {L : List Nat} {pw : Int} {h : Hd} {dw : Bool} {Lx : List It} {c f : Nat} {l : List Nat} {args : Option Addr → Nat → List Value} {ans : IM → Value} {L2 : List Nat} {pw2 : Int} {h2 : Hd} {dw2 : Bool} (a : ∀ (C : Nat) (w : World) (vq mp rp B : Nat) (ro : Option Addr) (rc : Nat) (dn : Int) (ao : Option Addr) (cap : Nat) (R : List IM) (bo : Option Addr) (bc : Nat), VD C w vq mp rp B ro rc n L pw dn h dw (c : Int) ao cap R → C ≤ w.heap.size → R.map IM.it = Lx → BS (rp :: mp :: blk ro) w bo bc l → 0 ≤ dn → dn < 9223372036854760000 → Calls Tryz.prog f (.pointer (some ⟨vq, 0, none⟩) :: args bo bc).toArray w fun e w' => ∃ dn', e = .returned (ans zM) ∧ GroS (vq :: rp :: mp :: blk ro) w w' ∧ VD C w' vq mp rp B ro rc n L2 pw2 dn' h2 dw2 (c : Int) ao cap R ∧ dn ≤ dn' ∧ dn' ≤ dn + 20) : CallB n L pw h dw Lx c f l args ans zM.sg L2 pw2 h2 dw2 Lx :=
  fun C w vq mp rp B ro rc dn ao cap R bo bc hv hC hr hx h0 h1 => (a C w vq mp rp B ro rc dn ao cap R bo bc hv hC hr hx h0 h1).mono fun _e _w' ⟨dn', he, G, HV, d1, d2⟩ => ⟨dn', ao, cap, R, zM, he, ⟨G, HV, hr, fun _y hy => .inl hy, d1, d2⟩, NC.nil _ _, JY, rfl⟩
theorem put_ab (n : Nat) (L : List Nat) (pw : Int) (h : Hd) (dw : Bool) (rs : List (List Nat)) (Lx : List It) (c m : Nat) (H : PU n L pw h rs Lx c 0 m) (hm : m < 9000) (hn : n ≤ 4096) (k z : Nat) (l : List Nat) (hk : k < top) (hz : z < top) (hb : ∀ x ∈ l, x < 256) :
    ∃ (err : Int) (s : Sg) (L2 : List Nat) (pw2 : Int) (h2 : Hd) (dw2 : Bool) (rs2 : List (List Nat)) (Ly : List It), PU n L2 pw2 h2 rs2 Ly c 0 (m + 1) ∧ CallA n L pw h dw Lx c 11 l (fun ao cap => [eA k, .slice ao l.length cap, eA z]) (fun y => .tuple #[iA y, .int .i64 err]) s L2 pw2 h2 dw2 Ly ∧ CallB n L pw h dw Lx c 12 l (fun ao cap => [eA k, .slice ao l.length cap, eA z]) (fun y => .tuple #[iA y, .int .i64 err]) s L2 pw2 h2 dw2 Ly := by
  obtain ⟨hn3, hh, hsk, hok⟩ := H.op rfl
  have HG := H.good hn3
  have hfew := HG.few hn hh
  have hgm := H.g
  have few : ∀ {R : List IM}, R.map IM.it = Lx → R.length ≤ 4096 := fun hr => by
    have := congrArg List.length hr
    rw [List.length_map] at this
    omega
  by_cases hl : 64 < l.length
  · exact ⟨4, zM.sg, L, pw, h, dw, rs, Lx, H.up, yF (fun U w vp lp p sg mb dn M ao cap hv _ => jcx U w vp lp p sg mb n L pw dn h dw _ M hv k ao cap l z hl), yE (fun C w vq mp rp B ro rc dn ao cap R bo bc hv hr _ => KR C w vq mp rp B ro rc n L pw dn h dw _ ao cap R hv (few hr) k hk bo bc l z hl)⟩
  have hvl := vN_le hok k
  by_cases hf : vN Lx k = 4611686018427387903
  · exact ⟨5, zM.sg, L, pw, h, dw, rs, Lx, H.up, yF (fun U w vp lp p sg mb dn M ao cap hv hr => jcz U w vp lp p sg mb n L pw dn h dw _ M hv k hk ao cap l z (by omega) (by rw [ZB hr hv.mr, hf]; rfl)), yE (fun C w vq mp rp B ro rc dn ao cap R bo bc hv hr _ => KT C w vq mp rp B ro rc n L pw dn h dw _ ao cap R hv (few hr) k hk bo bc l z (by omega) (by rw [Qp hr hv.n0, hf]; rfl))⟩
  have hito : (putI Lx k z l).ok := ⟨hk, by unfold putI; simp only; omega, by unfold putI; simp only; omega, hz, by unfold putI; simp only; omega, hb⟩
  have hX : ∀ {U : List Nat} {w : World} {M : List (Nat × IM)} (ao : Option Addr) (cap : Nat), MRel M Lx → MR U w M → (mkI k (mkV ((getK M k).ver.n + 1) z) ao cap l).it = putI Lx k z l := fun {U w M} ao cap hr hm => by
    have e := ZB hr hm k
    unfold putI
    show (⟨k, ((getK M k).n + 1).toNat, z, l⟩ : It) = _
    rw [e]
    rfl
  obtain ⟨err, L2, pw2, h2, dw2, rs2, HO, SA, SB⟩ := JX n L pw h dw rs (formV (putI Lx k z l)) HG H.okp (by omega) hn
  by_cases he1 : err = 0
  · subst he1
    refine ⟨0, sgf (putI Lx k z l), L2, pw2, h2, dw2, rs2, tkV Lx (putI Lx k z l), H.item hito HO, fun U w vp lp p sg mb dn M ao cap hv hr hx h0 h1 => ?_, fun C w vq mp rp B ro rc dn ao cap R bo bc hv hC hr hx h0 h1 => ?_⟩
    · have hXe := hX ao cap hr hv.mr
      have hvk := ZB hr hv.mr k
      refine (Qd U w vp lp p sg mb n L pw dn h dw _ M hv k hk ao cap l z hz (by omega) (by omega) hx rs 0 L2 pw2 h2 dw2 rs2 (by rw [hXe]; exact HO) (by rw [hXe]; exact SA) h0 h1).mono fun e w' hp => ?_
      obtain ⟨C, dn', ao3, cap3, ao4, cap4, he, G, HV, ⟨hB, hC, hfr⟩, HO4, d1, d2⟩ := hp.yes
      refine ⟨C, dn', _, _, he, ⟨G, HV, ?_, fun y hy => ?_, d1, d2⟩, hB, hC, HO4, (vS hk (vr ⟨?_, ?_⟩ hz)).re _ _, ?_⟩
      · have := MRel.put hr hv.vb.map.kn hsk (x := mkI k (mkV ((getK M k).ver.n + 1) z) ao cap l) (by rw [hXe]; exact Up jdb) (QS _ ao3 cap3)
        rw [hXe] at this
        exact this
      · rcases vj hy with rfl | hy
        · exact .inr hfr
        · exact .inl hy
      · show -9223372036854775808 ≤ (getK M k).n + 1
        omega
      · show (getK M k).n + 1 < 9223372036854775808
        omega
      · have e2 := QS (mkI k (mkV ((getK M k).ver.n + 1) z) ao cap l) ao4 cap4
        rw [hXe] at e2
        rw [VL (by rw [e2]; exact hito.n1), e2]
    · refine (QQ C w vq mp rp B ro rc n L pw dn h dw _ ao cap R hv (few hr) hC (by rw [hr]; exact hsk) k hk bo bc l z hz (by omega) (vN Lx k) (Qp hr hv.n0 k) (by omega) hx rs 0 L2 pw2 h2 dw2 rs2 HO SB h0 h1).mono fun e w' hp => ?_
      rcases hp with ⟨h0, _⟩ | ⟨_, dn', ao3, cap3, R2, bo2, bc2, he, G, HV, hR2, hm2, HOb, d1, d2⟩
      · exact absurd rfl h0
      · exact ⟨dn', ao3, cap3, R2, _, he, ⟨G, HV, by rw [hR2, hr]; rfl, fun y hy => (hm2 y hy).imp id (fun e => by rw [e]; exact fun ad ha => (HOb.ge ad ha).1), d1, d2⟩, HOb.nc, (vS hk (vr ⟨by omega, by omega⟩ hz)).re _ _, VL (x := (mkI k (mkV ((vN Lx k + 1 : Nat) : Int) z) none 0 l).re bo2 bc2) hito.n1⟩
  · have hrs : rs2 = rs := by
      rcases HO.res with ⟨e, _⟩ | ⟨_, e⟩
      · exact absurd e he1
      · exact e
    refine ⟨err, zM.sg, L2, pw2, h2, dw2, rs, Lx, H.fail he1 HO, Yi fun U w vp lp p sg mb dn M ao cap hv hr hx h0 h1 => ?_, Yh fun C w vq mp rp B ro rc dn ao cap R bo bc hv hC hr hx h0 h1 => ?_⟩
    · have hXe := hX ao cap hr hv.mr
      have hvk := ZB hr hv.mr k
      exact (Qd U w vp lp p sg mb n L pw dn h dw _ M hv k hk ao cap l z hz (by omega) (by omega) hx rs err L2 pw2 h2 dw2 rs2 (by rw [hXe]; exact HO) (by rw [hXe]; exact SA) h0 h1).mono fun e w' hp => hp.no he1
    · refine (QQ C w vq mp rp B ro rc n L pw dn h dw _ ao cap R hv (few hr) hC (by rw [hr]; exact hsk) k hk bo bc l z hz (by omega) (vN Lx k) (Qp hr hv.n0 k) (by omega) hx rs err L2 pw2 h2 dw2 rs2 HO SB h0 h1).mono fun e w' hp => ?_
      rcases hp with ⟨_, hp⟩ | ⟨h0, _⟩
      · exact hp
      · exact absurd h0 he1
theorem jdt (n : Nat) (L : List Nat) (pw : Int) (h : Hd) (dw : Bool) (rs : List (List Nat)) (Lx : List It) (c m : Nat) (H : PU n L pw h rs Lx c 0 m) (hm : m < 9000) (hn : n ≤ 4096) (x : IM) (hx : x.ok) (hb : ∀ y ∈ x.val, y < 256) :
    ∃ (b : Bool) (err : Int) (L2 : List Nat) (pw2 : Int) (h2 : Hd) (dw2 : Bool) (rs2 : List (List Nat)) (Ly : List It), PU n L2 pw2 h2 rs2 Ly c 0 (m + 1) ∧ CallA n L pw h dw Lx c 14 x.val (fun ao cap => [iA (x.re ao cap)]) (fun _ => .tuple #[.bool b, .int .i64 err]) zM.sg L2 pw2 h2 dw2 Ly ∧ CallB n L pw h dw Lx c 15 x.val (fun ao cap => [iA (x.re ao cap)]) (fun _ => .tuple #[.bool b, .int .i64 err]) zM.sg L2 pw2 h2 dw2 Ly := by
  obtain ⟨hn3, hh, hsk, hok⟩ := H.op rfl
  have HG := H.good hn3
  have hfew := HG.few hn hh
  have hgm := H.g
  have few : ∀ {R : List IM}, R.map IM.it = Lx → R.length ≤ 4096 := fun hr => by
    have := congrArg List.length hr
    rw [List.length_map] at this
    omega
  by_cases hna : x.n < 1 ∨ 4611686018427387903 < x.n
  · exact ⟨false, 1, L, pw, h, dw, rs, Lx, H.up, yF (fun U w vp lp p sg mb dn M ao cap hv _ => jaj U w vp lp p sg mb n L pw dn h dw _ M hv (x.re ao cap) hna), yE (fun C w vq mp rp B ro rc dn ao cap R bo bc hv hr _ => UX C w vq mp rp B ro rc n L pw dn h dw _ ao cap R hv (few hr) (x.re bo bc) (hx.re _ _) hna)⟩
  have h1n : 1 ≤ x.n := by omega
  have h2n : x.n ≤ 4611686018427387903 := by omega
  by_cases hl : 64 < x.val.length
  · exact ⟨false, 4, L, pw, h, dw, rs, Lx, H.up, yF (fun U w vp lp p sg mb dn M ao cap hv _ => Qk U w vp lp p sg mb n L pw dn h dw _ M hv (x.re ao cap) h1n h2n hl), yE (fun C w vq mp rp B ro rc dn ao cap R bo bc hv hr _ => Uf C w vq mp rp B ro rc n L pw dn h dw _ ao cap R hv (few hr) (x.re bo bc) (hx.re _ _) h1n h2n hl)⟩
  have hl2 : x.val.length ≤ 64 := by omega
  have hF : ∀ {R : List IM} (bo : Option Addr) (bc : Nat), R.map IM.it = Lx → (∀ y ∈ R, 1 ≤ y.n) → nwL Lx x.it = ((fkI R x.key).map fun y => nwV (x.re bo bc).ver y.ver).getD true := fun bo bc hr hn0 => fkI_old (x := x.re bo bc) hr hn0 (by show 0 ≤ x.n; omega)
  cases hq : nwL Lx x.it with
  | false =>
    refine ⟨false, 0, L, pw, h, dw, rs, Lx, H.up, yF (fun U w vp lp p sg mb dn M ao cap hv hr => YD U w vp lp p sg mb n L pw dn h dw _ M hv (x.re ao cap) (hx.re _ _) h1n h2n hl2 ((Vi (x := x.re ao cap) hr hv.mr (by show 0 ≤ x.n; omega)).trans hq)), yE (fun C w vq mp rp B ro rc dn ao cap R bo bc hv hr _ => ?_)⟩
    have e := hF bo bc hr hv.n0
    rw [hq] at e
    cases hg : fkI R x.key with
    | none => rw [hg] at e; cases e
    | some y =>
      rw [hg] at e
      exact UW C w vq mp rp B ro rc n L pw dn h dw _ ao cap R hv (few hr) (x.re bo bc) (hx.re _ _) h1n h2n hl2 y hg (hv.row.all y (List.mem_of_find?_eq_some hg)) e.symm
  | true =>
    have hito : x.it.ok := it_ok hx h1n h2n hl2 hb
    have hnew : ∀ {C : Nat} {w : World} {vq mp rp B : Nat} {ro : Option Addr} {rc n : Nat} {L : List Nat} {pw dn : Int} {h : Hd} {dw : Bool} {inc : Int} {ao : Option Addr} {cap : Nat} {R : List IM} (bo : Option Addr) (bc : Nat), VD C w vq mp rp B ro rc n L pw dn h dw inc ao cap R → R.map IM.it = Lx → (fkI R (x.re bo bc).key = none ∨ ∃ y, fkI R (x.re bo bc).key = some y ∧ y.ok ∧ nwV (x.re bo bc).ver y.ver = true) := fun {_ _ _ _ _ _ _ _ _ _ _ _ _ _ _ _ _ R} bo bc hv hr => by
      have e := hF bo bc hr hv.n0
      rw [hq] at e
      show fkI R x.key = none ∨ ∃ y, fkI R x.key = some y ∧ _
      cases hg : fkI R x.key with
      | none => exact .inl rfl
      | some y =>
        rw [hg] at e
        exact .inr ⟨y, rfl, hv.row.all y (List.mem_of_find?_eq_some hg), e.symm⟩
    obtain ⟨err, L2, pw2, h2, dw2, rs2, HO, SA, SB⟩ := JX n L pw h dw rs (formV x.it) HG H.okp (by omega) hn
    by_cases he1 : err = 0
    · subst he1
      refine ⟨true, 0, L2, pw2, h2, dw2, rs2, tkV Lx x.it, H.item hito HO, fun U w vp lp p sg mb dn M ao cap hv hr hxb h0 h1 => ?_, fun C w vq mp rp B ro rc dn ao cap R bo bc hv hC hr hxb h0 h1 => ?_⟩
      · refine (ZW U w vp lp p sg mb n L pw dn h dw _ M hv (x.re ao cap) (hx.re _ _) h1n h2n hl2 ((Vi (x := x.re ao cap) hr hv.mr (by show 0 ≤ x.n; omega)).trans hq) hxb rs 0 L2 pw2 h2 dw2 rs2 HO SA h0 h1).mono fun e w' hp => ?_
        obtain ⟨dn', ao3, cap3, he, G, HV, d1, d2, hfr⟩ := hp.yes
        refine ⟨w'.heap.size, dn', _, zM, he, ⟨G, HV, MRel.put hr hv.vb.map.kn hsk (x := x.re ao cap) (Up hq) (QS _ ao3 cap3), fun y hy => ?_, d1, d2⟩, HV.bd, G.size, OB.nil _ _ _ _, JY, rfl⟩
        rcases vj hy with rfl | hy
        · exact .inr hfr
        · exact .inl hy
      · refine (Yx C w vq mp rp B ro rc n L pw dn h dw _ ao cap R hv (few hr) hC (by rw [hr]; exact hsk) (x.re bo bc) (hx.re _ _) h1n h2n hl2 (hnew bo bc hv hr) hxb rs 0 L2 pw2 h2 dw2 rs2 HO SB h0 h1).mono fun e w' hp => ?_
        rcases hp with ⟨h0, _⟩ | ⟨_, dn', ao3, cap3, R2, bo2, bc2, he, G, HV, hR2, hm2, HOb, d1, d2⟩
        · exact absurd rfl h0
        · exact ⟨dn', ao3, cap3, R2, zM, he, ⟨G, HV, by rw [hR2, hr]; rfl, fun y hy => (hm2 y hy).imp id (fun e => by rw [e]; exact fun ad ha => (HOb.ge ad ha).1), d1, d2⟩, NC.nil _ _, JY, rfl⟩
    · have hrs : rs2 = rs := by
        rcases HO.res with ⟨e, _⟩ | ⟨_, e⟩
        · exact absurd e he1
        · exact e
      refine ⟨false, err, L2, pw2, h2, dw2, rs, Lx, H.fail he1 HO, Yi fun U w vp lp p sg mb dn M ao cap hv hr hxb h0 h1 => ?_, Yh fun C w vq mp rp B ro rc dn ao cap R bo bc hv hC hr hxb h0 h1 => ?_⟩
      · exact (ZW U w vp lp p sg mb n L pw dn h dw _ M hv (x.re ao cap) (hx.re _ _) h1n h2n hl2 ((Vi (x := x.re ao cap) hr hv.mr (by show 0 ≤ x.n; omega)).trans hq) hxb rs err L2 pw2 h2 dw2 rs2 HO SA h0 h1).mono fun e w' hp => hp.no he1
      · refine (Yx C w vq mp rp B ro rc n L pw dn h dw _ ao cap R hv (few hr) hC (by rw [hr]; exact hsk) (x.re bo bc) (hx.re _ _) h1n h2n hl2 (hnew bo bc hv hr) hxb rs err L2 pw2 h2 dw2 rs2 HO SB h0 h1).mono fun e w' hp => ?_
        rcases hp with ⟨_, hp⟩ | ⟨h0, _⟩
        · exact hp
        · exact absurd h0 he1
theorem get_ab (n : Nat) (L : List Nat) (pw : Int) (h : Hd) (dw : Bool) (rs : List (List Nat)) (Lx : List It) (c m : Nat) (H : PU n L pw h rs Lx c 0 m) (_hm : m < 9000) (hn : n ≤ 4096) (k : Nat) (hk : k < top) :
    ∃ (b : Bool) (s : Sg), CallA n L pw h dw Lx c 16 [] (fun _ _ => [eA k]) (fun y => .tuple #[iA y, .bool b]) s L pw h dw Lx ∧ CallB n L pw h dw Lx c 17 [] (fun _ _ => [eA k]) (fun y => .tuple #[iA y, .bool b]) s L pw h dw Lx := by
  obtain ⟨hn3, hh, hsk, hok⟩ := H.op rfl
  have HG := H.good hn3
  have hfew := HG.few hn hh
  have hgm := H.g
  have few : ∀ {R : List IM}, R.map IM.it = Lx → R.length ≤ 4096 := fun hr => by
    have := congrArg List.length hr
    rw [List.length_map] at this
    omega
  refine ⟨(lkV Lx k).isSome, getS Lx k, fun U w vp lp p sg mb dn M _ _ hv hr _ _ _ => ?_, fun C w vq mp rp B ro rc dn ao cap R _ _ hv _ hr _ _ _ => ?_⟩
  · refine (Kl U w vp lp p sg mb n L pw dn h dw _ M hv k hk).mono fun e w' ⟨ao, cap, he, G, HO⟩ => ?_
    rw [getK_is hr] at he
    exact ⟨w.heap.size, dn, M, _, he, ⟨.of G, hv.gro G, hr, fun y hy => .inl hy, by omega, by omega⟩, hv.bd, Nat.le_refl _, HO, (getK_ok hv k).re _ _, getK_sg hr hv.mr k ao cap⟩
  · refine (yW w vq (some mp) ao cap R _ hv.box hv.row.re (few hr) k hk).mono fun e w' ⟨he, G⟩ => ?_
    rw [fkI_is hr] at he
    exact ⟨dn, ao, cap, R, _, he, ⟨.of G, hv.gro G, hr, fun y hy => .inl hy, by omega, by omega⟩, (fkI_nc hv k).1.gro G, (fkI_nc hv k).2, fkI_sg hr hv.n0 k⟩
def OpnA (U0 : List Nat) (w w' : World) (p sg n : Nat) (L : List Nat) (pw dn : Int) (h : Hd) (c : Nat) (Lx : List It) (er : Int) (va : Value) : Prop :=
  (er ≠ 0 ∧ va = .pointer none ∧ DK w' p sg n L pw dn) ∨ (er = 0 ∧ ∃ vp lp mb M, va = .pointer (some ⟨vp, 0, none⟩) ∧ VK (vp :: lp :: mb :: U0) w' vp lp p sg mb n L pw dn h false (c : Int) M ∧ MRel M Lx ∧ w.heap.size ≤ vp ∧ w.heap.size ≤ lp ∧ w.heap.size ≤ mb)
def OpnB (w w' : World) (rp B : Nat) (ro : Option Addr) (rc n : Nat) (L : List Nat) (pw dn : Int) (h : Hd) (c : Nat) (Lx : List It) (er : Int) (vb : Value) : Prop :=
  (er ≠ 0 ∧ vb = .pointer none ∧ QK w' rp B ro rc n L pw dn) ∨ (er = 0 ∧ ∃ vq mp ao cap R, vb = .pointer (some ⟨vq, 0, none⟩) ∧ VD w.heap.size w' vq mp rp B ro rc n L pw dn h false (c : Int) ao cap R ∧ R.map IM.it = Lx ∧ w.heap.size ≤ vq ∧ w.heap.size ≤ mp)
theorem Jx (n : Nat) (hn : n ≤ 4096) (L : List Nat) (pw : Int) (h : Hd) (rs : List (List Nat)) (Lx : List It) (c : Nat) (er : Int) (m : Nat) (H : PU n L pw h rs Lx c er m) (hm : m < 9000) (hL : ∀ x ∈ L, x < 256) :
    ∃ (er2 : Int) (L2 : List Nat) (pw2 : Int) (h2 : Hd) (rs2 : List (List Nat)) (Ly : List It) (c2 : Nat), PU n L2 pw2 h2 rs2 Ly c2 er2 (m + 1) ∧
      (∀ (U0 : List Nat) (w : World) (p sg : Nat) (dn : Int), DK w p sg n L pw dn → (∀ k ∈ U0, k < w.heap.size) → p ∈ U0 → sg ∈ U0 → 0 ≤ dn → dn < 9223372036854760000 → Calls Tryz.prog 6 #[.pointer (some ⟨p, 0, none⟩)] w fun e w' => ∃ va dn', e = .returned (.tuple #[va, .int .i64 er2]) ∧ GroS [p, sg] w w' ∧ OpnA U0 w w' p sg n L2 pw2 dn' h2 c2 Ly er2 va ∧ dn ≤ dn' ∧ dn' ≤ dn + 20) ∧
      (∀ (w : World) (rp B : Nat) (ro : Option Addr) (rc : Nat) (dn : Int), QK w rp B ro rc n L pw dn → 0 ≤ dn → dn < 9223372036854760000 → Calls Tryz.prog 7 #[.pointer (some ⟨rp, 0, none⟩)] w fun e w' => ∃ vb dn', e = .returned (.tuple #[vb, .int .i64 er2]) ∧ GroS (rp :: blk ro) w w' ∧ OpnB w w' rp B ro rc n L2 pw2 dn' h2 c2 Ly er2 vb ∧ dn ≤ dn' ∧ dn' ≤ dn + 20) := by
  have hgm := H.g
  by_cases h3 : n < 3
  · exact ⟨1, L, pw, h, rs, [], 0, ⟨H.okp, H.good, by omega, fun e => absurd e (by decide)⟩, fun U0 w p sg dn HD _ _ _ _ _ => (VG w p sg n L pw dn HD (by omega)).mono fun e w' ⟨he, G⟩ => ⟨_, dn, he, .of G, .inl ⟨by decide, rfl, HD.gro G⟩, by omega, by omega⟩, fun w rp B ro rc dn HQ _ _ => (YV w rp B ro rc n L pw dn HQ h3).mono fun e w' ⟨he, G⟩ => ⟨_, dn, he, .of G, .inl ⟨by decide, rfl, HQ.gro G⟩, by omega, by omega⟩⟩
  have hn3 : 3 ≤ n := by omega
  have HG := H.good hn3
  have hg : h.g < 10000 := by omega
  cases hN : hld rs with
  | none => exact ⟨2, L, pw, h, rs, [], 0, ⟨H.okp, H.good, by omega, fun e => absurd e (by decide)⟩, fun U0 w p sg dn HD _ _ _ _ _ => (UK [p, sg] w p sg n L pw dn HD hn3 h rs HG hg HD.lt2 hN).mono fun e w' ⟨he, G, HD2⟩ => ⟨_, dn, he, G, .inl ⟨by decide, rfl, HD2⟩, by omega, by omega⟩, fun w rp B ro rc dn HQ _ _ => (UP w rp B ro rc n L pw dn HQ hn3 h rs HG hg hN).mono fun e w' ⟨he, G⟩ => ⟨_, dn, he, .of G, .inl ⟨by decide, rfl, HQ.gro G⟩, by omega, by omega⟩⟩
  | some s =>
    obtain ⟨Ly, c0⟩ := s
    have hko := hld_ok uq (s := ([], 0)) (HG.bytes hL) (fun _ h => by (cases h)) (Nat.zero_le _) hN
    have hcl := hko.2.1
    rcases Nat.lt_or_ge c0 1048576 with hc | hc
    · obtain ⟨err, L2, pw2, h2, dw2, rs2, HO, SA, SB⟩ := JX n L pw h false rs (begV (c0 + 1)) HG H.okp hg hn
      have hg2 := HO.g
      have hop : err = 0 → 3 ≤ n ∧ hld rs2 = some (Ly, c0 + 1) ∧ SKv Ly ∧ ∀ x ∈ Ly, x.ok := fun e0 => by
        rcases HO.res with ⟨_, e⟩ | ⟨h0, _⟩
        · rw [e]
          exact ⟨hn3, Kj hN (by omega) (by omega), jeb (s := ([], 0)) SKv.nil hN, hko.1⟩
        · exact absurd e0 h0
      refine ⟨err, L2, pw2, h2, rs2, Ly, c0 + 1, ⟨HO.okp, fun _ => HO.good, by omega, hop⟩, fun U0 w p sg dn HD hU hp hs h0 h1 => (ZE U0 w p sg n L pw dn HD hn3 h _ HG hg hU hp hs Ly c0 hN hc err L2 pw2 h2 dw2 _ HO SA h0 h1).mono fun e w' hx => ?_, fun w rp B ro rc dn HQ h0 h1 => (KH w rp B ro rc n L pw dn HQ hn3 h _ HG hg Ly c0 hN hc err L2 pw2 h2 dw2 _ HO SB h0 h1).mono fun e w' hx => ?_⟩
      · rcases hx with ⟨he1, dn', he, G, HD2, d1, d2⟩ | ⟨rfl, vp, lp, mb, M, dn', he, G, HV, hM, v1, v2, v3, d1, d2⟩
        · exact ⟨_, dn', he, G, .inl ⟨he1, rfl, HD2⟩, d1, d2⟩
        · exact ⟨_, dn', he, G, .inr ⟨rfl, vp, lp, mb, M, rfl, HV, hM, v1, v2, v3⟩, d1, d2⟩
      · rcases hx with ⟨he1, dn', he, G, HQ2, d1, d2⟩ | ⟨rfl, vq, mp, ao, cap, R, dn', he, G, HV, hR, v1, v2, d1, d2⟩
        · exact ⟨_, dn', he, G, .inl ⟨he1, rfl, HQ2⟩, d1, d2⟩
        · exact ⟨_, dn', he, G, .inr ⟨rfl, vq, mp, ao, cap, R, rfl, HV, hR, v1, v2⟩, d1, d2⟩
    · have hc2 : c0 = 1048576 := by simp only at hcl; omega
      exact ⟨5, L, pw, h, rs, [], 0, ⟨H.okp, H.good, by omega, fun e => absurd e (by decide)⟩, fun U0 w p sg dn HD _ _ _ _ _ => (VH [p, sg] w p sg n L pw dn HD hn3 h rs HG hg HD.lt2 Ly c0 hN hc2).mono fun e w' ⟨he, G, HD2⟩ => ⟨_, dn, he, G, .inl ⟨by decide, rfl, HD2⟩, by omega, by omega⟩, fun w rp B ro rc dn HQ _ _ => (VO w rp B ro rc n L pw dn HQ hn3 h rs HG hg Ly c0 hN hc2).mono fun e w' ⟨he, G⟩ => ⟨_, dn, he, .of G, .inl ⟨by decide, rfl, HQ.gro G⟩, by omega, by omega⟩⟩
end Go.Proofs.YtgfnjekpafempaaGreat
