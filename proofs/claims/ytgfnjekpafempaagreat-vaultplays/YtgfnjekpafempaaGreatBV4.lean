import Derived.Test.YtgfnjekpafempaaGreatBV3
import Derived.Test.YtgfnjekpafempaaGreatBE8
import Derived.Test.YtgfnjekpafempaaGreatBAb
namespace Go.Proofs.YtgfnjekpafempaaGreat
open Go.Proofs.Tryz
set_option maxHeartbeats 4000000
set_option maxRecDepth 100000
open Go.RowKit
def SideA (n : Nat) (L : List Nat) (pw : Int) (h : Hd) (dw : Bool) (l : List Nat) (err : Int) (L2 : List Nat) (pw2 : Int) (h2 : Hd) (dw2 : Bool) : Prop :=
  ∀ (w : World) (lp p sg : Nat) (dn : Int) (ao : Option Addr) (cap : Nat), LK w lp p h dw → DK w p sg n L pw dn → BS [p, sg] w ao cap l → lp ≠ p → lp ≠ sg → 0 ≤ dn → dn < 9223372036854760000 →
    Calls Tryz.prog 27 #[.pointer (some ⟨lp, 0, none⟩), .slice ao l.length cap] w fun e w' => ∃ dn', e = .returned (.int .i64 err) ∧ GroS [p, sg, lp] w w' ∧ dn ≤ dn' ∧ dn' ≤ dn + 20 ∧ DK w' p sg n L2 pw2 dn' ∧ LK w' lp p h2 dw2
structure Out (n : Nat) (L : List Nat) (pw : Int) (h : Hd) (dw : Bool) (rs : List (List Nat)) (l : List Nat) (err : Int) (L2 : List Nat) (pw2 : Int) (h2 : Hd) (dw2 : Bool) (rs2 : List (List Nat)) : Prop where
  okp : okP pw2
  g : h2.g ≤ h.g + 1
  u : h2.u ≤ h.u + secN l.length
  good : Good L2 n h2 rs2
  res : (err = 0 ∧ rs2 = rs ++ [l]) ∨ (err ≠ 0 ∧ rs2 = rs)
  ok : err = 0 → dw2 = false
  go : pw = -1 → dw = false → l.length ≤ 1024 → h.u + secN l.length + 2 ≤ n → err = 0 ∧ pw2 = -1
theorem JI (n : Nat) (L : List Nat) (pw : Int) (h : Hd) (dw : Bool) (rs : List (List Nat)) (l : List Nat) (HG : Good L n h rs) (hP : okP pw) (hg : h.g < 10000) (hn : n ≤ 4096) :
    ∃ (err : Int) (L2 : List Nat) (pw2 : Int) (h2 : Hd) (dw2 : Bool) (rs2 : List (List Nat)), Out n L pw h dw rs l err L2 pw2 h2 dw2 rs2 ∧ SideA n L pw h dw l err L2 pw2 h2 dw2 := by
  have hlim : lim = 18446744073709551616 := rfl
  have hf := HG.fit
  have hc := HG.cnt
  have still : ∀ err : Int, (∀ (w : World) (lp p sg : Nat) (dn : Int) (ao : Option Addr) (cap : Nat), LK w lp p h dw → DK w p sg n L pw dn → Calls Tryz.prog 27 #[.pointer (some ⟨lp, 0, none⟩), .slice ao l.length cap] w fun e w' => e = .returned (.int .i64 err) ∧ Gro w w') →
      SideA n L pw h dw l err L pw h dw := fun err a w lp p sg dn ao cap h1 h2 _ _ _ _ _ => (a w lp p sg dn ao cap h1 h2).mono fun e w' ⟨he, G⟩ => ⟨dn, he, .of G, Int.le_refl _, by omega, h2.gro G, h1.gro G⟩
  cases dw with
  | true => exact ⟨8, L, pw, h, true, rs, ⟨hP, by omega, by omega, HG, .inr ⟨by decide, rfl⟩, fun e => absurd e (by decide), fun _ e => absurd e (by decide)⟩, still 8 (fun w lp p _ _ ao cap h1 _ => Zi w lp p h h1 ao cap l)⟩
  | false =>
    by_cases hl : 1024 < l.length
    · exact ⟨4, L, pw, h, false, rs, ⟨hP, by omega, by omega, HG, .inr ⟨by decide, rfl⟩, fun _ => rfl, fun _ _ e => absurd e (by omega)⟩, still 4 (fun w lp p _ _ ao cap h1 _ => Zg w lp p h h1 ao cap l hl)⟩
    by_cases hk : n - 2 - h.u < secN l.length
    · exact ⟨5, L, pw, h, false, rs, ⟨hP, by omega, by omega, HG, .inr ⟨by decide, rfl⟩, fun _ => rfl, fun _ _ _ e => absurd e (by omega)⟩, still 5 (fun w lp p sg dn ao cap h1 h2 => Zh w lp p h h1 sg n L pw dn h2 hf ao cap l (by omega) hk)⟩
    have HA := HG.app pw hn (l := l) (by omega) (by omega) (by omega)
    cases hA : apOK pw (secN l.length) with
    | true =>
      unfold apL apH apR at HA
      rw [hA] at HA
      exact ⟨0, okL L h l, apP pw (secN l.length), h.next (secN l.length), false, rs ++ [l], ⟨Vy hP _, Nat.le_refl _, Nat.le_refl _, HA, .inl ⟨rfl, rfl⟩, fun _ => rfl, fun e _ _ _ => ⟨rfl, by unfold apP; rw [if_pos e]⟩⟩,
        fun w lp p sg dn ao cap h1 h2 h3 h4 h5 h6 h7 => YH w lp p h h1 sg n L pw dn h2 hf ao cap l h3 (by omega) (by omega) hP (by omega) (by omega) h4 h5 h6 h7 hA⟩
    | false =>
      unfold apH apR at HA
      rw [hA] at HA
      exact ⟨8, apL L pw h l, apP pw (secN l.length), h, true, rs, ⟨Vy hP _, by omega, by omega, HA, .inr ⟨by decide, rfl⟩, fun e => absurd e (by decide), fun e _ _ _ => by
          unfold apOK at hA
          rw [decide_eq_false_iff_not] at hA
          exact absurd (.inl e) hA⟩,
        fun w lp p sg dn ao cap h1 h2 h3 h4 h5 h6 h7 => YI w lp p h h1 sg n L pw dn h2 hf ao cap l h3 (by omega) (by omega) hP (by omega) (by omega) h4 h5 h6 h7 hA⟩
section
variable {U S : List Nat} {w w' : World} {so : Option Addr} {sc g : Nat} {l : List Nat}
theorem BS.neG (h : BS S w so sc l) (c : w.heap.size ≤ g) : NE so l.length g := h.nc.neG c
theorem BS.sub (h : BS U w so sc l) (hs : ∀ k ∈ S, k ∈ U) : BS S w so sc l := ⟨h.nc, fun ad ha h0 hm => h.ne ad ha h0 (hs _ hm)⟩
end
structure VK (U : List Nat) (w : World) (vp lp p sg mb n : Nat) (L : List Nat) (pw dn : Int) (h : Hd) (dw : Bool) (inc : Int) (M : List (Nat × IM)) : Prop where
  vb : VB w vp lp inc mb M
  log : LK w lp p h dw
  dsk : DK w p sg n L pw dn
  mr : MR U w M
  sub : ∀ k ∈ [vp, lp, p, sg, mb], k ∈ U
  lt : ∀ k ∈ U, k < w.heap.size
section
variable {U : List Nat} {w w' : World} {vp lp p sg mb n : Nat} {L : List Nat} {pw dn : Int} {h : Hd} {dw : Bool} {inc : Int} {M : List (Nat × IM)}
theorem VK.gro (H : VK U w vp lp p sg mb n L pw dn h dw inc M) (G : Gro w w') : VK U w' vp lp p sg mb n L pw dn h dw inc M := ⟨H.vb.gro G, H.log.gro G, H.dsk.gro G, H.mr.gro G, H.sub, fun k hk => Nat.lt_of_lt_of_le (H.lt k hk) G.size⟩
theorem VK.n1 (H : VK U w vp lp p sg mb n L pw dn h dw inc M) : vp ≠ lp := jB H.vb.box H.log.box (by decide)
theorem VK.n2 (H : VK U w vp lp p sg mb n L pw dn h dw inc M) : vp ≠ p := jB H.vb.box H.dsk.box (by decide)
theorem VK.n3 (H : VK U w vp lp p sg mb n L pw dn h dw inc M) : vp ≠ sg := jB H.vb.box H.dsk.sec (by decide)
theorem VK.n4 (H : VK U w vp lp p sg mb n L pw dn h dw inc M) : vp ≠ mb := H.vb.map.nec H.vb.box
theorem VK.n5 (H : VK U w vp lp p sg mb n L pw dn h dw inc M) : lp ≠ p := jB H.log.box H.dsk.box (by decide)
theorem VK.n6 (H : VK U w vp lp p sg mb n L pw dn h dw inc M) : lp ≠ sg := jB H.log.box H.dsk.sec (by decide)
theorem VK.n7 (H : VK U w vp lp p sg mb n L pw dn h dw inc M) : lp ≠ mb := H.vb.map.nec H.log.box
theorem VK.n8 (H : VK U w vp lp p sg mb n L pw dn h dw inc M) : p ≠ mb := H.vb.map.nec H.dsk.box
theorem VK.n9 (H : VK U w vp lp p sg mb n L pw dn h dw inc M) : sg ≠ mb := H.vb.map.nec H.dsk.sec
theorem VK.s3 (H : VK U w vp lp p sg mb n L pw dn h dw inc M) : ∀ k ∈ [p, sg, lp], k ∈ U := fun k hk => H.sub k (by simp only [List.mem_cons, List.not_mem_nil, or_false] at hk ⊢; omega)
theorem VK.app (H : VK U w vp lp p sg mb n L pw dn h dw inc M) (G : GroS [p, sg, lp] w w') {L2 : List Nat} {pw2 dn2 : Int} {h2 : Hd} {dw2 : Bool} (HD : DK w' p sg n L2 pw2 dn2) (HL : LK w' lp p h2 dw2) : VK U w' vp lp p sg mb n L2 pw2 dn2 h2 dw2 inc M := by
  have n1 := H.n1
  have n2 := H.n2
  have n3 := H.n3
  have n7 := H.n7
  have n8 := H.n8
  have n9 := H.n9
  refine ⟨⟨G.has H.vb.box ?_, H.vb.map.gros G ?_, H.vb.ok⟩, HL, HD, H.mr.gros G H.s3, H.sub, fun k hk => Nat.lt_of_lt_of_le (H.lt k hk) G.size⟩
  · simp only [List.mem_cons, List.not_mem_nil, or_false]; omega
  · simp only [List.mem_cons, List.not_mem_nil, or_false]; omega
theorem VK.put (H : VK U w vp lp p sg mb n L pw dn h dw inc M) (G : GroS [mb] w w') {e : IM} (HM : TM w' mb (putM M e.key e)) (h1 : BT U w e.ao e.cap e.val) (h2 : 1 ≤ e.n ∧ e.n ≤ 4611686018427387903) (h3 : e.val.length ≤ 64) (h4 : e.ok) : VK U w' vp lp p sg mb n L pw dn h dw inc (putM M e.key e) := by
  have n4 := H.n4
  have n7 := H.n7
  have n8 := H.n8
  have n9 := H.n9
  have hsub : ∀ k ∈ [mb], k ∈ U := fun k hk => by rw [List.mem_singleton.1 hk]; exact H.sub mb (by simp)
  refine ⟨⟨G.has H.vb.box (by simpa using n4), HM, fun y hy => ?_⟩, H.log.gros G (by simpa using n7), H.dsk.gros G (by simpa using n8) (by simpa using n9), MR.put (H.mr.gros G hsub) (h1.gros (G.mono hsub)) h2 h3, H.sub, fun k hk => Nat.lt_of_lt_of_le (H.lt k hk) G.size⟩
  rcases vj hy with rfl | hy
  · exact h4
  · exact H.vb.ok y hy
end
def Frs (w : World) (ao : Option Addr) : Prop := ∀ ad, ao = some ad → w.heap.size ≤ ad.block
def Bd (C : Nat) (U : List Nat) (M : List (Nat × IM)) : Prop := (∀ k ∈ U, k < C) ∧ ∀ x ∈ M, ∀ ad, x.2.ao = some ad → 0 < x.2.val.length → ad.block < C
section
variable {U : List Nat} {w w' : World} {vp lp p sg mb n g : Nat} {L : List Nat} {pw dn : Int} {h : Hd} {dw : Bool} {inc : Int} {M : List (Nat × IM)}
theorem BS.cons {so : Option Addr} {sc : Nat} {l : List Nat} (h : BS U w so sc l) (G : Gro w w') (hg : w.heap.size ≤ g) : BS (g :: U) w' so sc l := ⟨h.nc.gro G, fun ad ha h0 hm => by
  rcases List.mem_cons.1 hm with e | hm
  · have := h.nc.lt ad ha h0
    omega
  · exact h.ne ad ha h0 hm⟩
theorem BT.cons {so : Option Addr} {sc : Nat} {l : List Nat} (h : BT U w so sc l) (G : Gro w w') (hg : w.heap.size ≤ g) : BT (g :: U) w' so sc l := ⟨h.bs.cons G hg, (h.gro G).ty⟩
theorem VK.cons (H : VK U w vp lp p sg mb n L pw dn h dw inc M) (G : Gro w w') (hg : w.heap.size ≤ g) (hg2 : g < w'.heap.size) : VK (g :: U) w' vp lp p sg mb n L pw dn h dw inc M :=
  ⟨H.vb.gro G, H.log.gro G, H.dsk.gro G, ⟨fun x hx => (H.mr.row x hx).cons G hg, H.mr.key, H.mr.n1, H.mr.len⟩, fun k hk => List.mem_cons_of_mem _ (H.sub k hk), fun k hk => by
    rcases List.mem_cons.1 hk with e | hk
    · omega
    · exact Nat.lt_of_lt_of_le (H.lt k hk) G.size⟩
theorem VK.tail (H : VK (g :: U) w vp lp p sg mb n L pw dn h dw inc M) (hs : ∀ k ∈ [vp, lp, p, sg, mb], k ∈ U) : VK U w vp lp p sg mb n L pw dn h dw inc M :=
  ⟨H.vb, H.log, H.dsk, ⟨fun x hx => (H.mr.row x hx).sub (fun _ hk => List.mem_cons_of_mem _ hk), H.mr.key, H.mr.n1, H.mr.len⟩, hs, fun k hk => H.lt k (List.mem_cons_of_mem _ hk)⟩
theorem VK.st {x : Obj} (H : VK U w vp lp p sg mb n L pw dn h dw inc M) (St : Stored w w' g x) (hg : g ∈ U ∧ g ∉ [vp, lp, p, sg, mb]) : VK U w' vp lp p sg mb n L pw dn h dw inc M := by
  have hn := hg.2
  simp only [List.mem_cons, List.not_mem_nil, or_false, not_or] at hn
  exact ⟨⟨St.has (Ne.symm hn.1) H.vb.box, H.vb.map.st St (Ne.symm hn.2.2.2.2), H.vb.ok⟩, ⟨St.has (Ne.symm hn.2.1) H.log.box⟩, ⟨St.has (Ne.symm hn.2.2.1) H.dsk.box, St.has (Ne.symm hn.2.2.2.1) H.dsk.sec, H.dsk.len, H.dsk.le, H.dsk.byte, H.dsk.ne⟩, ⟨fun y hy => (H.mr.row y hy).st St (fun ad ha h0 e => (H.mr.row y hy).ne ad ha h0 (e ▸ hg.1)), H.mr.key, H.mr.n1, H.mr.len⟩, H.sub, fun k hk => by rw [St.size]; exact H.lt k hk⟩
theorem VK.bd (H : VK U w vp lp p sg mb n L pw dn h dw inc M) : Bd w.heap.size U M := ⟨H.lt, fun x hx ad ha h0 => (H.mr.row x hx).nc.lt ad ha h0⟩
theorem VK.below {C : Nat} (H : VK U w vp lp p sg mb n L pw dn h dw inc M) (hB : Bd C U M) (G : Below C w w') : VK U w' vp lp p sg mb n L pw dn h dw inc M := by
  have hk : ∀ {k : Nat} {x : Obj}, k ∈ [vp, lp, p, sg, mb] → w.heap[k]? = some x → w'.heap[k]? = some x := fun hm hx => JW G hx (hB.1 _ (H.sub _ hm))
  refine ⟨⟨hk (by simp) H.vb.box, ?_, H.vb.ok⟩, ⟨hk (by simp) H.log.box⟩, ⟨hk (by simp) H.dsk.box, hk (by simp) H.dsk.sec, H.dsk.len, H.dsk.le, H.dsk.byte, H.dsk.ne⟩, ⟨fun y hy => ⟨⟨(H.mr.row y hy).nc.below G (hB.2 y hy), (H.mr.row y hy).ne⟩, fun ad ha h0 => by
    obtain ⟨cur, hc⟩ := (H.mr.row y hy).ty ad ha h0
    exact ⟨cur, JW G hc (hB.2 y hy ad ha h0)⟩⟩, H.mr.key, H.mr.n1, H.mr.len⟩, H.sub, fun k hm => Nat.lt_of_lt_of_le (H.lt k hm) G.size⟩
  obtain ⟨Y, c, q⟩ := H.vb.map
  exact ⟨Y, c, hk (by simp) q.at_, q.perm, q.lt, q.nd, q.all, q.kn⟩
end
def bytE (B : Nat) (l : List Nat) : PostE := PostE.ex (fun v x => ∃ ao cap, v = .slice ao l.length cap ∧ OB x 5 .u8 B ao cap l) (fun _ _ _ G ⟨a, c, h1, h2⟩ => ⟨a, c, h1, h2.gro G⟩)
theorem yi (B : Nat) (l : List Nat) (v : Value) : (bytE B l).fill v = v := rfl
def itE (B : Nat) (y : IM) : PostE := PostE.ex (fun v x => ∃ ao cap, v = .agg (itA (y.re ao cap)) ∧ OB x 5 .u8 B ao cap y.val) (fun _ _ _ G ⟨a, c, h1, h2⟩ => ⟨a, c, h1, h2.gro G⟩)
theorem UE (B : Nat) (y : IM) (v : Value) : (itE B y).fill v = v := rfl
theorem it_ok {x : IM} (hx : x.ok) (h1 : 1 ≤ x.n) (h2 : x.n ≤ 4611686018427387903) (h3 : x.val.length ≤ 64) (h4 : ∀ b ∈ x.val, b < 256) : x.it.ok := ⟨hx.key, by simp only [IM.it]; omega, by simp only [IM.it]; omega, hx.who, h3, h4⟩
def KeepP (U : List Nat) (w : World) (vp lp p sg mb n : Nat) (dn : Int) (inc : Int) (M : List (Nat × IM)) (x : IM) (err : Int) (L2 : List Nat) (pw2 : Int) (h2 : Hd) (dw2 : Bool) (e : Ending) (w' : World) : Prop :=
  ∃ dn' M', e = .returned (.int .i64 err) ∧ GroS [vp, lp, p, sg, mb] w w' ∧ VK U w' vp lp p sg mb n L2 pw2 dn' h2 dw2 inc M' ∧ dn ≤ dn' ∧ dn' ≤ dn + 20 ∧ ((err = 0 ∧ ∃ ao cap, M' = putM M x.key (x.re ao cap) ∧ Frs w ao) ∨ (err ≠ 0 ∧ M' = M))
theorem JC (U : List Nat) (w : World) (vp lp p sg mb n : Nat) (L : List Nat) (pw dn : Int) (h : Hd) (dw : Bool) (inc : Int) (M : List (Nat × IM)) (H : VK U w vp lp p sg mb n L pw dn h dw inc M) (x : IM) (hx : x.ok) (hn1 : 1 ≤ x.n) (hn2 : x.n ≤ 4611686018427387903) (hl : x.val.length ≤ 64) (HX : BS U w x.ao x.cap x.val) (rs : List (List Nat)) (err : Int) (L2 : List Nat) (pw2 : Int) (h2 : Hd) (dw2 : Bool) (rs2 : List (List Nat)) (HO : Out n L pw h dw rs (formV x.it) err L2 pw2 h2 dw2 rs2) (SA : SideA n L pw h dw (formV x.it) err L2 pw2 h2 dw2) (hd1 : 0 ≤ dn) (hd2 : dn < 9223372036854760000) : Calls Tryz.prog 34 #[vP vp 0, .agg (itA x)] w (KeepP U w vp lp p sg mb n dn inc M x err L2 pw2 h2 dw2) := by
  rcases HO.res with ⟨rfl, hrs⟩ | ⟨he1, hrs⟩
  clear hrs
  refine eN func34 rfl ntmps34 [vP vp 0, iA x] ?_
  have GG := GroS.refl [vp, lp, p, sg, mb] w
  have GA := Gro.refl w
  have kvp := H.vb.box
  refine qS ?_
  refine jW 3 rfl rfl 42 _ rfl _ rfl (itA x) rfl ?_
  intro w1 g1 G eg1 kg1
  have bg1 := jN GG eg1
  replace kvp := G.has kvp
  replace GA := GA.gro G
  replace HX := HX.gro G
  replace GG := GG.tg G
  clear G
  clear eg1
  refine nq ?_
  refine mv (iK 0) rfl (nq ?_)
  refine qL (qE ?_)
  have bz1 := GG.size
  refine jQ (A := ?Ax4) 6 [(0, 6), (1, 7), (2, 8), (3, 9), (4, 10), (5, 11)] [.val (vP vp 0), .val (vP vp 0), .val (vP vp 0), .val (vP lp 0), .val (iA x), bytE w1.heap.size (formV x.it)] follows (by kernel_rfl) rfl ?hAx4 (ja ?_ (ja ?_ (ja ?_ (ja ?_ (ja ?_ (ja ?_ jD)))))) ?_
  case hAx4 =>
    intro ptrs
    simp only [full, foldSlots, filledE, postE, List.foldl_cons, List.foldl_nil, List.getD_cons_zero, List.getD_cons_succ, zu, yi, List.set_cons_zero, List.set_cons_succ]
    exact rfl
  exact fun _ _ _ _ => jf _ rfl rfl rfl
  exact fun _ _ _ _ => jb rfl (jl _ rfl _ rfl)
  exact fun _ _ _ _ => jb rfl (je 78 _ 0 rfl vp 0 rfl 0 (by kernel_rfl))
  exact fun _ _ hw _ => jb rfl (ldVtl _ rfl vp rfl (hw.has kvp))
  exact fun _ _ hw _ => jb rfl (ldIt0 _ rfl g1 rfl (hw.has kg1))
  intro ptrs w' hw hE
  exact zi (bytE w1.heap.size (formV x.it)) rfl _ 59 call59 rfl rfl _ rfl [iA x] rfl ((UB x hx (by omega) (by omega) _ (HX.gro ((Gro.refl _).drew.trans hw)).nc).mono fun e w' ⟨ao, cap, he, hg, ho⟩ => ⟨_, he, hg, ao, cap, rfl, ho.mono hw.size⟩)
  intro ptrs w2 GD hxE
  simp only [List.drop_succ_cons, List.drop_zero]
  replace kvp := GD.has kvp
  replace kg1 := GD.has kg1
  replace GA := GA.gro ((Gro.refl _).drew.trans GD)
  replace HX := HX.gro ((Gro.refl _).drew.trans GD)
  replace GG := GG.drew.tg GD
  obtain ⟨⟨ao1, cap1, hx1, HO1⟩, _⟩ := hxE
  simp only [hx1]
  clear hx1
  clear GD
  refine jq 12 rfl rfl _ 27 call27 rfl rfl _ rfl [vP lp 0, .slice ao1 (formV x.it).length cap1] rfl (SA _ lp p sg dn _ _ (H.log.gro GA) (H.dsk.gro GA) (HO1.bs (fun k hk => Nat.lt_of_lt_of_le (H.lt k (H.s3 k (by simp only [List.mem_cons, List.not_mem_nil, or_false] at hk ⊢; omega))) bz1)) H.n5 H.n6 hd1 hd2) (by rintro _ _ ⟨_, he, _, _, _, _, _⟩; exact ⟨_, he⟩) ?_
  rintro v w3 ⟨dn2, he, G, hd3, hd4, HD, HK⟩
  cases he
  have HV2 := (H.gro GA).app G HD HK
  have hUl := H.lt
  replace kg1 := G.has kg1 (by have h1 := H.lt p (H.sub p (by simp)); have h2 := H.lt sg (H.sub sg (by simp)); have h3 := H.lt lp (H.sub lp (by simp)); simp only [List.mem_cons, List.not_mem_nil, or_false]; omega)
  replace HX := HX.gros (G.mono H.s3)
  replace GG := GG.trans (G.mono (fun k hk => by simp only [List.mem_cons, List.not_mem_nil, or_false] at hk ⊢; omega))
  have G2A := Gro.refl w3
  have kvp2 := HV2.vb.box
  clear kvp GA
  have kvp := kvp2
  clear kvp2
  refine nq ?_
  refine mv (iK 0) rfl (nq ?_)
  refine qL (qE (qE (qG (mv (iK 0) rfl (sv (vT) (jw 31 .i64 _ _ _ rfl underlying31 0 0 rfl rfl true (decide_eq_true rfl) _) rfl (nq ?_))))))
  refine qL (qT rfl ?_)
  have bz2 := G2A.size
  have bz3 := GG.size
  refine jQ (A := ?Ax5) 8 [(0, 15), (1, 16), (2, 17), (3, 18), (4, 19), (5, 20), (6, 21), (7, 22)] [.val (vP vp 0), .val (vP vp 0), .val (vP vp 2), .val (.map (some mb)), .val (vP g1 0), .val (eA x.key), .val (iA x), itE w3.heap.size x] follows (by kernel_rfl) rfl ?hAx5 (ja ?_ (ja ?_ (ja ?_ (ja ?_ (ja ?_ (ja ?_ (ja ?_ (ja ?_ jD)))))))) ?_
  case hAx5 =>
    intro ptrs
    simp only [full, foldSlots, filledE, postE, List.foldl_cons, List.foldl_nil, List.getD_cons_zero, List.getD_cons_succ, zu, UE, List.set_cons_zero, List.set_cons_succ]
    exact rfl
  exact fun _ _ _ _ => jf _ rfl rfl rfl
  exact fun _ _ _ _ => jb rfl (jl _ rfl _ rfl)
  exact fun _ _ _ _ => jb rfl (je 78 _ 2 rfl vp 0 rfl 2 (by kernel_rfl))
  exact fun _ _ hw _ => jb rfl (ldVtm _ rfl vp rfl (hw.has kvp))
  exact fun _ _ _ _ => jb rfl (je 42 _ 0 rfl g1 0 rfl 0 (by kernel_rfl))
  exact fun _ _ hw _ => jb rfl (ldItk _ rfl g1 rfl (hw.has kg1))
  exact fun _ _ hw _ => jb rfl (ldIt0 _ rfl g1 rfl (hw.has kg1))
  intro ptrs w' hw hE
  exact zi (itE w3.heap.size x) rfl _ 35 call35 rfl rfl _ rfl [iA x] rfl ((vH x _ (HX.gro ((Gro.refl _).drew.trans hw)).nc (by omega)).mono fun e w' ⟨ao, cap, he, hg, ho⟩ => ⟨_, he, hg, ao, cap, rfl, ho.mono hw.size⟩)
  intro ptrs w4 GD hxE
  simp only [List.drop_succ_cons, List.drop_zero]
  replace kvp := GD.has kvp
  replace kg1 := GD.has kg1
  replace HX := HX.gro ((Gro.refl _).drew.trans GD)
  replace G2A := G2A.gro ((Gro.refl _).drew.trans GD)
  replace GG := GG.drew.tg GD
  obtain ⟨⟨ao3, cap3, hx3, HO3⟩, _⟩ := hxE
  simp only [hx3]
  clear hx3
  clear GD
  refine QL mT rfl rfl _ _ _ rfl (HV2.vb.map.gro G2A) rfl x.key rfl hx.key (x.re ao3 cap3) rfl ?_
  intro w5 HM G2
  have HV3 := (HV2.gro G2A).put G2 (e := x.re ao3 cap3) HM (HO3.bt (fun k hk => Nat.lt_of_lt_of_le (HV2.lt k hk) bz2)) ⟨hn1, hn2⟩ hl (hx.re _ _)
  replace GG := GG.trans (G2.mono (fun k hk => by simp only [List.mem_cons, List.not_mem_nil, or_false] at hk ⊢; omega))
  refine qL (qE (qG (mv (iK 0) rfl (mv (iK 0) rfl (nq ?_)))))
  refine qL (qR ?_)
  refine bodyPost_ret (results_tmp results34 _ _ _) rfl ?_
  exact ⟨dn2, _, rfl, GG, HV3, hd3, hd4, .inl ⟨rfl, _, _, rfl, fun ad ha => Nat.le_trans bz3 (HO3.ge ad ha).1⟩⟩
  clear hrs
  have h1 : decide (err = 0) = false := decide_eq_false he1
  refine eN func34 rfl ntmps34 [vP vp 0, iA x] ?_
  have GG := GroS.refl [vp, lp, p, sg, mb] w
  have GA := Gro.refl w
  have kvp := H.vb.box
  refine qS ?_
  refine jW 3 rfl rfl 42 _ rfl _ rfl (itA x) rfl ?_
  intro w1 g1 G eg1 kg1
  have bg1 := jN GG eg1
  replace kvp := G.has kvp
  replace GA := GA.gro G
  replace HX := HX.gro G
  replace GG := GG.tg G
  clear G
  clear eg1
  refine nq ?_
  refine mv (iK 0) rfl (nq ?_)
  refine qL (qE ?_)
  have bz1 := GG.size
  refine jQ (A := ?Ax6) 6 [(0, 6), (1, 7), (2, 8), (3, 9), (4, 10), (5, 11)] [.val (vP vp 0), .val (vP vp 0), .val (vP vp 0), .val (vP lp 0), .val (iA x), bytE w1.heap.size (formV x.it)] follows (by kernel_rfl) rfl ?hAx6 (ja ?_ (ja ?_ (ja ?_ (ja ?_ (ja ?_ (ja ?_ jD)))))) ?_
  case hAx6 =>
    intro ptrs
    simp only [full, foldSlots, filledE, postE, List.foldl_cons, List.foldl_nil, List.getD_cons_zero, List.getD_cons_succ, zu, yi, List.set_cons_zero, List.set_cons_succ]
    exact rfl
  exact fun _ _ _ _ => jf _ rfl rfl rfl
  exact fun _ _ _ _ => jb rfl (jl _ rfl _ rfl)
  exact fun _ _ _ _ => jb rfl (je 78 _ 0 rfl vp 0 rfl 0 (by kernel_rfl))
  exact fun _ _ hw _ => jb rfl (ldVtl _ rfl vp rfl (hw.has kvp))
  exact fun _ _ hw _ => jb rfl (ldIt0 _ rfl g1 rfl (hw.has kg1))
  intro ptrs w' hw hE
  exact zi (bytE w1.heap.size (formV x.it)) rfl _ 59 call59 rfl rfl _ rfl [iA x] rfl ((UB x hx (by omega) (by omega) _ (HX.gro ((Gro.refl _).drew.trans hw)).nc).mono fun e w' ⟨ao, cap, he, hg, ho⟩ => ⟨_, he, hg, ao, cap, rfl, ho.mono hw.size⟩)
  intro ptrs w2 GD hxE
  simp only [List.drop_succ_cons, List.drop_zero]
  replace kvp := GD.has kvp
  replace kg1 := GD.has kg1
  replace GA := GA.gro ((Gro.refl _).drew.trans GD)
  replace HX := HX.gro ((Gro.refl _).drew.trans GD)
  replace GG := GG.drew.tg GD
  obtain ⟨⟨ao1, cap1, hx1, HO1⟩, _⟩ := hxE
  simp only [hx1]
  clear hx1
  clear GD
  refine jq 12 rfl rfl _ 27 call27 rfl rfl _ rfl [vP lp 0, .slice ao1 (formV x.it).length cap1] rfl (SA _ lp p sg dn _ _ (H.log.gro GA) (H.dsk.gro GA) (HO1.bs (fun k hk => Nat.lt_of_lt_of_le (H.lt k (H.s3 k (by simp only [List.mem_cons, List.not_mem_nil, or_false] at hk ⊢; omega))) bz1)) H.n5 H.n6 hd1 hd2) (by rintro _ _ ⟨_, he, _, _, _, _, _⟩; exact ⟨_, he⟩) ?_
  rintro v w3 ⟨dn2, he, G, hd3, hd4, HD, HK⟩
  cases he
  have HV2 := (H.gro GA).app G HD HK
  have hUl := H.lt
  replace kg1 := G.has kg1 (by have h1 := H.lt p (H.sub p (by simp)); have h2 := H.lt sg (H.sub sg (by simp)); have h3 := H.lt lp (H.sub lp (by simp)); simp only [List.mem_cons, List.not_mem_nil, or_false]; omega)
  replace HX := HX.gros (G.mono H.s3)
  replace GG := GG.trans (G.mono (fun k hk => by simp only [List.mem_cons, List.not_mem_nil, or_false] at hk ⊢; omega))
  have G2A := Gro.refl w3
  have kvp2 := HV2.vb.box
  clear kvp GA
  have kvp := kvp2
  clear kvp2
  refine nq ?_
  refine mv (iK err) rfl (nq ?_)
  refine qL (qE (qE (qG (mv (iK err) rfl (sv (vF) (jw 31 .i64 _ _ _ rfl underlying31 err 0 rfl rfl false h1 _) rfl (nq ?_))))))
  refine qL (qF rfl (qK (qE (qG (mv (iK err) rfl (mv (iK err) rfl (nq ?_)))))))
  refine qL (qR ?_)
  refine bodyPost_ret (results_tmp results34 _ _ _) rfl ?_
  exact ⟨dn2, M, rfl, GG, HV2.gro G2A, hd3, hd4, .inr ⟨he1, rfl⟩⟩
theorem Vj (w : World) (vp lp mb : Nat) (inc : Int) (kvp : w.heap[vp]? = some (.cells (vtA lp inc mb) 78 (0, 0))) : Calls Tryz.prog 20 #[vP vp 0] w (fun e w' => e = .returned (iK inc) ∧ Gro w w') := by
  refine eN func20 rfl ntmps20 [vP vp 0] ?_
  have GG := Gro.refl w
  refine qE (qG (mv (iK 0) rfl (nq ?_)))
  refine qL (qE (qE (qG (mv (vP vp 0) rfl (sv (vF) (jT 30 _ _ _ rfl _ rfl rfl underlying30 _) rfl (nq ?_))))))
  refine qL (qF rfl (qK (qE (qG (mv (vP vp 0) rfl (sv (vP vp 0) (jl _ rfl _ rfl) rfl (sv (vP vp 1) (je 78 _ 1 rfl vp 0 rfl 1 (by kernel_rfl)) rfl (sv (iK inc) (ldVti _ rfl vp rfl (kvp)) rfl (mv (iK inc) rfl (nq ?_))))))))))
  refine qL (qR ?_)
  refine bodyPost_ret (results_tmp results20 _ _ _) rfl ?_
  exact ⟨rfl, GG⟩
theorem Yo (U : List Nat) (w : World) (vp lp p sg mb n : Nat) (L : List Nat) (pw dn : Int) (h : Hd) (dw : Bool) (inc : Int) (M : List (Nat × IM)) (H : VK U w vp lp p sg mb n L pw dn h dw inc M) : Calls Tryz.prog 21 #[vP vp 0] w (fun e w' => e = .returned (.bool dw) ∧ Gro w w') := by
  refine eN func21 rfl ntmps21 [vP vp 0] ?_
  have GG := Gro.refl w
  have GA := Gro.refl w
  have kvp := H.vb.box
  refine qE (qG (mv (vF) rfl (nq ?_)))
  refine qL (qE ?_)
  refine jg ?_
  intro OPS hY
  have y2 := hY 2 5 rfl
  clear hY
  refine mv (vP vp 0) rfl (sv (vT) (VS 30 _ _ _ rfl _ rfl rfl underlying30 _) rfl (mv (vT) rfl (jd 6 rfl rfl y2 rfl (vP vp 0) (rfl) (jd 7 rfl rfl y2 rfl (vP vp 0) (jl _ rfl _ rfl) (jd 8 rfl rfl y2 rfl (vP vp 0) (je 78 _ 0 rfl vp 0 rfl 0 (by kernel_rfl)) ?_)))))
  refine nq ?_
  refine jd 9 rfl rfl y2 rfl (vP lp 0) (ldVtl _ rfl vp rfl (kvp)) (nq ?_)
  refine zP 10 rfl rfl y2 rfl _ 43 call43 rfl rfl _ rfl [vP lp 0] rfl (down_any _ lp p h dw (H.log.gro GA)) ?_
  intro w1 G
  replace kvp := G.has kvp
  replace GA := GA.gro G
  replace GG := GG.trans G
  clear G
  refine nq ?_
  refine mv (.bool dw) rfl (mv (.bool dw) rfl (nq ?_))
  refine qL (qR ?_)
  refine bodyPost_ret (results_tmp results21 _ _ _) rfl ?_
  exact ⟨rfl, GG⟩
def getK (M : List (Nat × IM)) (k : Nat) : IM := (getM M k).getD zM
theorem Kl (U : List Nat) (w : World) (vp lp p sg mb n : Nat) (L : List Nat) (pw dn : Int) (h : Hd) (dw : Bool) (inc : Int) (M : List (Nat × IM)) (H : VK U w vp lp p sg mb n L pw dn h dw inc M) (k : Nat) (hk : k < top) : Calls Tryz.prog 16 #[vP vp 0, .agg (idA k)] w (fun e w' => ∃ ao cap, e = .returned (.tuple #[.agg (itA ((getK M k).re ao cap)), .bool (getM M k).isSome]) ∧ Gro w w' ∧ OB w' 5 .u8 w.heap.size ao cap (getK M k).val) := by
  cases hM : getM M k with
  | none =>
    refine eN func16 rfl ntmps16 [vP vp 0, eA k] ?_
    have GG := Gro.refl w
    have GA := Gro.refl w
    have kvp := H.vb.box
    refine qS ?_
    refine jW 3 rfl rfl 38 _ rfl _ rfl (idA k) rfl ?_
    intro w1 g1 G eg1 kg1
    have bg1 := jh GG eg1
    replace kvp := G.has kvp
    replace GA := GA.gro G
    replace GG := GG.trans G
    clear G
    clear eg1
    refine nq ?_
    refine jH 4 rfl rfl 42 rfl _ zeroIt (itA zM) rfl ?_
    intro w2 g2 G eg2 kg2
    have bg2 := jh GG eg2
    have dvpg2 := jn kvp eg2
    have dg1g2 := jn kg1 eg2
    have dGAg2 := GA.ne eg2
    replace kvp := G.has kvp
    replace kg1 := G.has kg1
    replace GA := GA.gro G
    replace GG := GG.trans G
    clear G
    clear eg2
    refine nq ?_
    refine mv (vF) rfl (nq ?_)
    refine qL (qE (qE (qG (mv (vP vp 0) rfl (sv (vF) (jT 30 _ _ _ rfl _ rfl rfl underlying30 _) rfl (nq ?_))))))
    refine qL (qF rfl (qK (qE ?_)))
    refine yy (A := ?Ax7) 11 [(0, 12), (1, 13), (2, 14), (3, 15), (4, 16), (5, 17), (6, 11), (7, 18), (8, 19), (9, 6)] [.val (vP vp 0), .val (vP vp 0), .val (vP vp 2), .val (.map (some mb)), .val (eA k), .val (.tuple #[iA zM, vF]), .val (.tuple #[iA zM, vF]), .val (iA zM), .val (vF), .new 42 (itA zM) (itA zM) 10, .put 9] follows (by kernel_rfl) (by kernel_rfl) rfl ?hAx7 (jz ?o0x7 (jz ?o1x7 (jz ?o2x7 (jz ?o3x7 (jz ?o4x7 (jz ?o5x7 (jz ?o6x7 (jz ?o7x7 (jz ?o8x7 (jz ?o9x7 (jz ?o10x7 uz))))))))))) ?restx7
    case hAx7 =>
      intro ptrs
      simp only [full, foldSlots, filled2, postAt2, List.foldl_cons, List.foldl_nil, List.getD_cons_zero, List.getD_cons_succ, PostS.fill, PostS.val, PostS.new, PostS.put, List.set_cons_zero, List.set_cons_succ]
      exact rfl
    case o0x7 => exact fun _ _ _ _ _ _ => OpOK2.of_val (jM rfl rfl)
    case o1x7 => exact fun _ _ _ _ _ _ => OpOK2.of_val (jM rfl (jl _ rfl _ rfl))
    case o2x7 => exact fun _ _ _ _ _ _ => OpOK2.of_val (jM rfl (je 78 _ 2 rfl vp 0 rfl 2 (by kernel_rfl)))
    case o3x7 => exact fun _ _ _ hw _ _ => OpOK2.of_val (jM rfl (ldVtm _ rfl vp rfl (hw.has kvp)))
    case o4x7 => exact fun _ _ _ hw _ _ => OpOK2.of_val (jM rfl (ldI0 _ rfl g1 rfl (hw.has kg1)))
    case o5x7 => exact fun _ _ _ hw _ _ => OpOK2.of_val (jM rfl (QP (H.vb.map.gro ((GA).gro ((Gro.refl _).drew.trans hw))) _ _ rfl rfl k rfl hk hM))
    case o6x7 => exact fun _ _ _ _ _ _ => OpOK2.of_val (jM rfl rfl)
    case o7x7 => exact fun _ _ _ _ _ _ => OpOK2.of_val (jM rfl (rfl))
    case o8x7 => exact fun _ _ _ _ _ _ => OpOK2.of_val (jM rfl (rfl))
    case o9x7 => exact fun _ _ _ _ _ _ => OpOK2.of_new (Jz rfl 42 rfl _ zeroIt)
    case o10x7 =>
      intro ptrs Lq wq hw hn hL
      obtain ⟨⟨gq, pq, kq, cq⟩, hz⟩ := hn
      have hL' : Lq 10 = false := hL
      have p' : ptrs 9 = vP gq 0 := pq
      have k' : wq.heap[gq]? = some (.cells (if Lq 10 = true then (itA zM) else (itA zM)) 42 (0, 0)) := kq
      rw [hL'] at k'
      refine uB rfl 42 _ _ rfl gq ?_ (itA zM) rfl (itA zM) k' (siIt' _) (ZZ _ _) (JE _) rfl p' _
      show ptrs 9 = _
      exact p'
    intro ptrs Lz w3 GD hLz hnz hapz
    obtain ⟨⟨g3, pzg3, kg3, czg3⟩, hzz⟩ := hnz
    simp only [List.drop_succ_cons, List.drop_zero, pzg3]
    replace kg3 : w3.heap[g3]? = some (.cells (itA zM) 42 (0, 0)) := by
      have hL' : Lz 10 = true := by rw [hLz]; rfl
      have kk : w3.heap[g3]? = some (.cells (if Lz 10 = true then (itA zM) else (itA zM)) 42 (0, 0)) := kg3
      rw [hL'] at kk
      exact kk
    clear hzz hapz hLz
    have dvpg3 : vp < g3 := Nat.lt_of_lt_of_le (ji kvp) czg3
    have dg1g3 : g1 < g3 := Nat.lt_of_lt_of_le (ji kg1) czg3
    have dg2g3 : g2 < g3 := Nat.lt_of_lt_of_le (ji kg2) czg3
    have dGAg3 := GA.neG czg3
    replace kvp := GD.has kvp
    replace kg1 := GD.has kg1
    replace kg2 := GD.has kg2
    replace GA := GA.gro ((Gro.refl _).drew.trans GD)
    have bg3 := Nat.le_trans GG.size czg3
    replace GG := GG.drew.trans GD
    clear GD pzg3 czg3
    refine mv (vF) rfl (nq ?_)
    refine qL (qE (qG (sv (iA zM) (ldIt0 _ rfl g3 rfl (kg3)) rfl (nq ?_))))
    refine jq 21 rfl rfl _ 35 call35 rfl rfl _ rfl [iA zM] rfl (vH zM _ (NC.nil _ _) (by decide)) (by rintro _ _ ⟨_, _, he, _, _⟩; exact ⟨_, he⟩) ?_
    have lzvp := ji kvp
    have lzg1 := ji kg1
    have lzg2 := ji kg2
    have lzg3 := ji kg3
    rintro v w4 ⟨ao1, cap1, he, G, HO1⟩
    cases he
    have dHO1vp := HO1.neB lzvp
    have dHO1g1 := HO1.neB lzg1
    have dHO1g2 := HO1.neB lzg2
    have dHO1g3 := HO1.neB lzg3
    replace HO1 := HO1.mono GG.size
    replace kvp := G.has kvp
    replace kg1 := G.has kg1
    replace kg2 := G.has kg2
    replace kg3 := G.has kg3
    replace GA := GA.gro G
    replace GG := GG.trans G
    clear G
    refine nq ?_
    refine mv (vF) rfl (nq ?_)
    refine stI (zM.re ao1 cap1) rfl rfl rfl kg2 rfl ?_
    intro w5 St
    replace kvp := St.has (by omega) kvp
    replace kg1 := St.has (by omega) kg1
    replace kg3 := St.has (by omega) kg3
    replace GA := GA.st St dGAg2
    replace HO1 := HO1.st St dHO1g2
    replace GG := GG.store St bg2
    replace kg2 := St.new
    clear St
    refine mv (vF) rfl (nq ?_)
    refine qL (qR ?_)
    refine bodyPost_ret (jJ results16 _ _ g2 42 _ (0, 0) _ rfl (vF) rfl kg2 underlying42 rfl (siIt' _)) rfl ?_
    unfold getK
    rw [hM]
    exact ⟨_, _, rfl, GG, HO1⟩
  | some y =>
    have HY := (H.mr.row _ (zh hM)).nc
    have hyl : y.val.length ≤ 64 := H.mr.len _ (zh hM)
    refine eN func16 rfl ntmps16 [vP vp 0, eA k] ?_
    have GG := Gro.refl w
    have GA := Gro.refl w
    have kvp := H.vb.box
    refine qS ?_
    refine jW 3 rfl rfl 38 _ rfl _ rfl (idA k) rfl ?_
    intro w1 g1 G eg1 kg1
    have bg1 := jh GG eg1
    replace kvp := G.has kvp
    replace GA := GA.gro G
    replace GG := GG.trans G
    clear G
    clear eg1
    refine nq ?_
    refine jH 4 rfl rfl 42 rfl _ zeroIt (itA zM) rfl ?_
    intro w2 g2 G eg2 kg2
    have bg2 := jh GG eg2
    have dvpg2 := jn kvp eg2
    have dg1g2 := jn kg1 eg2
    have dGAg2 := GA.ne eg2
    replace kvp := G.has kvp
    replace kg1 := G.has kg1
    replace GA := GA.gro G
    replace GG := GG.trans G
    clear G
    clear eg2
    refine nq ?_
    refine mv (vF) rfl (nq ?_)
    refine qL (qE (qE (qG (mv (vP vp 0) rfl (sv (vF) (jT 30 _ _ _ rfl _ rfl rfl underlying30 _) rfl (nq ?_))))))
    refine qL (qF rfl (qK (qE ?_)))
    refine yy (A := ?Ax8) 11 [(0, 12), (1, 13), (2, 14), (3, 15), (4, 16), (5, 17), (6, 11), (7, 18), (8, 19), (9, 6)] [.val (vP vp 0), .val (vP vp 0), .val (vP vp 2), .val (.map (some mb)), .val (eA k), .val (.tuple #[iA y, vT]), .val (.tuple #[iA y, vT]), .val (iA y), .val (vT), .new 42 (itA zM) (itA y) 10, .put 9] follows (by kernel_rfl) (by kernel_rfl) rfl ?hAx8 (jz ?o0x8 (jz ?o1x8 (jz ?o2x8 (jz ?o3x8 (jz ?o4x8 (jz ?o5x8 (jz ?o6x8 (jz ?o7x8 (jz ?o8x8 (jz ?o9x8 (jz ?o10x8 uz))))))))))) ?restx8
    case hAx8 =>
      intro ptrs
      simp only [full, foldSlots, filled2, postAt2, List.foldl_cons, List.foldl_nil, List.getD_cons_zero, List.getD_cons_succ, PostS.fill, PostS.val, PostS.new, PostS.put, List.set_cons_zero, List.set_cons_succ]
      exact rfl
    case o0x8 => exact fun _ _ _ _ _ _ => OpOK2.of_val (jM rfl rfl)
    case o1x8 => exact fun _ _ _ _ _ _ => OpOK2.of_val (jM rfl (jl _ rfl _ rfl))
    case o2x8 => exact fun _ _ _ _ _ _ => OpOK2.of_val (jM rfl (je 78 _ 2 rfl vp 0 rfl 2 (by kernel_rfl)))
    case o3x8 => exact fun _ _ _ hw _ _ => OpOK2.of_val (jM rfl (ldVtm _ rfl vp rfl (hw.has kvp)))
    case o4x8 => exact fun _ _ _ hw _ _ => OpOK2.of_val (jM rfl (ldI0 _ rfl g1 rfl (hw.has kg1)))
    case o5x8 => exact fun _ _ _ hw _ _ => OpOK2.of_val (jM rfl (QO (H.vb.map.gro ((GA).gro ((Gro.refl _).drew.trans hw))) _ _ rfl rfl k rfl hk y hM))
    case o6x8 => exact fun _ _ _ _ _ _ => OpOK2.of_val (jM rfl rfl)
    case o7x8 => exact fun _ _ _ _ _ _ => OpOK2.of_val (jM rfl (rfl))
    case o8x8 => exact fun _ _ _ _ _ _ => OpOK2.of_val (jM rfl (rfl))
    case o9x8 => exact fun _ _ _ _ _ _ => OpOK2.of_new (Jz rfl 42 rfl _ zeroIt)
    case o10x8 =>
      intro ptrs Lq wq hw hn hL
      obtain ⟨⟨gq, pq, kq, cq⟩, hz⟩ := hn
      have hL' : Lq 10 = false := hL
      have p' : ptrs 9 = vP gq 0 := pq
      have k' : wq.heap[gq]? = some (.cells (if Lq 10 = true then (itA y) else (itA zM)) 42 (0, 0)) := kq
      rw [hL'] at k'
      refine uB rfl 42 _ _ rfl gq ?_ (itA y) rfl (itA zM) k' (siIt' _) (ZZ _ _) (JE _) rfl p' _
      show ptrs 9 = _
      exact p'
    intro ptrs Lz w3 GD hLz hnz hapz
    obtain ⟨⟨g3, pzg3, kg3, czg3⟩, hzz⟩ := hnz
    simp only [List.drop_succ_cons, List.drop_zero, pzg3]
    replace kg3 : w3.heap[g3]? = some (.cells (itA y) 42 (0, 0)) := by
      have hL' : Lz 10 = true := by rw [hLz]; rfl
      have kk : w3.heap[g3]? = some (.cells (if Lz 10 = true then (itA y) else (itA zM)) 42 (0, 0)) := kg3
      rw [hL'] at kk
      exact kk
    clear hzz hapz hLz
    have dvpg3 : vp < g3 := Nat.lt_of_lt_of_le (ji kvp) czg3
    have dg1g3 : g1 < g3 := Nat.lt_of_lt_of_le (ji kg1) czg3
    have dg2g3 : g2 < g3 := Nat.lt_of_lt_of_le (ji kg2) czg3
    have dGAg3 := GA.neG czg3
    replace kvp := GD.has kvp
    replace kg1 := GD.has kg1
    replace kg2 := GD.has kg2
    replace GA := GA.gro ((Gro.refl _).drew.trans GD)
    have bg3 := Nat.le_trans GG.size czg3
    replace GG := GG.drew.trans GD
    clear GD pzg3 czg3
    refine mv (vT) rfl (nq ?_)
    refine qL (qE (qG (sv (iA y) (ldIt0 _ rfl g3 rfl (kg3)) rfl (nq ?_))))
    refine jq 21 rfl rfl _ 35 call35 rfl rfl _ rfl [iA y] rfl (vH y _ (HY.gro GA) (by omega)) (by rintro _ _ ⟨_, _, he, _, _⟩; exact ⟨_, he⟩) ?_
    have lzvp := ji kvp
    have lzg1 := ji kg1
    have lzg2 := ji kg2
    have lzg3 := ji kg3
    rintro v w4 ⟨ao1, cap1, he, G, HO1⟩
    cases he
    have dHO1vp := HO1.neB lzvp
    have dHO1g1 := HO1.neB lzg1
    have dHO1g2 := HO1.neB lzg2
    have dHO1g3 := HO1.neB lzg3
    replace HO1 := HO1.mono GG.size
    replace kvp := G.has kvp
    replace kg1 := G.has kg1
    replace kg2 := G.has kg2
    replace kg3 := G.has kg3
    replace GA := GA.gro G
    replace GG := GG.trans G
    clear G
    refine nq ?_
    refine mv (vT) rfl (nq ?_)
    refine stI (y.re ao1 cap1) rfl rfl rfl kg2 rfl ?_
    intro w5 St
    replace kvp := St.has (by omega) kvp
    replace kg1 := St.has (by omega) kg1
    replace kg3 := St.has (by omega) kg3
    replace GA := GA.st St dGAg2
    replace HO1 := HO1.st St dHO1g2
    replace GG := GG.store St bg2
    replace kg2 := St.new
    clear St
    refine mv (vT) rfl (nq ?_)
    refine qL (qR ?_)
    refine bodyPost_ret (jJ results16 _ _ g2 42 _ (0, 0) _ rfl (vT) rfl kg2 underlying42 rfl (siIt' _)) rfl ?_
    unfold getK
    rw [hM]
    exact ⟨_, _, rfl, GG, HO1⟩
section
variable {w : World} {b : Nat} {M : List (Nat × IM)} {o : Oper} {A : Act}
theorem YW (h : TM w b M) (x y : Operand) (ho : o.op = .lookup 76 x y false) (hx : A.eval x = .map (some b)) (p : Nat) (hy : A.eval y = .agg (idA p)) (hp : p < top) : (execOp A.eval o).run Tryz.prog w = .ok (.value (.agg (itA (getK M p)))) w := by
  unfold getK
  cases hg : getM M p with
  | none => exact jcd h x y ho hx p hy hp hg
  | some z => exact jcc h x y ho hx p hy hp z hg
end
theorem getK_n {U : List Nat} {w : World} {M : List (Nat × IM)} (h : MR U w M) (k : Nat) : 0 ≤ (getK M k).n ∧ (getK M k).n ≤ 4611686018427387903 := by
  unfold getK
  cases hg : getM M k with
  | none => exact ⟨by decide, by decide⟩
  | some z =>
    have := h.n1 _ (zh hg)
    simp only at this
    exact ⟨by show 0 ≤ z.n; omega, by show z.n ≤ _; omega⟩
end Go.Proofs.YtgfnjekpafempaaGreat
