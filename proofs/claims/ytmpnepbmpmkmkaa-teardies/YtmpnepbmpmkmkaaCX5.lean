/- The document's call: a session died. -/
import Derived.Test.YtmpnepbmpmkmkaaCX4
namespace Go.Proofs.Ytmpnepbmpmkmkaa
open Go.RowKit Go.Maps
theorem rdrop_eq (w : World) (r most : Nat) (ra : Option Addr) (rc : Nat) (L : List En) (kr : w.heap[r]? = some (.cells (rbA ra L.length rc most) 43 (0, 0))) (HL : OE w 0 ra rc L) (hLb : L.length ≤ 1000) (hk : KN L) (fr : Int) (p : Pa) (hp : p.ok) (T : Tn) (L2 : List En) (hT : drpT L fr p = T) (hL : drpL L fr p = L2) : Calls Try.prog 11 #[.pointer (some ⟨r, 0, none⟩), .int .i64 fr, .agg (paA p)] w (TornR w r most T L2) := by
  subst hT hL
  exact rdrop_any w r most ra rc L kr HL hLb hk fr p hp
section
variable {w w' : World} {B : Nat} {t : Tn} {ao : Option Addr} {c : Nat} {H : List Hp} {bo : Option Addr} {d : Nat}
theorem TnP.appOs (h : TnP w B t ao c H bo d) {H2 : List Hp} {u : List (Int × Pa)} (hx : H2.map Hp.key = u) {ao2 : Option Addr} {c2 : Nat} (HO : OW kH 67 w' B ao2 c2 (H ++ H2)) (G : GroS (Go.Proofs.Ytmpnepbmpmkmkaa.blk ao) w w') : TnP w' B ⟨t.out ++ u, t.lost⟩ ao2 c2 (H ++ H2) bo d :=
  ⟨HO, h.lost.gros G fun k hk hm => by
    obtain ⟨_, c9, hc⟩ := h.lost.own.at k hk
    exact h.out.own.ne hc (by decide) hm, by rw [List.map_append, h.eq, hx]⟩
theorem TnP.appLs (h : TnP w B t ao c H bo d) {P2 : List Pa} {bo2 : Option Addr} {d2 : Nat} (HO : OW kP 26 w' B bo2 d2 (t.lost ++ P2)) (G : GroS (Go.Proofs.Ytmpnepbmpmkmkaa.blk bo) w w') : TnP w' B ⟨t.out, t.lost ++ P2⟩ ao c H bo2 d2 :=
  ⟨h.out.gros G fun k hk hm => by
    obtain ⟨_, c9, hc⟩ := h.out.own.at k hk
    exact h.lost.own.ne hc (by decide) hm, HO, h.eq⟩
end
/-- Onto one's own row of hops. -/
theorem s_appKH {ops : Array Oper} {rest : List Oper} {T : List Value} {ds : List Deferred} {Q : Exit → Act → World → Prop} {o : Oper} {w : World} {B : Nat} {ao : Option Addr} {cap : Nat} {l : List Hp} (dst : Nat) (hd : o.dst = some dst) (hgd : o.guard = none) (a x : Operand) (ho : o.op = .call { callee := .builtin .append, args := #[a, x], argTypes := #[31, 31] })
    (hs : (⟨T.toArray, ds⟩ : Act).eval a = .slice ao l.length cap) (hown : OW kH 67 w B ao cap l)
    {ao' : Option Addr} {cap' : Nat} {l' : List Hp} (hx : (⟨T.toArray, ds⟩ : Act).eval x = .slice ao' l'.length cap') (hsrc : RK kH w ao' cap' l') (hb : l.length + l'.length ≤ 1000000) (hB : B ≤ w.heap.size)
    (h : ∀ ao2 cap2 w', OW kH 67 w' B ao2 cap2 (l ++ l') → GroS (Go.Proofs.Ytmpnepbmpmkmkaa.blk ao) w w' → Kept w.heap.size ao ao2 → wpList Try.prog ops Q rest ⟨(T.set dst (.slice ao2 (l ++ l').length cap2)).toArray, ds⟩ w') : wpList Try.prog ops Q (o :: rest) ⟨T.toArray, ds⟩ w := by
  refine s_appY rH dst hd hgd a x ho hs hown.own hx hsrc.xc (by omega) (by decide) hB ?_
  intro ao2 cap2 w' h1 h2 h3
  rw [← List.flatMap_append, ← List.length_append] at h1
  have := h ao2 cap2 w' ⟨h1, fun x hx => (List.mem_append.1 hx).elim (hown.all x) (hsrc.all x)⟩ h2 h3
  rw [List.length_append] at this
  exact this
set_option maxRecDepth 100000 in
set_option maxHeartbeats 4000000 in
theorem rdead_any (w : World) (r most : Nat) (ra : Option Addr) (rc : Nat) (L : List En) (kr : w.heap[r]? = some (.cells (rbA ra L.length rc most) 43 (0, 0))) (HL : OE w 0 ra rc L) (hlen : L.length ≤ 1000) (hk : KN L) (n : Int) : Calls Try.prog 15 #[.pointer (some ⟨r, 0, none⟩), .int .i64 n] w (TornR w r most (deadT L n) (deadL L n)) := by
  refine s_enter Try.func15 rfl Try.ntmps15 [.pointer (some ⟨r, 0, none⟩), .int .i64 n] [.pointer (some ⟨r, 0, none⟩), .int .i64 n, undef, undef, undef, undef, undef, undef, undef, undef, undef, undef, undef, undef, undef, undef, undef, undef, undef, undef, undef, undef, undef, undef, undef, undef, undef, undef, undef, undef, undef, undef, undef, undef, undef, undef, undef, undef, undef] rfl ?_
  have GG := GroS.refl [r] w
  have hfl := List.length_filter_le (viaF n) L
  refine wp_seq ?_
  refine wp_region_lit ?_
  refine s_alloc 4 rfl rfl 38 rfl _ zvQ (tnA none 0 0 none 0 0) rfl ?_
  intro w1 g1 G eg1 kg1
  have bg1 := size_basS GG eg1
  have drg1 := lt_new kr eg1
  have dHLg1 := HL.ne eg1
  replace kr := G.has kr
  replace HL := HL.gro G
  replace GG := GG.tg G
  clear G
  clear eg1
  refine nr ?_; intro U h; simp only [z0, z1] at h; subst h
  refine wpList_nil ?_
  refine then_n ?_
  refine wp_seq ?_
  refine wp_region_lit ?_
  refine s_alloc 5 rfl rfl 38 rfl _ zvQ (tnA none 0 0 none 0 0) rfl ?_
  intro w2 g2 G eg2 kg2
  have bg2 := size_basS GG eg2
  have drg2 := lt_new kr eg2
  have dg1g2 := lt_new kg1 eg2
  have dHLg2 := HL.ne eg2
  replace kr := G.has kr
  replace kg1 := G.has kg1
  replace HL := HL.gro G
  replace GG := GG.tg G
  clear G
  clear eg2
  refine nr ?_; intro U h; simp only [z0, z1] at h; subst h
  refine wpList_nil ?_
  refine then_n ?_
  refine wp_seq ?_
  refine wp_region_lit ?_
  refine s_val 9 rfl rfl (.pointer (some ⟨r, 0, none⟩)) (rfl) ?_
  refine nr ?_; intro U h; simp only [z0, z1] at h; subst h
  refine s_val 10 rfl rfl (.int .i64 n) (rfl) ?_
  refine nr ?_; intro U h; simp only [z0, z1] at h; subst h
  refine s_callx 11 rfl rfl _ 34 Try.call34 rfl rfl _ rfl [.pointer (some ⟨r, 0, none⟩), .int .i64 n] rfl (rvia_any _ r most ra rc L (kr) (HL) hlen n) (by rintro _ _ ⟨_, _, he, _⟩; exact ⟨_, he⟩) ?_
  rintro v w3 ⟨ao1, cap1, he, G, HO1⟩
  cases he
  replace HO1 := HO1.mono GG.size
  replace kr := G.has kr
  replace kg1 := G.has kg1
  replace kg2 := G.has kg2
  replace HL := HL.gro G
  replace GG := GG.tg G
  clear G
  have HR1 := HO1.re
  refine nr ?_; intro U h; simp only [z0, z1] at h; subst h
  refine s_val 6 rfl rfl (.slice ao1 (L.filter (viaF n)).length cap1) (rfl) ?_
  refine nr ?_; intro U h; simp only [z0, z1] at h; subst h
  refine wpList_nil ?_
  refine then_n ?_
  refine wp_seq ?_
  refine wp_seq ?_
  refine wp_region_lit ?_
  refine s_val 7 rfl rfl (.int .i64 0) (rfl) ?_
  refine nr ?_; intro U h; simp only [z0, z1] at h; subst h
  refine wpList_nil ?_
  refine then_n ?_
  refine wp_block ?_
  obtain ⟨B, hB⟩ : ∃ m, w3.heap.size = m := ⟨_, rfl⟩
  have HZ : SZ B w3 := Nat.le_of_eq hB.symm
  have hwB : w.heap.size ≤ B := hB ▸ GG.size
  have dHR1g1 : NE ao1 (flE (L.filter (viaF n))).length g1 := fun ad ha _ e => HO1.own.ne kg1 (by decide) (mem_blk.2 ⟨ad, ha, e⟩)
  have dHZg1 : True := trivial
  have dHR1g2 : NE ao1 (flE (L.filter (viaF n))).length g2 := fun ad ha _ e => HO1.own.ne kg2 (by decide) (mem_blk.2 ⟨ad, ha, e⟩)
  have dHZg2 : True := trivial
  have dHR1r : NE ao1 (flE (L.filter (viaF n))).length r := fun ad ha _ e => HO1.own.ne kr (by decide) (mem_blk.2 ⟨ad, ha, e⟩)
  have hvr : ∀ ad, ao1 = some ad → 0 < (flE (L.filter (viaF n))).length → ad.block < B := fun ad ha h0 => hB ▸ HR1.lt ad ha h0
  refine wp_loopN (fun mz az wv => ∃ (i : Nat) (ra : Option Addr) (rc : Nat) (ao : Option Addr) (c : Nat) (H : List Hp) (bo : Option Addr) (d : Nat) (us1 : Nat → Value), mz = (L.filter (viaF n)).length + 1 - i ∧ az = ⟨[.pointer (some ⟨r, 0, none⟩), .int .i64 n, undef, undef, .pointer (some ⟨g1, 0, none⟩), .pointer (some ⟨g2, 0, none⟩), .slice ao1 (L.filter (viaF n)).length cap1, .int .i64 ((i : Nat) : Int), us1 0, .pointer (some ⟨r, 0, none⟩), .int .i64 n, .slice ao1 (L.filter (viaF n)).length cap1, us1 1, us1 2, us1 3, us1 4, us1 5, us1 6, us1 7, us1 8, us1 9, us1 10, us1 11, us1 12, us1 13, us1 14, us1 15, us1 16, us1 17, us1 18, us1 19, us1 20, us1 21, us1 22, us1 23, us1 24, us1 25, us1 26, undef].toArray, []⟩ ∧ i ≤ (L.filter (viaF n)).length ∧ GroS [r] w wv ∧ SZ B wv ∧ wv.heap[r]? = some (.cells (rbA ra (deadK ((L.filter (viaF n)).take i) L).length rc most) 43 (0, 0)) ∧ wv.heap[g1]? = some (.cells (tnA none 0 0 none 0 0) 38 (0, 0)) ∧ wv.heap[g2]? = some (.cells (tnA ao H.length c bo (sidesT n ((L.filter (viaF n)).take i)).lost.length d) 38 (0, 0)) ∧ OE wv 0 ra rc (deadK ((L.filter (viaF n)).take i) L) ∧ RE wv ao1 cap1 (L.filter (viaF n)) ∧ TnP wv B (sidesT n ((L.filter (viaF n)).take i)) ao c H bo d) ?_ _ ⟨0, ra, rc, none, 0, [], none, 0, (fun kz => ([undef, undef, undef, undef, undef, undef, undef, undef, undef, undef, undef, undef, undef, undef, undef, undef, undef, undef, undef, undef, undef, undef, undef, undef, undef, undef, undef] : List Value).getD kz undef), rfl, rfl, Nat.zero_le _, GG, HZ, kr, kg1, kg2, HL, HR1, TnP.nil _ _⟩
  clear GG kr kg1 kg2 HL HR1
  rintro mz az wv ⟨i, ra, rc, ao, c, H, bo, d, us1, rfl, rfl, hi, GG, HZ, kr, kg1, kg2, HL, HR1, HN⟩
  have hsl := sidesT_le n ((L.filter (viaF n)).take i)
  have htk : ((L.filter (viaF n)).take i).length ≤ 1000 := tkf_le hlen
  have hHl := HN.len
  have dHLg1 := HL.own.ne kg1 (by decide)
  have dHLg2 := HL.own.ne kg2 (by decide)
  refine wp_seq ?_
  refine wp_seq ?_
  refine wp_region_lit ?_
  refine s_val 12 rfl rfl (.int .i64 ((i : Nat) : Int)) (rfl) ?_
  refine nr ?_; intro U h; simp only [z0, z1] at h; subst h
  refine s_val 13 rfl rfl (.slice ao1 (L.filter (viaF n)).length cap1) (rfl) ?_
  refine nr ?_; intro U h; simp only [z0, z1] at h; subst h
  refine s_val 14 rfl rfl (.int .i64 (((L.filter (viaF n)).length : Nat) : Int)) (run_len Try.underlying22 _ rfl _ _ _ rfl _) ?_
  refine nr ?_; intro U h; simp only [z0, z1] at h; subst h
  cases hi1 : decide (((i : Nat) : Int) < (((L.filter (viaF n)).length : Nat) : Int))
  · have hie : i = (L.filter (viaF n)).length := by have := of_decide_eq_false hi1; omega
    refine s_val 15 rfl rfl (.bool false) (run_lssT 3 _ _ _ rfl ((i : Nat) : Int) (((L.filter (viaF n)).length : Nat) : Int) rfl rfl false hi1 _) ?_
    refine nr ?_; intro U h; simp only [z0, z1] at h; subst h
    refine wpList_nil ?_
    refine then_n ?_
    refine wp_cond_false rfl ?_
    refine wp_exit ?_
    refine then_x ?_
    refine then_x ?_
    refine blk_x ?_
    refine then_n ?_
    refine wp_seq ?_
    refine wp_region_lit ?_
    refine s_val 38 rfl rfl (.agg (tnA ao H.length c bo (sidesT n ((L.filter (viaF n)).take i)).lost.length d)) (ldQ_0 _ rfl g2 rfl (kg2)) ?_
    refine nr ?_; intro U h; simp only [z0, z1] at h; subst h
    refine s_store rfl rfl 38 _ _ rfl g1 0 rfl (.agg (tnA ao H.length c bo (sidesT n ((L.filter (viaF n)).take i)).lost.length d)) rfl 38 _ kg1 (tnA ao H.length c bo (sidesT n ((L.filter (viaF n)).take i)).lost.length d) rfl (siQ) (Nat.le_refl _) (oneT _ _ _ _ _ _) (tnA ao H.length c bo (sidesT n ((L.filter (viaF n)).take i)).lost.length d) (splice_whole _ _ (rfl)) ?_
    intro w4 St
    have kS := kg1
    replace kr := St.has (by omega) kr
    replace kg2 := St.has (by omega) kg2
    replace HL := HL.st St dHLg1
    replace HR1 := HR1.st St dHR1g1
    replace HN := HN.st St kS (by decide) (by decide)
    replace HZ := HZ.st St dHZg1
    replace GG := GG.st St (.inl bg1)
    replace kg1 := St.new
    clear St
    refine wpList_nil ?_
    refine then_n ?_
    refine wp_ret ?_
    refine bodyPost_ret (results_cell_row Try.results15 _ _ g1 38 _ (0, 0) _ rfl kg1 Try.underlying38 rfl (siQ)) rfl ?_
    subst hie
    rw [List.take_length, deadK_all hk] at kr HL
    rw [List.take_length] at *
    exact ⟨ao, c, H, bo, d, rfl, HN.mono hwB, ra, rc, kr, HL, GG⟩
  · have hil : i < (L.filter (viaF n)).length := by have := of_decide_eq_true hi1; omega
    refine s_val 15 rfl rfl (.bool true) (run_lssT 3 _ _ _ rfl ((i : Nat) : Int) (((L.filter (viaF n)).length : Nat) : Int) rfl rfl true hi1 _) ?_
    refine nr ?_; intro U h; simp only [z0, z1] at h; subst h
    refine wpList_nil ?_
    refine then_n ?_
    refine wp_cond_true rfl ?_
    refine wp_skip ?_
    refine then_n ?_
    refine wp_seq ?_
    refine wp_block ?_
    refine wp_seq ?_
    refine wp_region_lit ?_
    refine s_val 18 rfl rfl (.pointer (some ⟨r, 0, none⟩)) (rfl) ?_
    refine nr ?_; intro U h; simp only [z0, z1] at h; subst h
    refine s_val 19 rfl rfl (.int .i64 n) (rfl) ?_
    refine nr ?_; intro U h; simp only [z0, z1] at h; subst h
    refine s_val 20 rfl rfl (.slice ao1 (L.filter (viaF n)).length cap1) (rfl) ?_
    refine nr ?_; intro U h; simp only [z0, z1] at h; subst h
    refine s_val 21 rfl rfl (.int .i64 ((i : Nat) : Int)) (rfl) ?_
    refine nr ?_; intro U h; simp only [z0, z1] at h; subst h
    refine s_val 22 rfl rfl (.pointer (pE ao1 i 0)) (run_ixE (HR1) _ _ rfl rfl i rfl (by omega)) ?_
    refine nr ?_; intro U h; simp only [z0, z1] at h; subst h
    refine s_val 23 rfl rfl (.pointer (pE ao1 i 0)) (run_fdE (HR1) _ 0 0 (fd33_0 _) rfl i rfl (by omega)) ?_
    refine nr ?_; intro U h; simp only [z0, z1] at h; subst h
    refine s_val 24 rfl rfl (.agg (paA ((L.filter (viaF n)).getD i zE).p)) (run_ldEp (HR1) _ rfl i rfl (by omega)) ?_
    refine nr ?_; intro U h; simp only [z0, z1] at h; subst h
    obtain ⟨hxm, hxv⟩ := deadK_next (n := n) hk hil
    have hxo : ((L.filter (viaF n)).getD i zE).ok := HR1.all.at hil
    have hkM := deadK_kn hk ((L.filter (viaF n)).take i)
    have hdh := drp_hit hkM hxm hxv
    have hdl := deadK_len ((L.filter (viaF n)).take i) L
    have hba : ∀ k ∈ Go.Proofs.Ytmpnepbmpmkmkaa.blk ao, k < wv.heap.size := HN.out.own.lt
    have hbb : ∀ k ∈ Go.Proofs.Ytmpnepbmpmkmkaa.blk bo, k < wv.heap.size := HN.lost.own.lt
    obtain ⟨SZ1, hSZ⟩ : ∃ m, wv.heap.size = m := ⟨_, rfl⟩
    have sr : r < SZ1 := hSZ ▸ lt_of_heap kr
    have sg1 : g1 < SZ1 := hSZ ▸ lt_of_heap kg1
    have sg2 : g2 < SZ1 := hSZ ▸ lt_of_heap kg2
    refine s_callx 25 rfl rfl _ 11 Try.call11 rfl rfl _ rfl [.pointer (some ⟨r, 0, none⟩), .int .i64 n, .agg (paA ((L.filter (viaF n)).getD i zE).p)] rfl (rdrop_eq _ r most ra rc (deadK ((L.filter (viaF n)).take i) L) (kr) (HL) (by omega) hkM n ((L.filter (viaF n)).getD i zE).p hxo.p _ _ hdh.1 hdh.2) (by rintro _ _ ⟨_, _, _, _, _, he, _⟩; exact ⟨_, he⟩) ?_
    rintro v w4 ⟨ax, cx, Hx, bx, dx, he, HNx, ra5, rc5, kr2, HL2, G2⟩
    cases he
    rw [hSZ] at HNx hba hbb
    replace kg1 := G2.has kg1 (ne_cells kg1 kr (by decide))
    replace kg2 := G2.has kg2 (ne_cells kg2 kr (by decide))
    replace HR1 := HR1.gros G2 (fun ad ha h0 => by simpa using dHR1r ad ha h0)
    replace HN := HN.grosT G2 kr (by decide) (by decide)
    replace HZ := HZ.le G2.size
    replace GG := GG.trans G2
    clear kr HL G2 hSZ
    have kr := kr2
    have HL := HL2
    clear kr2 HL2
    refine nr ?_; intro U h; simp only [z0, z1] at h; subst h
    have dHLg1 := HL.own.ne kg1 (by decide)
    have dHLg2 := HL.own.ne kg2 (by decide)
    refine s_alloc 8 rfl rfl 38 rfl _ zvQ (tnA none 0 0 none 0 0) rfl ?_
    intro w5 g3 G eg3 kg3
    have bg3 := size_basS GG eg3
    have drg3 := lt_new kr eg3
    have dg1g3 := lt_new kg1 eg3
    have dg2g3 := lt_new kg2 eg3
    have dHLg3 := HL.ne eg3
    have dHR1g3 := HR1.ne eg3
    have dHZg3 := HZ.ne eg3
    replace kr := G.has kr
    replace kg1 := G.has kg1
    replace kg2 := G.has kg2
    replace HL := HL.gro G
    replace HR1 := HR1.gro G
    replace HN := HN.gro G
    replace HZ := HZ.gro G
    replace HNx := HNx.gro G
    replace GG := GG.tg G
    clear G
    clear eg3
    refine nr ?_; intro U h; simp only [z0, z1] at h; subst h
    refine s_store rfl rfl 38 _ _ rfl g3 0 rfl (.agg (tnA ax Hx.length cx bx (sideT (othS ((L.filter (viaF n)).getD i zE) n) ((L.filter (viaF n)).getD i zE).p).lost.length dx)) rfl 38 _ kg3 (tnA ax Hx.length cx bx (sideT (othS ((L.filter (viaF n)).getD i zE) n) ((L.filter (viaF n)).getD i zE).p).lost.length dx) rfl (siQ) (Nat.le_refl _) (oneT _ _ _ _ _ _) (tnA ax Hx.length cx bx (sideT (othS ((L.filter (viaF n)).getD i zE) n) ((L.filter (viaF n)).getD i zE).p).lost.length dx) (splice_whole _ _ (rfl)) ?_
    intro w6 St
    have kS := kg3
    replace kr := St.has (by omega) kr
    replace kg1 := St.has (by omega) kg1
    replace kg2 := St.has (by omega) kg2
    replace HL := HL.st St dHLg3
    replace HR1 := HR1.st St dHR1g3
    replace HN := HN.st St kS (by decide) (by decide)
    replace HZ := HZ.st St dHZg3
    replace HNx := HNx.st St kS (by decide) (by decide)
    replace GG := GG.st St (.inl bg3)
    replace kg3 := St.new
    clear St
    refine wpList_nil ?_
    refine then_n ?_
    refine wp_seq ?_
    refine wp_region_lit ?_
    refine s_val 26 rfl rfl (.pointer (some ⟨g2, 0, none⟩)) (run_fld 38 _ 0 rfl g2 0 rfl 0 (by kernel_rfl)) ?_
    refine nr ?_; intro U h; simp only [z0, z1] at h; subst h
    refine s_val 27 rfl rfl (.slice ao H.length c) (ldQ_o _ rfl g2 rfl (kg2)) ?_
    refine nr ?_; intro U h; simp only [z0, z1] at h; subst h
    refine s_val 28 rfl rfl (.pointer (some ⟨g3, 0, none⟩)) (run_fld 38 _ 0 rfl g3 0 rfl 0 (by kernel_rfl)) ?_
    refine nr ?_; intro U h; simp only [z0, z1] at h; subst h
    refine s_val 29 rfl rfl (.slice ax Hx.length cx) (ldQ_o _ rfl g3 rfl (kg3)) ?_
    refine nr ?_; intro U h; simp only [z0, z1] at h; subst h
    have hxl := HNx.len
    have hsd := sideT_len (othS ((L.filter (viaF n)).getD i zE) n) ((L.filter (viaF n)).getD i zE).p
    refine s_appKH 30 rfl rfl _ _ rfl rfl HN.out rfl HNx.out.re (by omega) HZ ?_
    intro ao9 c9 w7 HO2 G2 _
    replace kr := G2.has kr (HN.out.own.ne kr (by decide))
    replace kg1 := G2.has kg1 (HN.out.own.ne kg1 (by decide))
    replace kg2 := G2.has kg2 (HN.out.own.ne kg2 (by decide))
    replace kg3 := G2.has kg3 (HN.out.own.ne kg3 (by decide))
    replace HL := HL.gros G2 (fun k hk hm => by obtain ⟨_, c8, hc8⟩ := HL.own.at k hk; exact HN.out.own.ne hc8 (by decide) hm)
    replace HR1 := HR1.gros G2 (fun ad ha h0 hm => by have h1 := hvr ad ha h0; have h2 := HN.out.own.base _ hm; omega)
    have HXl := HNx.lost.gros G2 (fun k hk hm => by obtain ⟨_, c8, hc8⟩ := HNx.lost.own.at k hk; exact HN.out.own.ne hc8 (by decide) hm)
    have hxq := HNx.eq
    replace GG := G2.gros GG (fun k hk => .inr (by have h2 := HN.out.own.base k hk; omega))
    replace HZ := HZ.le G2.size
    replace HN := HN.appOs hxq HO2 G2
    clear G2 HO2 HNx
    refine nr ?_; intro U h; simp only [z0, z1] at h; subst h
    refine s_val 31 rfl rfl (.pointer (some ⟨g2, 0, none⟩)) (run_fld 38 _ 0 rfl g2 0 rfl 0 (by kernel_rfl)) ?_
    refine nr ?_; intro U h; simp only [z0, z1] at h; subst h
    refine s_store rfl rfl 31 _ _ rfl g2 0 rfl (.slice ao9 (H ++ Hx).length c9) rfl 38 _ kg2 #[.slice ao9 (H ++ Hx).length c9] rfl (siRH) (by show 0 + 1 ≤ 2; omega) (sl_one _ _ _) (tnA ao9 (H ++ Hx).length c9 bo (sidesT n ((L.filter (viaF n)).take i)).lost.length d) (spT_0 _ _ _ _ _ _ _ _ _) ?_
    intro w8 St
    have kS := kg2
    replace kr := St.has (by omega) kr
    replace kg1 := St.has (by omega) kg1
    replace kg3 := St.has (by omega) kg3
    replace HL := HL.st St dHLg2
    replace HR1 := HR1.st St dHR1g2
    replace HN := HN.st St kS (by decide) (by decide)
    replace HZ := HZ.st St dHZg2
    replace HXl := HXl.stT St kS (by decide)
    replace GG := GG.st St (.inl bg2)
    replace kg2 := St.new
    clear St
    refine wpList_nil ?_
    refine then_n ?_
    refine wp_region_lit ?_
    refine s_val 32 rfl rfl (.pointer (some ⟨g2, 1, none⟩)) (run_fld 38 _ 1 rfl g2 0 rfl 1 (by kernel_rfl)) ?_
    refine nr ?_; intro U h; simp only [z0, z1] at h; subst h
    refine s_val 33 rfl rfl (.slice bo (sidesT n ((L.filter (viaF n)).take i)).lost.length d) (ldQ_l _ rfl g2 rfl (kg2)) ?_
    refine nr ?_; intro U h; simp only [z0, z1] at h; subst h
    refine s_val 34 rfl rfl (.pointer (some ⟨g3, 1, none⟩)) (run_fld 38 _ 1 rfl g3 0 rfl 1 (by kernel_rfl)) ?_
    refine nr ?_; intro U h; simp only [z0, z1] at h; subst h
    refine s_val 35 rfl rfl (.slice bx (sideT (othS ((L.filter (viaF n)).getD i zE) n) ((L.filter (viaF n)).getD i zE).p).lost.length dx) (ldQ_l _ rfl g3 rfl (kg3)) ?_
    refine nr ?_; intro U h; simp only [z0, z1] at h; subst h
    refine s_appK rP (by decide) (by decide) 36 rfl rfl _ _ rfl rfl HN.lost rfl HXl.re (by show (sidesT n ((L.filter (viaF n)).take i)).lost.length + (sideT (othS ((L.filter (viaF n)).getD i zE) n) ((L.filter (viaF n)).getD i zE).p).lost.length ≤ _; omega) HZ ?_
    intro bo9 d9 w9 HO2 G2 _
    replace kr := G2.has kr (HN.lost.own.ne kr (by decide))
    replace kg1 := G2.has kg1 (HN.lost.own.ne kg1 (by decide))
    replace kg2 := G2.has kg2 (HN.lost.own.ne kg2 (by decide))
    replace kg3 := G2.has kg3 (HN.lost.own.ne kg3 (by decide))
    replace HL := HL.gros G2 (fun k hk hm => by obtain ⟨_, c8, hc8⟩ := HL.own.at k hk; exact HN.lost.own.ne hc8 (by decide) hm)
    replace HR1 := HR1.gros G2 (fun ad ha h0 hm => by have h1 := hvr ad ha h0; have h2 := HN.lost.own.base _ hm; omega)
    replace GG := G2.gros GG (fun k hk => .inr (by have h2 := HN.lost.own.base k hk; omega))
    replace HZ := HZ.le G2.size
    replace HN := HN.appLs HO2 G2
    clear G2 HO2 HXl
    refine nr ?_; intro U h; simp only [z0, z1] at h; subst h
    refine s_val 37 rfl rfl (.pointer (some ⟨g2, 1, none⟩)) (run_fld 38 _ 1 rfl g2 0 rfl 1 (by kernel_rfl)) ?_
    refine nr ?_; intro U h; simp only [z0, z1] at h; subst h
    refine s_store rfl rfl 32 _ _ rfl g2 1 rfl (.slice bo9 ((sidesT n ((L.filter (viaF n)).take i)).lost ++ (sideT (othS ((L.filter (viaF n)).getD i zE) n) ((L.filter (viaF n)).getD i zE).p).lost).length d9) rfl 38 _ kg2 #[.slice bo9 ((sidesT n ((L.filter (viaF n)).take i)).lost ++ (sideT (othS ((L.filter (viaF n)).getD i zE) n) ((L.filter (viaF n)).getD i zE).p).lost).length d9] rfl (siRP) (by show 1 + 1 ≤ 2; omega) (sl_one _ _ _) (tnA ao9 (H ++ Hx).length c9 bo9 ((sidesT n ((L.filter (viaF n)).take i)).lost ++ (sideT (othS ((L.filter (viaF n)).getD i zE) n) ((L.filter (viaF n)).getD i zE).p).lost).length d9) (spT_1 _ _ _ _ _ _ _ _ _) ?_
    intro w10 St
    have kS := kg2
    replace kr := St.has (by omega) kr
    replace kg1 := St.has (by omega) kg1
    replace kg3 := St.has (by omega) kg3
    replace HL := HL.st St dHLg2
    replace HR1 := HR1.st St dHR1g2
    replace HN := HN.st St kS (by decide) (by decide)
    replace HZ := HZ.st St dHZg2
    replace GG := GG.st St (.inl bg2)
    replace kg2 := St.new
    clear St
    refine wpList_nil ?_
    refine blk_n ?_
    refine then_n ?_
    refine wp_region_lit ?_
    refine s_val 16 rfl rfl (.int .i64 ((i : Nat) : Int)) (rfl) ?_
    refine nr ?_; intro U h; simp only [z0, z1] at h; subst h
    refine s_val 17 rfl rfl (.int .i64 ((i + 1 : Nat) : Int)) (run_addI 3 _ _ _ rfl ((i : Nat) : Int) 1 ((i + 1 : Nat) : Int) rfl rfl (by omega) (by omega) (by omega) _) ?_
    refine nr ?_; intro U h; simp only [z0, z1] at h; subst h
    refine s_val 7 rfl rfl (.int .i64 ((i + 1 : Nat) : Int)) (rfl) ?_
    refine nr ?_; intro U h; simp only [z0, z1] at h; subst h
    refine wpList_nil ?_
    refine then_n ?_
    exact ⟨(L.filter (viaF n)).length + 1 - (i + 1), by omega, i + 1, ra5, rc5, ao9, c9, (H ++ Hx), bo9, d9, (fun kz => ([.pointer (some ⟨g3, 0, none⟩), .int .i64 ((i : Nat) : Int), .slice ao1 (L.filter (viaF n)).length cap1, .int .i64 (((L.filter (viaF n)).length : Nat) : Int), .bool true, .int .i64 ((i : Nat) : Int), .int .i64 ((i + 1 : Nat) : Int), .pointer (some ⟨r, 0, none⟩), .int .i64 n, .slice ao1 (L.filter (viaF n)).length cap1, .int .i64 ((i : Nat) : Int), .pointer (pE ao1 i 0), .pointer (pE ao1 i 0), .agg (paA ((L.filter (viaF n)).getD i zE).p), .agg (tnA ax Hx.length cx bx (sideT (othS ((L.filter (viaF n)).getD i zE) n) ((L.filter (viaF n)).getD i zE).p).lost.length dx), .pointer (some ⟨g2, 0, none⟩), .slice ao H.length c, .pointer (some ⟨g3, 0, none⟩), .slice ax Hx.length cx, .slice ao9 (H ++ Hx).length c9, .pointer (some ⟨g2, 0, none⟩), .pointer (some ⟨g2, 1, none⟩), .slice bo (sidesT n ((L.filter (viaF n)).take i)).lost.length d, .pointer (some ⟨g3, 1, none⟩), .slice bx (sideT (othS ((L.filter (viaF n)).getD i zE) n) ((L.filter (viaF n)).getD i zE).p).lost.length dx, .slice bo9 ((sidesT n ((L.filter (viaF n)).take i)).lost ++ (sideT (othS ((L.filter (viaF n)).getD i zE) n) ((L.filter (viaF n)).getD i zE).p).lost).length d9, .pointer (some ⟨g2, 1, none⟩)] : List Value).getD kz undef), rfl, rfl, by omega, GG, HZ, by rw [deadK_take hil]; exact kr, kg1, by rw [sidesT_take hil]; exact kg2, by rw [deadK_take hil]; exact HL, HR1, by rw [sidesT_take hil]; exact HN⟩
end Go.Proofs.Ytmpnepbmpmkmkaa
