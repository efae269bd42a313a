/- The document's calls: a Drop that came, a session that died, an end. -/
import Derived.Test.YtmpnepbmpmkmkaaDX3
import Derived.Test.YtmpnepbmpmkmkaaDP16
namespace Go.Proofs.Ytmpnepbmpmkmkaa
open Go.RowKit Go.Maps
def SideP (w : World) (B g : Nat) (T : Tn) (e : Ending) (w' : World) : Prop := ∃ ao c H bo d, e = .returned (.tuple #[]) ∧ w'.heap[g]? = some (.cells (tnA ao H.length c bo T.lost.length d) 38 (0, 0)) ∧ TnP w' B T ao c H bo d ∧ BelB B g w w'
def TornR (w : World) (r most : Nat) (T : Tn) (L2 : List En) (e : Ending) (w' : World) : Prop := ∃ ao c H bo d, e = .returned (.agg (tnA ao H.length c bo T.lost.length d)) ∧ TnP w' w.heap.size T ao c H bo d ∧ ∃ ra rc, w'.heap[r]? = some (.cells (rbA ra L2.length rc most) 43 (0, 0)) ∧ OE w' 0 ra rc L2 ∧ GroS [r] w w'
theorem rget_b (w : World) (r most : Nat) (ra : Option Addr) (rc : Nat) (L : List En) (kr : w.heap[r]? = some (.cells (rbA ra L.length rc most) 43 (0, 0))) (HL : OE w 0 ra rc L) (hLb : L.length ≤ 1000) (hk : KN L) (p : Pa) (hp : p.ok) (bb : Bool) (hb : hasL L p = bb) : Calls Try.prog 29 #[.pointer (some ⟨r, 0, none⟩), .agg (paA p)] w (fun e w' => e = .returned (.tuple #[.agg (enA (getV L p)), .bool bb]) ∧ Gro w w') := by
  subst hb
  exact rget_any w r most ra rc L kr HL hLb hk p hp
theorem hpN_ok {n : Int} {p : Pa} (hn : I64 n) (hp : p.ok) : (hpN n p).ok := hp_nil hp hn
section
variable {w w' v x : World} {B b g : Nat} {ao : Option Addr} {cap : Nat} {l : List En} {S : List Nat}
theorem OE.bb {B' : Nat} (h : OE w B' ao cap l) (G : BelB B b w w') (hb : ∀ k ∈ Go.Proofs.Ytmpnepbmpmkmkaa.blk ao, k < B ∧ k ≠ b) : OE w' B' ao cap l :=
  h.gros (S := ((List.range w.heap.size).filter fun k => decide (B ≤ k)) ++ [b]) ⟨G.os, G.tape, G.output, G.size, fun k hk hn => G.old k (by
    apply Nat.lt_of_not_le
    intro hle
    exact hn (List.mem_append_left _ (List.mem_filter.2 ⟨List.mem_range.2 hk, by simpa using hle⟩))) (fun e => hn (List.mem_append_right _ (by simp [e])))⟩ fun k hk hm => by
    have h1 := hb k hk
    rcases List.mem_append.1 hm with h2 | h2
    · have := (List.mem_filter.1 h2).2
      simp only [decide_eq_true_eq] at this
      omega
    · rw [List.mem_singleton] at h2
      exact h1.2 h2
theorem BelB.aft (h : BelB B g w x) (G : GroS S v w) (hv : v.heap.size ≤ B) (hg : v.heap.size ≤ g) : GroS S v x :=
  ⟨h.os.trans G.os, h.tape.trans G.tape, h.output.trans G.output, Nat.le_trans G.size h.size, fun k hk hn => (h.old k (by omega) (by omega)).trans (G.old k hk hn)⟩
end
set_option maxRecDepth 100000 in
set_option maxHeartbeats 4000000 in
theorem side_any (w : World) (g : Nat) (T0 : Tn) (B : Nat) (hB : B ≤ w.heap.size) (ao0 : Option Addr) (c0 : Nat) (H0 : List Hp) (bo0 : Option Addr) (d0 : Nat) (kg : w.heap[g]? = some (.cells (tnA ao0 H0.length c0 bo0 (T0.lost).length d0) 38 (0, 0))) (HO : TnP w B T0 ao0 c0 H0 bo0 d0) (n : Int) (hni : I64 n) (p : Pa) (hp : p.ok) (hlo : T0.out.length ≤ 100000) (hll : T0.lost.length ≤ 100000) : Calls Try.prog 31 #[.pointer (some ⟨g, 0, none⟩), .int .i64 n, .agg (paA p)] w (SideP w B g (appT T0 (sideT n p))) := by
  refine s_enter Try.func31 rfl Try.ntmps31 [.pointer (some ⟨g, 0, none⟩), .int .i64 n, .agg (paA p)] [.pointer (some ⟨g, 0, none⟩), .int .i64 n, .agg (paA p), undef, undef, undef, undef, undef, undef, undef, undef, undef, undef, undef, undef, undef, undef, undef, undef, undef, undef, undef, undef, undef, undef, undef, undef, undef, undef, undef, undef] rfl ?_
  have GG := BelB.refl (b := g) hB
  have hHl := HO.len
  refine wp_seq ?_
  refine wp_region_lit ?_
  refine s_box 5 rfl rfl 26 _ rfl _ rfl (paA p) rfl ?_
  intro w1 g1 G eg1 kg1
  have hn2 : g1 ∉ Go.Proofs.Ytmpnepbmpmkmkaa.blk bo0 := fun hm9 => by have := HO.lost.own.lt g1 hm9; omega
  have bg1 := size_basB GG eg1
  have dgg1 := lt_new kg eg1
  replace kg := G.has kg
  replace HO := HO.gro G
  replace GG := GG.tg G
  clear G
  clear eg1
  refine nr ?_; intro U h; simp only [z0, z1] at h; subst h
  refine wpList_nil ?_
  refine then_n ?_
  refine wp_seq ?_
  refine wp_seq ?_
  refine wp_region_lit ?_
  refine s_val 6 rfl rfl (.int .i64 n) (rfl) ?_
  refine nr ?_; intro U h; simp only [z0, z1] at h; subst h
  cases hn : decide (n < 0)
  · refine s_val 7 rfl rfl (.bool false) (run_lssT 3 _ _ _ rfl n 0 rfl rfl false hn _) ?_
    refine nr ?_; intro U h; simp only [z0, z1] at h; subst h
    refine wpList_nil ?_
    refine then_n ?_
    refine wp_cond_false rfl ?_
    refine wp_skip ?_
    refine then_n ?_
    obtain ⟨SZ, hSZ⟩ : ∃ m, w1.heap.size = m := ⟨_, rfl⟩
    refine wp_region_pg (A := ?Ax5) (Go.Proofs.Ytmpnepbmpmkmkaa.blk ao0) 13 [(0, 18), (1, 19), (2, 20), (3, 21), (4, 22), (5, 23), (6, 24), (7, 25), (8, 26), (9, 27), (10, 28), (11, 29), (12, 30)] [.val (.pointer (some ⟨g, 0, none⟩)), .val (.pointer (some ⟨g, 0, none⟩)), .val (.pointer (some ⟨g, 0, none⟩)), .val (.pointer (some ⟨g, 0, none⟩)), .val (.slice ao0 H0.length c0), .val (.int .i64 n), .val (.agg (paA p)), .val (.agg (frA (frY (mDrop p) none 0 gN))), .val (.agg (hopA (hpN n p).n (hpN n p).fr)), hrowE SZ n p, appE B H0 n p, .val (.pointer (some ⟨g, 0, none⟩)), .val (.pointer (some ⟨g, 0, none⟩))] 10 follows (by kernel_rfl) rfl (by decide) (hav_mix [0, 1, 2, 3, 4, 5, 6, 7, 8, 11, 12] [9] (by decide) ⟨⟨_, rfl⟩, ⟨_, rfl⟩, ⟨_, rfl⟩, ⟨_, rfl⟩, ⟨_, rfl⟩, ⟨_, rfl⟩, ⟨_, rfl⟩, ⟨_, rfl⟩, ⟨_, rfl⟩, ⟨_, rfl⟩, ⟨_, rfl⟩, trivial⟩ ?hvx5) ?hAx5 (opsG_a (by decide) ?o0x5 (opsG_a (by decide) ?o1x5 (opsG_a (by decide) ?o2x5 (opsG_a (by decide) ?o3x5 (opsG_a (by decide) ?o4x5 (opsG_a (by decide) ?o5x5 (opsG_a (by decide) ?o6x5 (opsG_a (by decide) ?o7x5 (opsG_a (by decide) ?o8x5 (opsG_a (by decide) ?o9x5 (opsG_e ?o10x5 (opsG_a (by decide) ?o11x5 (opsG_a (by decide) ?o12x5 opsG_nil))))))))))))) ?restx5
    case hvx5 =>
      intro j hj v a b9 ha hb9 hp9
      rw [List.mem_singleton] at hj
      subst hj
      obtain ⟨h, q9, h1, h2, h3, h4⟩ := hp9
      exact ⟨h, q9, h1, h2, hb9.has h3 (fun hm9 => by have := HO.out.own.lt q9 hm9; omega), h4⟩
    case hAx5 =>
      intro ptrs
      simp only [full, foldSlots, filledE, postE, List.foldl_cons, List.foldl_nil, List.getD_cons_zero, List.getD_cons_succ, fill_val, fill_hrowE, fill_appE, List.set_cons_zero, List.set_cons_succ]
      exact rfl
    case o0x5 => exact fun _ _ _ _ => opE_move (v := .pointer (some ⟨g, 0, none⟩)) _ rfl rfl rfl
    case o1x5 => exact fun _ _ _ _ => opE_move (v := .pointer (some ⟨g, 0, none⟩)) _ rfl rfl rfl
    case o2x5 => exact fun _ _ _ _ => opE_value (v := .pointer (some ⟨g, 0, none⟩)) rfl (run_nc _ rfl _ rfl)
    case o3x5 => exact fun _ _ _ _ => opE_value (v := .pointer (some ⟨g, 0, none⟩)) rfl (run_fld 38 _ 0 rfl g 0 rfl 0 (by kernel_rfl))
    case o4x5 => exact fun _ _ hw _ => opE_value (v := .slice ao0 H0.length c0) rfl (ldQ_o _ rfl g rfl (hw.has kg (HO.out.own.ne kg (by decide))))
    case o5x5 => exact fun _ _ _ _ => opE_move (v := .int .i64 n) _ rfl rfl rfl
    case o6x5 => exact fun _ _ hw _ => opE_value (v := .agg (paA p)) rfl (ldP0 _ rfl g1 rfl (hw.has kg1 (HO.out.own.ne kg1 (by decide))))
    case o7x5 => exact fun _ _ _ _ => opE_value (v := .agg (frA (frY (mDrop p) none 0 gN))) rfl (run_bd 65 _ rfl [(0, .int .i64 5), (1, .agg (paA p))] rfl _ (bdF5 _ _))
    case o8x5 => exact fun _ _ _ _ => opE_value (v := .agg (hopA (hpN n p).n (hpN n p).fr)) rfl (run_bd 67 _ rfl [(0, .int .i64 n), (1, .agg (frA (frY (mDrop p) none 0 gN)))] rfl _ (bdH2 _ _ _))
    case o9x5 => exact fun _ _ hw _ => opE_new (hrowE SZ n p) rfl (run_bsl 31 1 _ rfl [(0, .agg (hopA (hpN n p).n (hpN n p).fr))] rfl (bsHp (hpN n p) _)) (gro_alloc _ _) ⟨hpN n p, _, rfl, Nat.le_trans (Nat.le_of_eq hSZ.symm) hw.size, heap_alloc_new _ _, hpN_ok hni hp, rfl⟩
    case o10x5 =>
      intro ptrs x hw hE
      obtain ⟨⟨h, q9, h8, _, k9, hok, hkey⟩, _⟩ := hE
      refine opX_appK rH (appE B H0 n p) rfl _ _ rfl rfl (HO.out.gro ((Gro.refl _).drew.trans hw)) (l' := [h]) (by exact h8) (RK.blk (K := kH) k9 (one_all hok) (Nat.le_refl _)) (by show (_ + 1) * 272 ≤ _; omega) (by decide) (Nat.le_trans (Nat.le_trans GG.hB GG.size) hw.size) ?_
      intro ao2 c2 w9 HO2 _ _
      exact ⟨h, ao2, c2, rfl, HO2, hkey⟩
    case o11x5 => exact fun _ _ _ _ => opE_value (v := .pointer (some ⟨g, 0, none⟩)) rfl (run_nc _ rfl _ rfl)
    case o12x5 => exact fun _ _ _ _ => opE_value (v := .pointer (some ⟨g, 0, none⟩)) rfl (run_fld 38 _ 0 rfl g 0 rfl 0 (by kernel_rfl))
    intro ptrs w2 GD hxE
    simp only [List.drop_succ_cons, List.drop_zero]
    obtain ⟨_, ⟨h9, ao9, c9, hx9, HO2, hkey⟩, _⟩ := hxE
    simp only [hx9]
    replace kg := GD.has kg (HO.out.own.ne kg (by decide))
    replace kg1 := GD.has kg1 (HO.out.own.ne kg1 (by decide))
    replace GG := GG.drew.gs GD (fun k hk => .inl (HO.out.own.base k hk))
    replace HO := (HO.gro (Gro.refl _).drew).appO hkey HO2 GD
    clear hx9 HO2 GD hSZ
    refine s_store rfl rfl 31 _ _ rfl g 0 rfl (.slice ao9 (H0 ++ [h9]).length c9) rfl 38 _ kg #[.slice ao9 (H0 ++ [h9]).length c9] rfl (siRH) (by show 0 + 1 ≤ 2; omega) (sl_one _ _ _) (tnA ao9 (H0 ++ [h9]).length c9 bo0 (T0.lost).length d0) (spT_0 _ _ _ _ _ _ _ _ _) ?_
    intro w3 St
    have kS := kg
    replace kg1 := St.has (by omega) kg1
    replace HO := HO.st St kS (by decide) (by decide)
    replace GG := GG.st St (.inr rfl)
    replace kg := St.new
    clear St
    refine wpList_nil ?_
    refine post_n (results_none Try.results31 _ _ _) rfl ?_
    rw [appT_out (of_decide_eq_false hn)]
    exact ⟨ao9, c9, (H0 ++ [h9]), bo0, d0, rfl, kg, HO, GG⟩
  · refine s_val 7 rfl rfl (.bool true) (run_lssT 3 _ _ _ rfl n 0 rfl rfl true hn _) ?_
    refine nr ?_; intro U h; simp only [z0, z1] at h; subst h
    refine wpList_nil ?_
    refine then_n ?_
    refine wp_cond_true rfl ?_
    refine wp_seq ?_
    obtain ⟨SZ, hSZ⟩ : ∃ m, w1.heap.size = m := ⟨_, rfl⟩
    refine wp_region_pg (A := ?Ax6) (Go.Proofs.Ytmpnepbmpmkmkaa.blk bo0) 10 [(0, 8), (1, 9), (2, 10), (3, 11), (4, 12), (5, 13), (6, 14), (7, 15), (8, 16), (9, 17)] [.val (.pointer (some ⟨g, 0, none⟩)), .val (.pointer (some ⟨g, 0, none⟩)), .val (.pointer (some ⟨g, 0, none⟩)), .val (.pointer (some ⟨g, 1, none⟩)), .val (.slice bo0 (T0.lost).length d0), .val (.agg (paA p)), hrowP SZ p, appP B SZ bo0 T0.lost p, .val (.pointer (some ⟨g, 0, none⟩)), .val (.pointer (some ⟨g, 1, none⟩))] 7 follows (by kernel_rfl) rfl (by decide) (hav_mix [0, 1, 2, 3, 4, 5, 8, 9] [6] (by decide) ⟨⟨_, rfl⟩, ⟨_, rfl⟩, ⟨_, rfl⟩, ⟨_, rfl⟩, ⟨_, rfl⟩, ⟨_, rfl⟩, ⟨_, rfl⟩, ⟨_, rfl⟩, trivial⟩ ?hvx6) ?hAx6 (opsG_a (by decide) ?o0x6 (opsG_a (by decide) ?o1x6 (opsG_a (by decide) ?o2x6 (opsG_a (by decide) ?o3x6 (opsG_a (by decide) ?o4x6 (opsG_a (by decide) ?o5x6 (opsG_a (by decide) ?o6x6 (opsG_e ?o7x6 (opsG_a (by decide) ?o8x6 (opsG_a (by decide) ?o9x6 opsG_nil)))))))))) ?restx6
    case hvx6 =>
      intro j hj v a b9 ha hb9 hp9
      rw [List.mem_singleton] at hj
      subst hj
      obtain ⟨q9, h1, h2, h3⟩ := hp9
      exact ⟨q9, h1, h2, hb9.has h3 (fun hm9 => by have := HO.lost.own.lt q9 hm9; omega)⟩
    case hAx6 =>
      intro ptrs
      simp only [full, foldSlots, filledE, postE, List.foldl_cons, List.foldl_nil, List.getD_cons_zero, List.getD_cons_succ, fill_val, fill_hrowP, fill_appP, List.set_cons_zero, List.set_cons_succ]
      exact rfl
    case o0x6 => exact fun _ _ _ _ => opE_move (v := .pointer (some ⟨g, 0, none⟩)) _ rfl rfl rfl
    case o1x6 => exact fun _ _ _ _ => opE_move (v := .pointer (some ⟨g, 0, none⟩)) _ rfl rfl rfl
    case o2x6 => exact fun _ _ _ _ => opE_value (v := .pointer (some ⟨g, 0, none⟩)) rfl (run_nc _ rfl _ rfl)
    case o3x6 => exact fun _ _ _ _ => opE_value (v := .pointer (some ⟨g, 1, none⟩)) rfl (run_fld 38 _ 1 rfl g 0 rfl 1 (by kernel_rfl))
    case o4x6 => exact fun _ _ hw _ => opE_value (v := .slice bo0 (T0.lost).length d0) rfl (ldQ_l _ rfl g rfl (hw.has kg (HO.lost.own.ne kg (by decide))))
    case o5x6 => exact fun _ _ hw _ => opE_value (v := .agg (paA p)) rfl (ldP0 _ rfl g1 rfl (hw.has kg1 hn2))
    case o6x6 => exact fun _ _ hw _ => opE_new (hrowP SZ p) rfl (run_bsl 32 1 _ rfl [(0, .agg (paA p))] rfl (bsPp p _)) (gro_alloc _ _) ⟨_, rfl, Nat.le_trans (Nat.le_of_eq hSZ.symm) hw.size, heap_alloc_new _ _⟩
    case o7x6 =>
      intro ptrs x hw hE
      obtain ⟨⟨q9, h8, _, k9⟩, _⟩ := hE
      refine opX_appK rP (appP B SZ bo0 T0.lost p) rfl _ _ rfl rfl (HO.lost.gro ((Gro.refl _).drew.trans hw)) (l' := [p]) (by exact h8) (RK.blk (K := kP) k9 (one_all hp) (Nat.le_refl _)) (by show (_ + 1) * 24 ≤ _; omega) (by decide) (Nat.le_trans (Nat.le_trans GG.hB GG.size) hw.size) ?_
      intro ao2 c2 w9 HO2 _ hK
      exact ⟨ao2, c2, rfl, HO2, fun k hk => (hK k hk).imp id (fun h => Nat.le_trans (Nat.le_trans (Nat.le_of_eq hSZ.symm) hw.size) h)⟩
    case o8x6 => exact fun _ _ _ _ => opE_value (v := .pointer (some ⟨g, 0, none⟩)) rfl (run_nc _ rfl _ rfl)
    case o9x6 => exact fun _ _ _ _ => opE_value (v := .pointer (some ⟨g, 1, none⟩)) rfl (run_fld 38 _ 1 rfl g 0 rfl 1 (by kernel_rfl))
    intro ptrs w2 GD hxE
    simp only [List.drop_succ_cons, List.drop_zero]
    obtain ⟨_, ⟨bo9, d9, hx9, HO2, hK⟩, _⟩ := hxE
    simp only [hx9]
    replace kg := GD.has kg (HO.lost.own.ne kg (by decide))
    replace kg1 := GD.has kg1 hn2
    replace GG := GG.drew.gs GD (fun k hk => .inl (HO.lost.own.base k hk))
    replace HO := (HO.gro (Gro.refl _).drew).appL HO2 GD
    clear hx9 HO2 GD hSZ
    refine s_store rfl rfl 32 _ _ rfl g 1 rfl (.slice bo9 (T0.lost ++ [p]).length d9) rfl 38 _ kg #[.slice bo9 (T0.lost ++ [p]).length d9] rfl (siRP) (by show 1 + 1 ≤ 2; omega) (sl_one _ _ _) (tnA ao0 H0.length c0 bo9 (T0.lost ++ [p]).length d9) (spT_1 _ _ _ _ _ _ _ _ _) ?_
    intro w3 St
    have kS := kg
    replace kg1 := St.has (by omega) kg1
    replace HO := HO.st St kS (by decide) (by decide)
    replace GG := GG.st St (.inr rfl)
    replace kg := St.new
    clear St
    refine wpList_nil ?_
    refine then_n ?_
    refine wp_ret ?_
    refine then_r ?_
    refine bodyPost_ret (results_none Try.results31 _ _ _) rfl ?_
    rw [appT_lost (of_decide_eq_true hn)]
    exact ⟨ao0, c0, H0, bo9, d9, rfl, kg, HO, GG⟩
set_option maxRecDepth 100000 in
set_option maxHeartbeats 4000000 in
theorem rend_any (w : World) (r most : Nat) (ra : Option Addr) (rc : Nat) (L : List En) (kr : w.heap[r]? = some (.cells (rbA ra L.length rc most) 43 (0, 0))) (HL : OE w 0 ra rc L) (hLb : L.length ≤ 1000) (hk : KN L) (p : Pa) (hp : p.ok) : Calls Try.prog 17 #[.pointer (some ⟨r, 0, none⟩), .agg (paA p)] w (TornR w r most (endT L p) (endL L p)) := by
  refine s_enter Try.func17 rfl Try.ntmps17 [.pointer (some ⟨r, 0, none⟩), .agg (paA p)] [.pointer (some ⟨r, 0, none⟩), .agg (paA p), undef, undef, undef, undef, undef, undef, undef, undef, undef, undef, undef, undef, undef, undef, undef, undef, undef, undef, undef, undef, undef, undef, undef, undef, undef, undef, undef, undef, undef, undef, undef, undef, undef, undef, undef, undef, undef] rfl ?_
  have GG := GroS.refl [r] w
  have hgo := getV_ok HL.all p
  refine wp_seq ?_
  refine wp_region_lit ?_
  refine s_box 3 rfl rfl 26 _ rfl _ rfl (paA p) rfl ?_
  intro w1 g1 G eg1 kg1
  have bg1 := size_basS GG eg1
  have drg1 := lt_new kr eg1
  have dHLg1 := HL.ne eg1
  replace kr := G.has kr
  replace HL := HL.gro G
  replace GG := GG.tg G
  clear G
  clear eg1
  refine nr ?_; intro U h; simp only [z0, z1] at h; subst h
  refine s_alloc 4 rfl rfl 38 rfl _ zvQ (tnA none 0 0 none 0 0) rfl ?_
  intro w2 g2 G eg2 kg2
  have bg2 := size_basS GG eg2
  have drg2 := lt_new kr eg2
  have dg1g2 := lt_new kg1 eg2
  have dHLg2 := HL.ne eg2
  replace kr := G.has kr
  replace kg1 := G.has kg1
  replace HL := HL.gro G
  replace GG := GG.tg G
  clear G
  clear eg2
  refine nr ?_; intro U h; simp only [z0, z1] at h; subst h
  refine wpList_nil ?_
  refine then_n ?_
  refine wp_seq ?_
  refine wp_region_lit ?_
  refine s_alloc 5 rfl rfl 38 rfl _ zvQ (tnA none 0 0 none 0 0) rfl ?_
  intro w3 g3 G eg3 kg3
  have bg3 := size_basS GG eg3
  have drg3 := lt_new kr eg3
  have dg1g3 := lt_new kg1 eg3
  have dg2g3 := lt_new kg2 eg3
  have dHLg3 := HL.ne eg3
  replace kr := G.has kr
  replace kg1 := G.has kg1
  replace kg2 := G.has kg2
  replace HL := HL.gro G
  replace GG := GG.tg G
  clear G
  clear eg3
  refine nr ?_; intro U h; simp only [z0, z1] at h; subst h
  refine wpList_nil ?_
  refine then_n ?_
  refine wp_seq ?_
  cases hh : decide (hasL L p = true)
  · refine wp_region_lit ?_
    refine s_val 9 rfl rfl (.pointer (some ⟨r, 0, none⟩)) (rfl) ?_
    refine nr ?_; intro U h; simp only [z0, z1] at h; subst h
    refine s_val 10 rfl rfl (.agg (paA p)) (ldP0 _ rfl g1 rfl (kg1)) ?_
    refine nr ?_; intro U h; simp only [z0, z1] at h; subst h
    refine s_callv 11 rfl rfl _ 29 Try.call29 rfl rfl _ rfl [.pointer (some ⟨r, 0, none⟩), .agg (paA p)] rfl (rget_b _ r most ra rc L (kr) (HL) hLb hk p hp false (Bool.eq_false_iff.2 (of_decide_eq_false hh))) ?_
    intro w4 G
    replace kr := G.has kr
    replace kg1 := G.has kg1
    replace kg2 := G.has kg2
    replace kg3 := G.has kg3
    replace HL := HL.gro G
    replace GG := GG.tg G
    clear G
    refine nr ?_; intro U h; simp only [z0, z1] at h; subst h
    refine s_val 8 rfl rfl (.tuple #[.agg (enA (getV L p)), .bool false]) (rfl) ?_
    refine nr ?_; intro U h; simp only [z0, z1] at h; subst h
    refine s_val 12 rfl rfl (.agg (enA (getV L p))) (rfl) ?_
    refine nr ?_; intro U h; simp only [z0, z1] at h; subst h
    refine s_val 13 rfl rfl (.bool false) (rfl) ?_
    refine nr ?_; intro U h; simp only [z0, z1] at h; subst h
    refine s_alloc 6 rfl rfl 52 rfl _ zero33 (enA zE) rfl ?_
    intro w5 g4 G eg4 kg4
    have bg4 := size_basS GG eg4
    have drg4 := lt_new kr eg4
    have dg1g4 := lt_new kg1 eg4
    have dg2g4 := lt_new kg2 eg4
    have dg3g4 := lt_new kg3 eg4
    have dHLg4 := HL.ne eg4
    replace kr := G.has kr
    replace kg1 := G.has kg1
    replace kg2 := G.has kg2
    replace kg3 := G.has kg3
    replace HL := HL.gro G
    replace GG := GG.tg G
    clear G
    clear eg4
    refine nr ?_; intro U h; simp only [z0, z1] at h; subst h
    refine s_store rfl rfl 52 _ _ rfl g4 0 rfl (.agg (enA (getV L p))) rfl 52 _ kg4 (enA (getV L p)) rfl (si33' _) (enA_fit _ _) (enA_one _) (enA (getV L p)) (splice_whole _ _ (enA_sz _ _)) ?_
    intro w6 St
    have kS := kg4
    replace kr := St.has (by omega) kr
    replace kg1 := St.has (by omega) kg1
    replace kg2 := St.has (by omega) kg2
    replace kg3 := St.has (by omega) kg3
    replace HL := HL.st St dHLg4
    replace GG := GG.st St (.inl bg4)
    replace kg4 := St.new
    clear St
    refine s_val 7 rfl rfl (.bool false) (rfl) ?_
    refine nr ?_; intro U h; simp only [z0, z1] at h; subst h
    refine wpList_nil ?_
    refine then_n ?_
    refine wp_seq ?_
    refine wp_seq ?_
    refine wp_region_opq ?_
    intro OPS hY
    have y2 := hY 2 16 rfl
    have y6 := hY 6 20 rfl
    clear hY
    refine s_val 14 rfl rfl (.bool false) (rfl) ?_
    refine nr ?_; intro U h; simp only [z0, z1] at h; subst h
    refine s_val 15 rfl rfl (.bool true) (run_nt _ _ rfl false rfl) ?_
    refine nr ?_; intro U h; simp only [z0, z1] at h; subst h
    refine s_val 16 rfl rfl (.bool true) (rfl) ?_
    refine nr ?_; intro U h; simp only [z0, z1] at h; subst h
    refine s_skipY 17 rfl rfl y2 rfl ?_
    refine nr ?_; intro U h; simp only [z0, z1] at h; subst h
    refine s_skipY 18 rfl rfl y2 rfl ?_
    refine nr ?_; intro U h; simp only [z0, z1] at h; subst h
    refine s_skipY 19 rfl rfl y2 rfl ?_
    refine nr ?_; intro U h; simp only [z0, z1] at h; subst h
    refine s_skipY 20 rfl rfl y2 rfl ?_
    refine nr ?_; intro U h; simp only [z0, z1] at h; subst h
    refine s_skipY 21 rfl rfl y6 rfl ?_
    refine nr ?_; intro U h; simp only [z0, z1] at h; subst h
    refine s_skipY 22 rfl rfl y6 rfl ?_
    refine nr ?_; intro U h; simp only [z0, z1] at h; subst h
    refine s_skipY 23 rfl rfl y6 rfl ?_
    refine nr ?_; intro U h; simp only [z0, z1] at h; subst h
    refine s_skipY 24 rfl rfl y2 rfl ?_
    refine nr ?_; intro U h; simp only [z0, z1] at h; subst h
    refine s_val 25 rfl rfl (.bool true) (rfl) ?_
    refine nr ?_; intro U h; simp only [z0, z1] at h; subst h
    refine wpList_nil ?_
    refine then_n ?_
    refine wp_cond_true rfl ?_
    refine wp_seq ?_
    refine wp_region_lit ?_
    refine s_val 26 rfl rfl (.agg (tnA none 0 0 none 0 0)) (ldQ_0 _ rfl g3 rfl (kg3)) ?_
    refine nr ?_; intro U h; simp only [z0, z1] at h; subst h
    refine s_store rfl rfl 38 _ _ rfl g2 0 rfl (.agg (tnA none 0 0 none 0 0)) rfl 38 _ kg2 (tnA none 0 0 none 0 0) rfl (siQ) (Nat.le_refl _) (oneT _ _ _ _ _ _) (tnA none 0 0 none 0 0) (splice_whole _ _ (rfl)) ?_
    intro w7 St
    have kS := kg2
    replace kr := St.has (by omega) kr
    replace kg1 := St.has (by omega) kg1
    replace kg3 := St.has (by omega) kg3
    replace kg4 := St.has (by omega) kg4
    replace HL := HL.st St dHLg2
    replace GG := GG.st St (.inl bg2)
    replace kg2 := St.new
    clear St
    refine wpList_nil ?_
    refine then_n ?_
    refine wp_ret ?_
    refine then_r ?_
    refine bodyPost_ret (results_cell_row Try.results17 _ _ g2 38 _ (0, 0) _ rfl kg2 Try.underlying38 rfl (siQ)) rfl ?_
    have hz := ends_not (Bool.eq_false_iff.2 (of_decide_eq_false hh))
    rw [(end_no hz).1, (end_no hz).2]
    exact ⟨none, 0, [], none, 0, rfl, TnP.nil _ _, ra, rc, kr, HL, GG⟩
  · refine wp_region_lit ?_
    refine s_val 9 rfl rfl (.pointer (some ⟨r, 0, none⟩)) (rfl) ?_
    refine nr ?_; intro U h; simp only [z0, z1] at h; subst h
    refine s_val 10 rfl rfl (.agg (paA p)) (ldP0 _ rfl g1 rfl (kg1)) ?_
    refine nr ?_; intro U h; simp only [z0, z1] at h; subst h
    refine s_callv 11 rfl rfl _ 29 Try.call29 rfl rfl _ rfl [.pointer (some ⟨r, 0, none⟩), .agg (paA p)] rfl (rget_b _ r most ra rc L (kr) (HL) hLb hk p hp true (of_decide_eq_true hh)) ?_
    intro w4 G
    replace kr := G.has kr
    replace kg1 := G.has kg1
    replace kg2 := G.has kg2
    replace kg3 := G.has kg3
    replace HL := HL.gro G
    replace GG := GG.tg G
    clear G
    refine nr ?_; intro U h; simp only [z0, z1] at h; subst h
    refine s_val 8 rfl rfl (.tuple #[.agg (enA (getV L p)), .bool true]) (rfl) ?_
    refine nr ?_; intro U h; simp only [z0, z1] at h; subst h
    refine s_val 12 rfl rfl (.agg (enA (getV L p))) (rfl) ?_
    refine nr ?_; intro U h; simp only [z0, z1] at h; subst h
    refine s_val 13 rfl rfl (.bool true) (rfl) ?_
    refine nr ?_; intro U h; simp only [z0, z1] at h; subst h
    refine s_alloc 6 rfl rfl 52 rfl _ zero33 (enA zE) rfl ?_
    intro w5 g4 G eg4 kg4
    have bg4 := size_basS GG eg4
    have drg4 := lt_new kr eg4
    have dg1g4 := lt_new kg1 eg4
    have dg2g4 := lt_new kg2 eg4
    have dg3g4 := lt_new kg3 eg4
    have dHLg4 := HL.ne eg4
    replace kr := G.has kr
    replace kg1 := G.has kg1
    replace kg2 := G.has kg2
    replace kg3 := G.has kg3
    replace HL := HL.gro G
    replace GG := GG.tg G
    clear G
    clear eg4
    refine nr ?_; intro U h; simp only [z0, z1] at h; subst h
    refine s_store rfl rfl 52 _ _ rfl g4 0 rfl (.agg (enA (getV L p))) rfl 52 _ kg4 (enA (getV L p)) rfl (si33' _) (enA_fit _ _) (enA_one _) (enA (getV L p)) (splice_whole _ _ (enA_sz _ _)) ?_
    intro w6 St
    have kS := kg4
    replace kr := St.has (by omega) kr
    replace kg1 := St.has (by omega) kg1
    replace kg2 := St.has (by omega) kg2
    replace kg3 := St.has (by omega) kg3
    replace HL := HL.st St dHLg4
    replace GG := GG.st St (.inl bg4)
    replace kg4 := St.new
    clear St
    refine s_val 7 rfl rfl (.bool true) (rfl) ?_
    refine nr ?_; intro U h; simp only [z0, z1] at h; subst h
    refine wpList_nil ?_
    refine then_n ?_
    refine wp_seq ?_
    refine wp_seq ?_
    refine wp_region_opq ?_
    intro OPS hY
    have y2 := hY 2 16 rfl
    have y6 := hY 6 20 rfl
    clear hY
    refine s_val 14 rfl rfl (.bool true) (rfl) ?_
    refine nr ?_; intro U h; simp only [z0, z1] at h; subst h
    refine s_val 15 rfl rfl (.bool false) (run_nt _ _ rfl true rfl) ?_
    refine nr ?_; intro U h; simp only [z0, z1] at h; subst h
    refine s_val 16 rfl rfl (.bool false) (rfl) ?_
    refine nr ?_; intro U h; simp only [z0, z1] at h; subst h
    refine s_gvalY 17 rfl rfl y2 rfl (.pointer (some ⟨g4, 49, none⟩)) (run_fld 52 _ 3 rfl g4 0 rfl 49 (by kernel_rfl)) ?_
    refine nr ?_; intro U h; simp only [z0, z1] at h; subst h
    refine s_gvalY 18 rfl rfl y2 rfl (.int .i64 (getV L p).na) (ldEna _ rfl g4 rfl (kg4)) ?_
    refine nr ?_; intro U h; simp only [z0, z1] at h; subst h
    cases h1 : decide ((getV L p).na = -1)
    · refine s_gvalY 19 rfl rfl y2 rfl (.bool true) (run_neq_k 3 .i64 _ _ _ rfl Try.underlying3 (getV L p).na (-1) rfl rfl true h1 _) ?_
      refine nr ?_; intro U h; simp only [z0, z1] at h; subst h
      refine s_gvalY 20 rfl rfl y2 rfl (.bool true) (rfl) ?_
      refine nr ?_; intro U h; simp only [z0, z1] at h; subst h
      refine s_gvalY 21 rfl rfl y6 rfl (.pointer (some ⟨g4, 50, none⟩)) (run_fld 52 _ 4 rfl g4 0 rfl 50 (by kernel_rfl)) ?_
      refine nr ?_; intro U h; simp only [z0, z1] at h; subst h
      refine s_gvalY 22 rfl rfl y6 rfl (.int .i64 (getV L p).nb) (ldEnb _ rfl g4 rfl (kg4)) ?_
      refine nr ?_; intro U h; simp only [z0, z1] at h; subst h
      cases h2 : decide ((getV L p).nb = -1)
      · refine s_gvalY 23 rfl rfl y6 rfl (.bool true) (run_neq_k 3 .i64 _ _ _ rfl Try.underlying3 (getV L p).nb (-1) rfl rfl true h2 _) ?_
        refine nr ?_; intro U h; simp only [z0, z1] at h; subst h
        refine s_gvalY 24 rfl rfl y2 rfl (.bool true) (rfl) ?_
        refine nr ?_; intro U h; simp only [z0, z1] at h; subst h
        refine s_val 25 rfl rfl (.bool true) (rfl) ?_
        refine nr ?_; intro U h; simp only [z0, z1] at h; subst h
        refine wpList_nil ?_
        refine then_n ?_
        refine wp_cond_true rfl ?_
        refine wp_seq ?_
        refine wp_region_lit ?_
        refine s_val 26 rfl rfl (.agg (tnA none 0 0 none 0 0)) (ldQ_0 _ rfl g3 rfl (kg3)) ?_
        refine nr ?_; intro U h; simp only [z0, z1] at h; subst h
        refine s_store rfl rfl 38 _ _ rfl g2 0 rfl (.agg (tnA none 0 0 none 0 0)) rfl 38 _ kg2 (tnA none 0 0 none 0 0) rfl (siQ) (Nat.le_refl _) (oneT _ _ _ _ _ _) (tnA none 0 0 none 0 0) (splice_whole _ _ (rfl)) ?_
        intro w7 St
        have kS := kg2
        replace kr := St.has (by omega) kr
        replace kg1 := St.has (by omega) kg1
        replace kg3 := St.has (by omega) kg3
        replace kg4 := St.has (by omega) kg4
        replace HL := HL.st St dHLg2
        replace GG := GG.st St (.inl bg2)
        replace kg2 := St.new
        clear St
        refine wpList_nil ?_
        refine then_n ?_
        refine wp_ret ?_
        refine then_r ?_
        refine bodyPost_ret (results_cell_row Try.results17 _ _ g2 38 _ (0, 0) _ rfl kg2 Try.underlying38 rfl (siQ)) rfl ?_
        have hz := ends_no (L := L) (p := p) h1 h2
        rw [(end_no hz).1, (end_no hz).2]
        exact ⟨none, 0, [], none, 0, rfl, TnP.nil _ _, ra, rc, kr, HL, GG⟩
      · refine s_gvalY 23 rfl rfl y6 rfl (.bool false) (run_neq_k 3 .i64 _ _ _ rfl Try.underlying3 (getV L p).nb (-1) rfl rfl false h2 _) ?_
        refine nr ?_; intro U h; simp only [z0, z1] at h; subst h
        refine s_gvalY 24 rfl rfl y2 rfl (.bool false) (rfl) ?_
        refine nr ?_; intro U h; simp only [z0, z1] at h; subst h
        refine s_val 25 rfl rfl (.bool false) (rfl) ?_
        refine nr ?_; intro U h; simp only [z0, z1] at h; subst h
        refine wpList_nil ?_
        refine then_n ?_
        refine wp_cond_false rfl ?_
        refine wp_skip ?_
        refine then_n ?_
        refine wp_seq ?_
        refine wp_region_lit ?_
        refine s_val 27 rfl rfl (.pointer (some ⟨r, 0, none⟩)) (rfl) ?_
        refine nr ?_; intro U h; simp only [z0, z1] at h; subst h
        refine s_val 28 rfl rfl (.agg (paA p)) (ldP0 _ rfl g1 rfl (kg1)) ?_
        refine nr ?_; intro U h; simp only [z0, z1] at h; subst h
        refine s_callx 29 rfl rfl _ 30 Try.call30 rfl rfl _ rfl [.pointer (some ⟨r, 0, none⟩), .agg (paA p)] rfl (rrem_any _ r most ra rc L (kr) (HL) hLb hk p hp) (by rintro _ _ ⟨he, _⟩; exact ⟨_, he⟩) ?_
        rintro v w7 ⟨he, ra1, rc1, kr2, HL2, G2⟩
        cases he
        replace kg1 := G2.has kg1 (ne_cells kg1 kr (by decide))
        replace kg2 := G2.has kg2 (ne_cells kg2 kr (by decide))
        replace kg3 := G2.has kg3 (ne_cells kg3 kr (by decide))
        replace kg4 := G2.has kg4 (ne_cells kg4 kr (by decide))
        replace GG := GG.trans G2
        clear kr HL G2
        have kr := kr2
        have HL := HL2
        clear kr2 HL2
        refine nr ?_; intro U h; simp only [z0, z1] at h; subst h
        obtain ⟨B, hB⟩ : ∃ m, w7.heap.size = m := ⟨_, rfl⟩
        have zr : r < B := hB ▸ lt_of_heap kr
        have zg1 : g1 < B := hB ▸ lt_of_heap kg1
        have zg2 : g2 < B := hB ▸ lt_of_heap kg2
        have zg3 : g3 < B := hB ▸ lt_of_heap kg3
        have zg4 : g4 < B := hB ▸ lt_of_heap kg4
        have HZ : SZ B w7 := Nat.le_of_eq hB.symm
        have hwB : w.heap.size ≤ B := hB ▸ GG.size
        have hzl : ∀ k ∈ Go.Proofs.Ytmpnepbmpmkmkaa.blk ra1, k < B := fun k hk => hB ▸ HL.own.lt k hk
        have dHZg1 : True := trivial
        have dHLg1 := HL.own.ne kg1 (by decide)
        have dHZg2 : True := trivial
        have dHLg2 := HL.own.ne kg2 (by decide)
        have dHZg3 : True := trivial
        have dHLg3 := HL.own.ne kg3 (by decide)
        have dHZg4 : True := trivial
        refine wpList_nil ?_
        refine then_n ?_
        refine wp_seq ?_
        refine wp_region_lit ?_
        refine s_val 30 rfl rfl (.pointer (some ⟨g4, 49, none⟩)) (run_fld 52 _ 3 rfl g4 0 rfl 49 (by kernel_rfl)) ?_
        refine nr ?_; intro U h; simp only [z0, z1] at h; subst h
        refine s_val 31 rfl rfl (.int .i64 (getV L p).na) (ldEna _ rfl g4 rfl (kg4)) ?_
        refine nr ?_; intro U h; simp only [z0, z1] at h; subst h
        refine s_val 32 rfl rfl (.agg (paA p)) (ldP0 _ rfl g1 rfl (kg1)) ?_
        refine nr ?_; intro U h; simp only [z0, z1] at h; subst h
        refine s_callx 33 rfl rfl _ 31 Try.call31 rfl rfl _ rfl [.pointer (some ⟨g3, 0, none⟩), .int .i64 (getV L p).na, .agg (paA p)] rfl (side_any _ g3 (tn0) B HZ none 0 ([]) none 0 kg3 (TnP.nil _ _) (getV L p).na hgo.na p hp (by decide) (by decide)) (by rintro _ _ ⟨_, _, _, _, _, he, _⟩; exact ⟨_, he⟩) ?_
        rintro v w8 ⟨ao2, c2, H2, bo2, d2, he, kg9, HN2, GB⟩
        cases he
        replace kr := GB.has kr zr (by omega)
        replace kg1 := GB.has kg1 zg1 (by omega)
        replace kg2 := GB.has kg2 zg2 (by omega)
        replace kg4 := GB.has kg4 zg4 (by omega)
        replace HL := HL.bb GB (fun k hk => ⟨hzl k hk, fun e => HL.own.ne kg3 (by decide) (e ▸ hk)⟩)
        replace GG := GB.aft GG hwB bg3
        replace HZ := HZ.le GB.size
        clear GB kg3
        have kg3 := kg9
        clear kg9
        refine nr ?_; intro U h; simp only [z0, z1] at h; subst h
        refine wpList_nil ?_
        refine then_n ?_
        refine wp_seq ?_
        refine wp_region_lit ?_
        refine s_val 34 rfl rfl (.pointer (some ⟨g4, 50, none⟩)) (run_fld 52 _ 4 rfl g4 0 rfl 50 (by kernel_rfl)) ?_
        refine nr ?_; intro U h; simp only [z0, z1] at h; subst h
        refine s_val 35 rfl rfl (.int .i64 (getV L p).nb) (ldEnb _ rfl g4 rfl (kg4)) ?_
        refine nr ?_; intro U h; simp only [z0, z1] at h; subst h
        refine s_val 36 rfl rfl (.agg (paA p)) (ldP0 _ rfl g1 rfl (kg1)) ?_
        refine nr ?_; intro U h; simp only [z0, z1] at h; subst h
        refine s_callx 37 rfl rfl _ 31 Try.call31 rfl rfl _ rfl [.pointer (some ⟨g3, 0, none⟩), .int .i64 (getV L p).nb, .agg (paA p)] rfl (side_any _ g3 (appT tn0 (sideT (getV L p).na p)) B HZ ao2 c2 H2 bo2 d2 kg3 HN2 (getV L p).nb hgo.nb p hp (by have h9 := sideT_len (getV L p).na p; show (appT tn0 (sideT (getV L p).na p)).out.length ≤ _; rw [appT_nil]; omega) (by have h9 := sideT_len (getV L p).na p; show (appT tn0 (sideT (getV L p).na p)).lost.length ≤ _; rw [appT_nil]; omega)) (by rintro _ _ ⟨_, _, _, _, _, he, _⟩; exact ⟨_, he⟩) ?_
        rintro v w9 ⟨ao3, c3, H3, bo3, d3, he, kg9, HN3, GB⟩
        cases he
        replace kr := GB.has kr zr (by omega)
        replace kg1 := GB.has kg1 zg1 (by omega)
        replace kg2 := GB.has kg2 zg2 (by omega)
        replace kg4 := GB.has kg4 zg4 (by omega)
        replace HL := HL.bb GB (fun k hk => ⟨hzl k hk, fun e => HL.own.ne kg3 (by decide) (e ▸ hk)⟩)
        replace GG := GB.aft GG hwB bg3
        replace HZ := HZ.le GB.size
        clear GB kg3
        have kg3 := kg9
        clear kg9
        clear HN2
        refine nr ?_; intro U h; simp only [z0, z1] at h; subst h
        refine wpList_nil ?_
        refine then_n ?_
        refine wp_seq ?_
        refine wp_region_lit ?_
        refine s_val 38 rfl rfl (.agg (tnA ao3 H3.length c3 bo3 (appT (appT tn0 (sideT (getV L p).na p)) (sideT (getV L p).nb p)).lost.length d3)) (ldQ_0 _ rfl g3 rfl (kg3)) ?_
        refine nr ?_; intro U h; simp only [z0, z1] at h; subst h
        refine s_store rfl rfl 38 _ _ rfl g2 0 rfl (.agg (tnA ao3 H3.length c3 bo3 (appT (appT tn0 (sideT (getV L p).na p)) (sideT (getV L p).nb p)).lost.length d3)) rfl 38 _ kg2 (tnA ao3 H3.length c3 bo3 (appT (appT tn0 (sideT (getV L p).na p)) (sideT (getV L p).nb p)).lost.length d3) rfl (siQ) (Nat.le_refl _) (oneT _ _ _ _ _ _) (tnA ao3 H3.length c3 bo3 (appT (appT tn0 (sideT (getV L p).na p)) (sideT (getV L p).nb p)).lost.length d3) (splice_whole _ _ (rfl)) ?_
        intro w10 St
        have kS := kg2
        replace kr := St.has (by omega) kr
        replace kg1 := St.has (by omega) kg1
        replace kg3 := St.has (by omega) kg3
        replace kg4 := St.has (by omega) kg4
        replace HL := HL.st St dHLg2
        replace HZ := HZ.st St dHZg2
        replace HN3 := HN3.st St kS (by decide) (by decide)
        replace GG := GG.st St (.inl bg2)
        replace kg2 := St.new
        clear St
        refine wpList_nil ?_
        refine then_n ?_
        refine wp_ret ?_
        refine bodyPost_ret (results_cell_row Try.results17 _ _ g2 38 _ (0, 0) _ rfl kg2 Try.underlying38 rfl (siQ)) rfl ?_
        have hz := ends_y2 (of_decide_eq_true hh) h2
        rw [(end_yes hz).1, (end_yes hz).2, ← appT_nil (sideT (getV L p).na p)]
        exact ⟨ao3, c3, H3, bo3, d3, rfl, HN3.mono hwB, ra1, rc1, kr, HL, GG⟩
    · refine s_gvalY 19 rfl rfl y2 rfl (.bool false) (run_neq_k 3 .i64 _ _ _ rfl Try.underlying3 (getV L p).na (-1) rfl rfl false h1 _) ?_
      refine nr ?_; intro U h; simp only [z0, z1] at h; subst h
      refine s_gvalY 20 rfl rfl y2 rfl (.bool false) (rfl) ?_
      refine nr ?_; intro U h; simp only [z0, z1] at h; subst h
      refine s_skipY 21 rfl rfl y6 rfl ?_
      refine nr ?_; intro U h; simp only [z0, z1] at h; subst h
      refine s_skipY 22 rfl rfl y6 rfl ?_
      refine nr ?_; intro U h; simp only [z0, z1] at h; subst h
      refine s_skipY 23 rfl rfl y6 rfl ?_
      refine nr ?_; intro U h; simp only [z0, z1] at h; subst h
      refine s_gvalY 24 rfl rfl y2 rfl (.bool false) (rfl) ?_
      refine nr ?_; intro U h; simp only [z0, z1] at h; subst h
      refine s_val 25 rfl rfl (.bool false) (rfl) ?_
      refine nr ?_; intro U h; simp only [z0, z1] at h; subst h
      refine wpList_nil ?_
      refine then_n ?_
      refine wp_cond_false rfl ?_
      refine wp_skip ?_
      refine then_n ?_
      refine wp_seq ?_
      refine wp_region_lit ?_
      refine s_val 27 rfl rfl (.pointer (some ⟨r, 0, none⟩)) (rfl) ?_
      refine nr ?_; intro U h; simp only [z0, z1] at h; subst h
      refine s_val 28 rfl rfl (.agg (paA p)) (ldP0 _ rfl g1 rfl (kg1)) ?_
      refine nr ?_; intro U h; simp only [z0, z1] at h; subst h
      refine s_callx 29 rfl rfl _ 30 Try.call30 rfl rfl _ rfl [.pointer (some ⟨r, 0, none⟩), .agg (paA p)] rfl (rrem_any _ r most ra rc L (kr) (HL) hLb hk p hp) (by rintro _ _ ⟨he, _⟩; exact ⟨_, he⟩) ?_
      rintro v w7 ⟨he, ra1, rc1, kr2, HL2, G2⟩
      cases he
      replace kg1 := G2.has kg1 (ne_cells kg1 kr (by decide))
      replace kg2 := G2.has kg2 (ne_cells kg2 kr (by decide))
      replace kg3 := G2.has kg3 (ne_cells kg3 kr (by decide))
      replace kg4 := G2.has kg4 (ne_cells kg4 kr (by decide))
      replace GG := GG.trans G2
      clear kr HL G2
      have kr := kr2
      have HL := HL2
      clear kr2 HL2
      refine nr ?_; intro U h; simp only [z0, z1] at h; subst h
      obtain ⟨B, hB⟩ : ∃ m, w7.heap.size = m := ⟨_, rfl⟩
      have zr : r < B := hB ▸ lt_of_heap kr
      have zg1 : g1 < B := hB ▸ lt_of_heap kg1
      have zg2 : g2 < B := hB ▸ lt_of_heap kg2
      have zg3 : g3 < B := hB ▸ lt_of_heap kg3
      have zg4 : g4 < B := hB ▸ lt_of_heap kg4
      have HZ : SZ B w7 := Nat.le_of_eq hB.symm
      have hwB : w.heap.size ≤ B := hB ▸ GG.size
      have hzl : ∀ k ∈ Go.Proofs.Ytmpnepbmpmkmkaa.blk ra1, k < B := fun k hk => hB ▸ HL.own.lt k hk
      have dHZg1 : True := trivial
      have dHLg1 := HL.own.ne kg1 (by decide)
      have dHZg2 : True := trivial
      have dHLg2 := HL.own.ne kg2 (by decide)
      have dHZg3 : True := trivial
      have dHLg3 := HL.own.ne kg3 (by decide)
      have dHZg4 : True := trivial
      refine wpList_nil ?_
      refine then_n ?_
      refine wp_seq ?_
      refine wp_region_lit ?_
      refine s_val 30 rfl rfl (.pointer (some ⟨g4, 49, none⟩)) (run_fld 52 _ 3 rfl g4 0 rfl 49 (by kernel_rfl)) ?_
      refine nr ?_; intro U h; simp only [z0, z1] at h; subst h
      refine s_val 31 rfl rfl (.int .i64 (getV L p).na) (ldEna _ rfl g4 rfl (kg4)) ?_
      refine nr ?_; intro U h; simp only [z0, z1] at h; subst h
      refine s_val 32 rfl rfl (.agg (paA p)) (ldP0 _ rfl g1 rfl (kg1)) ?_
      refine nr ?_; intro U h; simp only [z0, z1] at h; subst h
      refine s_callx 33 rfl rfl _ 31 Try.call31 rfl rfl _ rfl [.pointer (some ⟨g3, 0, none⟩), .int .i64 (getV L p).na, .agg (paA p)] rfl (side_any _ g3 (tn0) B HZ none 0 ([]) none 0 kg3 (TnP.nil _ _) (getV L p).na hgo.na p hp (by decide) (by decide)) (by rintro _ _ ⟨_, _, _, _, _, he, _⟩; exact ⟨_, he⟩) ?_
      rintro v w8 ⟨ao2, c2, H2, bo2, d2, he, kg9, HN2, GB⟩
      cases he
      replace kr := GB.has kr zr (by omega)
      replace kg1 := GB.has kg1 zg1 (by omega)
      replace kg2 := GB.has kg2 zg2 (by omega)
      replace kg4 := GB.has kg4 zg4 (by omega)
      replace HL := HL.bb GB (fun k hk => ⟨hzl k hk, fun e => HL.own.ne kg3 (by decide) (e ▸ hk)⟩)
      replace GG := GB.aft GG hwB bg3
      replace HZ := HZ.le GB.size
      clear GB kg3
      have kg3 := kg9
      clear kg9
      refine nr ?_; intro U h; simp only [z0, z1] at h; subst h
      refine wpList_nil ?_
      refine then_n ?_
      refine wp_seq ?_
      refine wp_region_lit ?_
      refine s_val 34 rfl rfl (.pointer (some ⟨g4, 50, none⟩)) (run_fld 52 _ 4 rfl g4 0 rfl 50 (by kernel_rfl)) ?_
      refine nr ?_; intro U h; simp only [z0, z1] at h; subst h
      refine s_val 35 rfl rfl (.int .i64 (getV L p).nb) (ldEnb _ rfl g4 rfl (kg4)) ?_
      refine nr ?_; intro U h; simp only [z0, z1] at h; subst h
      refine s_val 36 rfl rfl (.agg (paA p)) (ldP0 _ rfl g1 rfl (kg1)) ?_
      refine nr ?_; intro U h; simp only [z0, z1] at h; subst h
      refine s_callx 37 rfl rfl _ 31 Try.call31 rfl rfl _ rfl [.pointer (some ⟨g3, 0, none⟩), .int .i64 (getV L p).nb, .agg (paA p)] rfl (side_any _ g3 (appT tn0 (sideT (getV L p).na p)) B HZ ao2 c2 H2 bo2 d2 kg3 HN2 (getV L p).nb hgo.nb p hp (by have h9 := sideT_len (getV L p).na p; show (appT tn0 (sideT (getV L p).na p)).out.length ≤ _; rw [appT_nil]; omega) (by have h9 := sideT_len (getV L p).na p; show (appT tn0 (sideT (getV L p).na p)).lost.length ≤ _; rw [appT_nil]; omega)) (by rintro _ _ ⟨_, _, _, _, _, he, _⟩; exact ⟨_, he⟩) ?_
      rintro v w9 ⟨ao3, c3, H3, bo3, d3, he, kg9, HN3, GB⟩
      cases he
      replace kr := GB.has kr zr (by omega)
      replace kg1 := GB.has kg1 zg1 (by omega)
      replace kg2 := GB.has kg2 zg2 (by omega)
      replace kg4 := GB.has kg4 zg4 (by omega)
      replace HL := HL.bb GB (fun k hk => ⟨hzl k hk, fun e => HL.own.ne kg3 (by decide) (e ▸ hk)⟩)
      replace GG := GB.aft GG hwB bg3
      replace HZ := HZ.le GB.size
      clear GB kg3
      have kg3 := kg9
      clear kg9
      clear HN2
      refine nr ?_; intro U h; simp only [z0, z1] at h; subst h
      refine wpList_nil ?_
      refine then_n ?_
      refine wp_seq ?_
      refine wp_region_lit ?_
      refine s_val 38 rfl rfl (.agg (tnA ao3 H3.length c3 bo3 (appT (appT tn0 (sideT (getV L p).na p)) (sideT (getV L p).nb p)).lost.length d3)) (ldQ_0 _ rfl g3 rfl (kg3)) ?_
      refine nr ?_; intro U h; simp only [z0, z1] at h; subst h
      refine s_store rfl rfl 38 _ _ rfl g2 0 rfl (.agg (tnA ao3 H3.length c3 bo3 (appT (appT tn0 (sideT (getV L p).na p)) (sideT (getV L p).nb p)).lost.length d3)) rfl 38 _ kg2 (tnA ao3 H3.length c3 bo3 (appT (appT tn0 (sideT (getV L p).na p)) (sideT (getV L p).nb p)).lost.length d3) rfl (siQ) (Nat.le_refl _) (oneT _ _ _ _ _ _) (tnA ao3 H3.length c3 bo3 (appT (appT tn0 (sideT (getV L p).na p)) (sideT (getV L p).nb p)).lost.length d3) (splice_whole _ _ (rfl)) ?_
      intro w10 St
      have kS := kg2
      replace kr := St.has (by omega) kr
      replace kg1 := St.has (by omega) kg1
      replace kg3 := St.has (by omega) kg3
      replace kg4 := St.has (by omega) kg4
      replace HL := HL.st St dHLg2
      replace HZ := HZ.st St dHZg2
      replace HN3 := HN3.st St kS (by decide) (by decide)
      replace GG := GG.st St (.inl bg2)
      replace kg2 := St.new
      clear St
      refine wpList_nil ?_
      refine then_n ?_
      refine wp_ret ?_
      refine bodyPost_ret (results_cell_row Try.results17 _ _ g2 38 _ (0, 0) _ rfl kg2 Try.underlying38 rfl (siQ)) rfl ?_
      have hz := ends_y1 (of_decide_eq_true hh) h1
      rw [(end_yes hz).1, (end_yes hz).2, ← appT_nil (sideT (getV L p).na p)]
      exact ⟨ao3, c3, H3, bo3, d3, rfl, HN3.mono hwB, ra1, rc1, kr, HL, GG⟩
end Go.Proofs.Ytmpnepbmpmkmkaa
