/- A session that died leaves no entry over it, and each is told once. -/
import Derived.Test.YtmpnepbmpmkmkaaEX7
namespace Go.Proofs.Ytmpnepbmpmkmkaa
open Classical
open Go.RowKit Go.Maps
theorem cnt_step {α : Type} (z : α) (F : α → Bool) {l : List α} {j : Nat} (hj : j < l.length) : (l.take (j + 1)).countP F = (l.take j).countP F + if F (l.getD j z) = true then 1 else 0 := by
  rw [take_at z l j hj, List.countP_append]
  congr 1
  rw [List.countP_cons, List.countP_nil, Nat.zero_add]
theorem fil_len_step {l : List En} {i : Nat} (F : En → Bool) (hi : i < l.length) : ((l.take (i + 1)).filter F).length = ((l.take i).filter F).length + if F (l.getD i zE) = true then 1 else 0 := by
  rw [← List.countP_eq_length_filter, ← List.countP_eq_length_filter]
  exact cnt_step zE F hi
theorem cnt_le {α : Type} (l : List α) (j : Nat) (F : α → Bool) : (l.take j).countP F ≤ l.length := Nat.le_trans List.countP_le_length (by rw [List.length_take]; omega)
def cH (y : En) (n : Int) (h : Hp) : Bool := eqP h.p y.p && decide (h.n = othS y n)
def cP (y : En) (n : Int) (p : Pa) : Bool := eqP p y.p && decide (othS y n = -1)
theorem cH_out {H : List Hp} {l : List (Int × Pa)} (h : H.map Hp.key = l) (y : En) (n : Int) : H.countP (cH y n) = l.countP (fun h => decide (h.2 = y.p) && decide (h.1 = othS y n)) := by
  subst h
  rw [List.countP_map]
  apply List.countP_congr
  intro q _
  show (eqP q.p y.p && decide (q.n = othS y n)) = true ↔ (decide (q.p = y.p) && decide (q.n = othS y n)) = true
  rw [eqP_eq]
theorem cP_lost (P : List Pa) (y : En) (n : Int) : P.countP (cP y n) = if othS y n = -1 then P.countP (fun q => decide (q = y.p)) else 0 := by
  by_cases h : othS y n = -1
  · rw [if_pos h]
    apply List.countP_congr
    intro q _
    simp [cP, h]
  · rw [if_neg h, List.countP_eq_zero]
    intro q _
    simp [cP, h]
theorem via_t {y : En} {n : Int} (h : decide (0 ≤ n) = true) (h1 : y.na = n ∨ y.nb = n) : viaF n y = true := by
  unfold viaF
  rw [h]
  simpa using h1
theorem via_f0 {y : En} {n : Int} (h : decide (0 ≤ n) = false) : viaF n y = false := by unfold viaF; rw [h]; rfl
theorem via_f {y : En} {n : Int} (h1 : decide (y.na = n) = false) (h2 : decide (y.nb = n) = false) : viaF n y = false := by unfold viaF; rw [h1, h2]; simp
theorem get_e (w : World) (t b room : Nat) (L : List En) (kt : w.heap[t]? = some (.cells (tbA room b) 83 (0, 0))) (HT : TM w b L) (p : Pa) (hp : p.ok) (x : En) (bb : Bool) (hx : getV L p = x) (hb : hasL L p = bb) : Calls Try.prog 18 #[.pointer (some ⟨t, 0, none⟩), .agg (paA p)] w (fun e w' => e = .returned (.tuple #[.agg (enA x), .bool bb]) ∧ Gro w w') := by
  subst hx hb
  exact get_any w t b room L kt HT p hp
theorem via_eq (w : World) (t b room : Nat) (L : List En) (kt : w.heap[t]? = some (.cells (tbA room b) 83 (0, 0))) (HT : TM w b L) (n : Int) (hris : Ris L) (hlen : L.length ≤ 1000) (M : List En) (hM : L.filter (viaF n) = M) : Calls Try.prog 19 #[.pointer (some ⟨t, 0, none⟩), .int .i64 n] w (RowP w M) := by
  subst hM
  exact via_any w t b room L kt HT n hris hlen
theorem zvH (w : World) : (zeroValue 67).run Try.prog w = .ok (.agg (hopA 0 (frY m0 none 0 gN))) w := by rw [Try.zeroValue67]; kernel_rfl
theorem szHp (h : Hp) : (hopA h.n h.fr).size = 96 := by kernel_rfl
theorem siHp (h : Hp) : (Try.prog.info? 67).map (·.size) = some (hopA h.n h.fr).size := by rw [szHp]; exact siH
theorem oneHp (h : Hp) : (hopA h.n h.fr).all (·.oneCell') = true := by kernel_rfl
theorem hopA_sz (a : Hp) : (hopA a.n a.fr).size = (hopA 0 (frY m0 none 0 gN)).size := (szHp a).trans (szH _ _ _ _ _).symm
theorem hopA_fit (a : Hp) : 0 + (hopA a.n a.fr).size ≤ (hopA 0 (frY m0 none 0 gN)).size := by rw [szHp, szH]; exact Nat.le_refl _
theorem TnP.stN {w w' : World} {B g : Nat} {t : Tn} {ao : Option Addr} {c : Nat} {H : List Hp} {bo : Option Addr} {d : Nat} {x : Obj} (h : TnP w B t ao c H bo d) (St : Stored w w' g x) (h1 : g ∉ Go.Proofs.Ytmpnepbmpmkmkaa.blk ao) (h2 : g ∉ Go.Proofs.Ytmpnepbmpmkmkaa.blk bo) : TnP w' B t ao c H bo d := ⟨h.out.st St h1, h.lost.st St h2, h.eq⟩
section
variable {o : Oper} {A : Act} {w : World} {h : Hp}
theorem ldH_n (y_ : Operand) (ho : o.op = .load 3 y_) (g_ : Nat) (hx : A.eval y_ = .pointer (some ⟨g_, 0, none⟩)) (hg : w.heap[g_]? = some (.cells (hopA h.n h.fr) 67 (0, 0))) : (execOp A.eval o).run Try.prog w = .ok (.value (.int .i64 h.n)) w :=
  run_ldc 3 y_ ho g_ 0 hx 67 _ hg (na3 w) _ (by kernel_rfl)
theorem ldH_k (y_ : Operand) (ho : o.op = .load 3 y_) (g_ : Nat) (hx : A.eval y_ = .pointer (some ⟨g_, 1, none⟩)) (hg : w.heap[g_]? = some (.cells (hopA h.n h.fr) 67 (0, 0))) : (execOp A.eval o).run Try.prog w = .ok (.value (.int .i64 5)) w :=
  run_ldc 3 y_ ho g_ 1 hx 67 _ hg (na3 w) _ (by kernel_rfl)
theorem ldH_p (y_ : Operand) (ho : o.op = .load 26 y_) (g_ : Nat) (hx : A.eval y_ = .pointer (some ⟨g_, 2, none⟩)) (hg : w.heap[g_]? = some (.cells (hopA h.n h.fr) 67 (0, 0))) : (execOp A.eval o).run Try.prog w = .ok (.value (.agg (paA h.p))) w :=
  run_lda 26 y_ ho g_ 2 17 hx 67 _ hg _ Try.underlying26 rfl si31 (by rw [szHp]; decide) _ (by kernel_rfl)
end
theorem tkm_le {L : List En} {f : En → Bool} {i m : Nat} (h : L.length ≤ m) : ((L.take i).filter f).length ≤ m := by
  have h1 := List.length_filter_le f (L.take i)
  have h2 : (L.take i).length ≤ L.length := by rw [List.length_take]; omega
  omega
set_option maxRecDepth 100000 in
set_option maxHeartbeats 4000000 in
theorem tearSweeps_any (w : World) (ae : Option Addr) (ce : Nat) (E : List En) (HE : RE w ae ce E) (hEl : E.length ≤ maxLen) (n : Int) : Calls Try.prog 6 #[.slice ae E.length ce, .int .i64 n] w (fun e w' => e = .returned (.bool true) ∧ Gro w w') := by
  refine s_enter Try.func6 rfl Try.ntmps6 [.slice ae E.length ce, .int .i64 n] [.slice ae E.length ce, .int .i64 n, undef, undef, undef, undef, undef, undef, undef, undef, undef, undef, undef, undef, undef, undef, undef, undef, undef, undef, undef, undef, undef, undef, undef, undef, undef, undef, undef, undef, undef, undef, undef, undef, undef, undef, undef, undef, undef, undef, undef, undef, undef, undef, undef, undef, undef, undef, undef, undef, undef, undef, undef, undef, undef, undef, undef, undef, undef, undef, undef, undef, undef, undef, undef, undef, undef, undef, undef, undef, undef, undef, undef, undef, undef, undef, undef, undef, undef, undef, undef, undef, undef, undef, undef, undef, undef, undef, undef, undef, undef, undef, undef, undef, undef, undef, undef, undef, undef, undef, undef, undef, undef, undef, undef, undef, undef, undef, undef, undef, undef, undef, undef, undef, undef, undef, undef, undef, undef, undef, undef, undef, undef, undef, undef, undef, undef, undef, undef, undef, undef, undef, undef, undef, undef, undef, undef, undef, undef, undef, undef, undef, undef, undef, undef, undef, undef, undef, undef, undef, undef] rfl ?_
  have GG := Gro.refl w
  obtain ⟨L, hL⟩ : ∃ L, layR 128 E = L := ⟨_, rfl⟩
  have hTI : TI 128 L := hL ▸ layR_ti HE.all
  have hRg : Rg L := hTI.rgt
  have hLb : L.length ≤ 1000 := Nat.le_trans hTI.fit (by decide)
  have hL8 := hTI.fit
  have hdl2 := deadT_len2 hTI.fit n
  refine wp_seq ?_
  refine wp_region_lit ?_
  refine s_val 4 rfl rfl (.bool false) (rfl) ?_
  refine nr ?_; intro U h; simp only [z0, z1] at h; subst h
  refine wpList_nil ?_
  refine then_n ?_
  refine wp_seq ?_
  refine wp_region_lit ?_
  refine s_val 22 rfl rfl (.slice ae E.length ce) (rfl) ?_
  refine nr ?_; intro U h; simp only [z0, z1] at h; subst h
  refine s_callx 23 rfl rfl _ 7 Try.call7 rfl rfl _ rfl [.slice ae E.length ce] rfl (laid_eq _ ae ce E L HE hEl hL) (by rintro _ _ ⟨_, _, _, _, _, he, _⟩; exact ⟨_, he⟩) ?_
  rintro v w1 ⟨t, b, r, ra, rc, he, G, kt, HTt, kr, HL, h1t, h1b, h1r⟩
  cases he
  have bt := Nat.le_trans GG.size h1t
  have bb := Nat.le_trans GG.size h1b
  have br := Nat.le_trans GG.size h1r
  clear h1t h1b h1r
  replace GG := GG.trans G
  clear G
  refine nr ?_; intro U h; simp only [z0, z1] at h; subst h
  have ntr : t ≠ r := fun e => ne_cells kt kr (by decide) (by simp [e])
  clear kr HL
  refine s_val 21 rfl rfl (.tuple #[.pointer (some ⟨t, 0, none⟩), .pointer (some ⟨r, 0, none⟩)]) (rfl) ?_
  refine nr ?_; intro U h; simp only [z0, z1] at h; subst h
  refine s_val 24 rfl rfl (.pointer (some ⟨t, 0, none⟩)) (rfl) ?_
  refine nr ?_; intro U h; simp only [z0, z1] at h; subst h
  refine s_val 25 rfl rfl (.pointer (some ⟨r, 0, none⟩)) (rfl) ?_
  refine nr ?_; intro U h; simp only [z0, z1] at h; subst h
  refine s_val 5 rfl rfl (.pointer (some ⟨t, 0, none⟩)) (rfl) ?_
  refine nr ?_; intro U h; simp only [z0, z1] at h; subst h
  refine s_val 6 rfl rfl (.pointer (some ⟨r, 0, none⟩)) (rfl) ?_
  refine nr ?_; intro U h; simp only [z0, z1] at h; subst h
  refine wpList_nil ?_
  refine then_n ?_
  refine wp_seq ?_
  refine wp_seq ?_
  refine wp_region_opq ?_
  intro OPS hY
  have y2 := hY 2 28 rfl
  clear hY
  refine s_val 26 rfl rfl (.pointer (some ⟨t, 0, none⟩)) (rfl) ?_
  refine nr ?_; intro U h; simp only [z0, z1] at h; subst h
  refine s_val 27 rfl rfl (.bool false) (run_eqnp 27 _ _ _ rfl _ rfl rfl Try.underlying27 _) ?_
  refine nr ?_; intro U h; simp only [z0, z1] at h; subst h
  refine s_val 28 rfl rfl (.bool false) (rfl) ?_
  refine nr ?_; intro U h; simp only [z0, z1] at h; subst h
  refine s_gcallvY 29 rfl rfl y2 rfl _ 9 Try.call9 rfl rfl _ rfl [] rfl (fixed_any _) ?_
  intro w2 G
  replace kt := G.has kt
  replace HTt := HTt.gro G
  replace GG := GG.trans G
  clear G
  refine nr ?_; intro U h; simp only [z0, z1] at h; subst h
  refine s_gvalY 30 rfl rfl y2 rfl (.bool false) (run_nt _ _ rfl true rfl) ?_
  refine nr ?_; intro U h; simp only [z0, z1] at h; subst h
  refine s_val 31 rfl rfl (.bool false) (rfl) ?_
  refine nr ?_; intro U h; simp only [z0, z1] at h; subst h
  refine wpList_nil ?_
  refine then_n ?_
  refine wp_cond_false rfl ?_
  refine wp_skip ?_
  refine then_n ?_
  refine wp_seq ?_
  refine wp_region_lit ?_
  refine s_val 32 rfl rfl (.pointer (some ⟨t, 0, none⟩)) (rfl) ?_
  refine nr ?_; intro U h; simp only [z0, z1] at h; subst h
  refine s_callx 33 rfl rfl _ 13 Try.call13 rfl rfl _ rfl [.pointer (some ⟨t, 0, none⟩)] rfl (all_any _ t b 128 L (kt) (HTt) hTI.ris hLb) (by rintro _ _ ⟨_, _, he, _⟩; exact ⟨_, he⟩) ?_
  rintro v w3 ⟨ao1, cap1, he, G, HO1⟩
  cases he
  replace HO1 := HO1.mono GG.size
  replace kt := G.has kt
  replace HTt := HTt.gro G
  replace GG := GG.trans G
  clear G
  have HR1 := HO1.re
  refine nr ?_; intro U h; simp only [z0, z1] at h; subst h
  refine s_val 7 rfl rfl (.slice ao1 L.length cap1) (rfl) ?_
  refine nr ?_; intro U h; simp only [z0, z1] at h; subst h
  refine wpList_nil ?_
  refine then_n ?_
  refine wp_seq ?_
  refine wp_region_lit ?_
  refine s_val 34 rfl rfl (.pointer (some ⟨t, 0, none⟩)) (rfl) ?_
  refine nr ?_; intro U h; simp only [z0, z1] at h; subst h
  refine s_val 35 rfl rfl (.int .i64 n) (rfl) ?_
  refine nr ?_; intro U h; simp only [z0, z1] at h; subst h
  refine s_callx 36 rfl rfl _ 14 Try.call14 rfl rfl _ rfl [.pointer (some ⟨t, 0, none⟩), .int .i64 n] rfl (dead_any _ t b 128 L (kt) (HTt) hRg hTI.ris hLb n) (by rintro _ _ ⟨_, _, _, _, _, he, _⟩; exact ⟨_, he⟩) ?_
  rintro v w4 ⟨ao2, c2, H2, bo2, d2, he, HN2, HT2, G2⟩
  cases he
  replace HN2 := HN2.mono GG.size
  replace kt := G2.has kt (by simpa using HTt.nec kt)
  replace HR1 := HR1.mapw HTt G2
  replace HO1 := HO1.mapw HTt G2
  replace GG := G2.gro GG (by simpa using bb)
  clear HTt G2
  have HTt := HT2
  clear HT2
  refine nr ?_; intro U h; simp only [z0, z1] at h; subst h
  refine s_alloc 8 rfl rfl 34 rfl _ zvT (tnA none 0 0 none 0 0) rfl ?_
  intro w5 g1 G eg1 kg1
  have bg1 := size_base GG eg1
  have dtg1 := lt_new kt eg1
  have dHTtg1 := HTt.ne eg1
  have dHR1g1 := HR1.ne eg1
  have dHO1g1 := HO1.ne eg1
  replace kt := G.has kt
  replace HTt := HTt.gro G
  replace HR1 := HR1.gro G
  replace HO1 := HO1.gro G
  replace HN2 := HN2.gro G
  replace GG := GG.trans G
  clear G
  clear eg1
  refine nr ?_; intro U h; simp only [z0, z1] at h; subst h
  refine s_store rfl rfl 34 _ _ rfl g1 0 rfl (.agg (tnA ao2 H2.length c2 bo2 (deadT L n).lost.length d2)) rfl 34 _ kg1 (tnA ao2 H2.length c2 bo2 (deadT L n).lost.length d2) rfl (siT) (Nat.le_refl _) (oneT _ _ _ _ _ _) (tnA ao2 H2.length c2 bo2 (deadT L n).lost.length d2) (splice_whole _ _ (rfl)) ?_
  intro w6 St
  have kS := kg1
  replace kt := St.has (by omega) kt
  replace HTt := HTt.st St dHTtg1
  replace HR1 := HR1.st St dHR1g1
  replace HO1 := HO1.st St dHO1g1
  replace HN2 := HN2.st St kS (by decide) (by decide)
  replace GG := GG.store St bg1
  replace kg1 := St.new
  clear St
  refine wpList_nil ?_
  refine then_n ?_
  refine wp_seq ?_
  refine wp_region_lit ?_
  refine s_val 9 rfl rfl (.int .i64 0) (rfl) ?_
  refine nr ?_; intro U h; simp only [z0, z1] at h; subst h
  refine wpList_nil ?_
  refine then_n ?_
  refine wp_seq ?_
  refine wp_seq ?_
  refine wp_region_lit ?_
  refine s_val 37 rfl rfl (.slice ao1 L.length cap1) (rfl) ?_
  refine nr ?_; intro U h; simp only [z0, z1] at h; subst h
  refine s_val 38 rfl rfl (.int .i64 ((L.length : Nat) : Int)) (run_len Try.underlying22 _ rfl _ _ _ rfl _) ?_
  refine nr ?_; intro U h; simp only [z0, z1] at h; subst h
  refine s_val 39 rfl rfl (.int .i64 0) (rfl) ?_
  refine nr ?_; intro U h; simp only [z0, z1] at h; subst h
  refine wpList_nil ?_
  refine then_n ?_
  refine wp_block ?_
  refine wp_loopN (fun mz az wv => ∃ (i : Nat) (m : Nat) (us1 : Nat → Value), mz = L.length + 1 - i ∧ az = ⟨[.slice ae E.length ce, .int .i64 n, undef, undef, us1 0, .pointer (some ⟨t, 0, none⟩), .pointer (some ⟨r, 0, none⟩), .slice ao1 L.length cap1, .pointer (some ⟨g1, 0, none⟩), .int .i64 ((m : Nat) : Int), undef, us1 1, us1 2, us1 3, us1 4, us1 5, us1 6, undef, us1 7, undef, us1 8, .tuple #[.pointer (some ⟨t, 0, none⟩), .pointer (some ⟨r, 0, none⟩)], .slice ae E.length ce, .tuple #[.pointer (some ⟨t, 0, none⟩), .pointer (some ⟨r, 0, none⟩)], .pointer (some ⟨t, 0, none⟩), .pointer (some ⟨r, 0, none⟩), .pointer (some ⟨t, 0, none⟩), .bool false, .bool false, .bool true, .bool false, .bool false, .pointer (some ⟨t, 0, none⟩), .slice ao1 L.length cap1, .pointer (some ⟨t, 0, none⟩), .int .i64 n, .agg (tnA ao2 H2.length c2 bo2 (deadT L n).lost.length d2), .slice ao1 L.length cap1, .int .i64 ((L.length : Nat) : Int), .int .i64 ((i : Nat) : Int), us1 9, us1 10, us1 11, us1 12, us1 13, us1 14, us1 15, us1 16, us1 17, us1 18, us1 19, us1 20, us1 21, us1 22, us1 23, us1 24, us1 25, us1 26, us1 27, us1 28, us1 29, us1 30, us1 31, us1 32, us1 33, us1 34, us1 35, us1 36, us1 37, us1 38, us1 39, us1 40, us1 41, us1 42, us1 43, us1 44, us1 45, us1 46, us1 47, us1 48, us1 49, us1 50, us1 51, us1 52, us1 53, us1 54, us1 55, us1 56, us1 57, us1 58, us1 59, us1 60, us1 61, us1 62, us1 63, us1 64, us1 65, us1 66, us1 67, us1 68, us1 69, us1 70, us1 71, us1 72, us1 73, us1 74, us1 75, us1 76, us1 77, us1 78, us1 79, us1 80, us1 81, us1 82, us1 83, us1 84, us1 85, us1 86, us1 87, us1 88, us1 89, us1 90, us1 91, us1 92, us1 93, us1 94, us1 95, us1 96, us1 97, us1 98, us1 99, us1 100, us1 101, us1 102, us1 103, undef, undef, undef, undef, undef, undef, undef, undef, undef, undef, undef, undef, undef, undef, undef, undef].toArray, []⟩ ∧ i ≤ L.length ∧ m = ((L.take i).filter (viaF n)).length ∧ Gro w wv ∧ wv.heap[t]? = some (.cells (tbA 128 b) 83 (0, 0)) ∧ TM wv b (deadL L n) ∧ wv.heap[g1]? = some (.cells (tnA ao2 H2.length c2 bo2 (deadT L n).lost.length d2) 34 (0, 0)) ∧ RE wv ao1 cap1 L ∧ TnP wv w.heap.size (deadT L n) ao2 c2 H2 bo2 d2) ?_ _ ⟨0, 0, (fun kz => ([.bool false, undef, undef, undef, undef, undef, undef, undef, undef, undef, undef, undef, undef, undef, undef, undef, undef, undef, undef, undef, undef, undef, undef, undef, undef, undef, undef, undef, undef, undef, undef, undef, undef, undef, undef, undef, undef, undef, undef, undef, undef, undef, undef, undef, undef, undef, undef, undef, undef, undef, undef, undef, undef, undef, undef, undef, undef, undef, undef, undef, undef, undef, undef, undef, undef, undef, undef, undef, undef, undef, undef, undef, undef, undef, undef, undef, undef, undef, undef, undef, undef, undef, undef, undef, undef, undef, undef, undef, undef, undef, undef, undef, undef, undef, undef, undef, undef, undef, undef, undef, undef, undef, undef, undef] : List Value).getD kz undef), rfl, rfl, Nat.zero_le _, rfl, GG, kt, HTt, kg1, HR1, HN2⟩
  clear GG kt kg1 HTt HR1 HN2
  rintro mz az wv ⟨i, m, us1, rfl, rfl, hi, hm, GG, kt, HTt, kg1, HR1, HN2⟩
  have hml : m ≤ 128 := by rw [hm]; exact tkm_le hTI.fit
  have hHl2 := HN2.len
  refine wp_seq ?_
  refine wp_region_lit ?_
  cases hi1 : decide (((i : Nat) : Int) < ((L.length : Nat) : Int))
  · have hie : i = L.length := by have := of_decide_eq_false hi1; omega
    refine s_val 40 rfl rfl (.bool false) (run_lssT 3 _ _ _ rfl ((i : Nat) : Int) ((L.length : Nat) : Int) rfl rfl false hi1 _) ?_
    refine nr ?_; intro U h; simp only [z0, z1] at h; subst h
    refine wpList_nil ?_
    refine then_n ?_
    refine wp_seq ?_
    refine wp_cond_false rfl ?_
    refine wp_exit ?_
    refine then_x ?_
    refine then_x ?_
    refine blk_x ?_
    refine then_n ?_
    refine wp_seq ?_
    rw [hie, List.take_length] at hm
    have hfin : ((H2.length + (deadT L n).lost.length : Nat) : Int) = ((m : Nat) : Int) := by rw [hm, HN2.len]; exact congrArg Int.ofNat (deadT_len L n)
    have hfb : H2.length + (deadT L n).lost.length ≤ 1000 := by omega
    refine wp_region_opq ?_
    intro OPS hY
    have y9 := hY 9 144 rfl
    clear hY
    refine s_val 135 rfl rfl (.pointer (some ⟨g1, 0, none⟩)) (run_fld 34 _ 0 rfl g1 0 rfl 0 (by kernel_rfl)) ?_
    refine nr ?_; intro U h; simp only [z0, z1] at h; subst h
    refine s_val 136 rfl rfl (.slice ao2 H2.length c2) (ldT_o _ rfl g1 rfl (kg1)) ?_
    refine nr ?_; intro U h; simp only [z0, z1] at h; subst h
    refine s_val 137 rfl rfl (.int .i64 ((H2.length : Nat) : Int)) (run_len Try.underlying31 _ rfl _ _ _ rfl _) ?_
    refine nr ?_; intro U h; simp only [z0, z1] at h; subst h
    refine s_val 138 rfl rfl (.pointer (some ⟨g1, 1, none⟩)) (run_fld 34 _ 1 rfl g1 0 rfl 1 (by kernel_rfl)) ?_
    refine nr ?_; intro U h; simp only [z0, z1] at h; subst h
    refine s_val 139 rfl rfl (.slice bo2 (deadT L n).lost.length d2) (ldT_l _ rfl g1 rfl (kg1)) ?_
    refine nr ?_; intro U h; simp only [z0, z1] at h; subst h
    refine s_val 140 rfl rfl (.int .i64 (((deadT L n).lost.length : Nat) : Int)) (run_len Try.underlying32 _ rfl _ _ _ rfl _) ?_
    refine nr ?_; intro U h; simp only [z0, z1] at h; subst h
    refine s_val 141 rfl rfl (.int .i64 ((H2.length + (deadT L n).lost.length : Nat) : Int)) (run_addI 3 _ _ _ rfl ((H2.length : Nat) : Int) (((deadT L n).lost.length : Nat) : Int) ((H2.length + (deadT L n).lost.length : Nat) : Int) rfl rfl (by omega) (by omega) (by omega) _) ?_
    refine nr ?_; intro U h; simp only [z0, z1] at h; subst h
    refine s_val 142 rfl rfl (.int .i64 ((m : Nat) : Int)) (rfl) ?_
    refine nr ?_; intro U h; simp only [z0, z1] at h; subst h
    refine s_val 143 rfl rfl (.bool true) (run_eq_k 3 .i64 _ _ _ rfl Try.underlying3 ((H2.length + (deadT L n).lost.length : Nat) : Int) ((m : Nat) : Int) rfl rfl true (decide_eq_true hfin) _) ?_
    refine nr ?_; intro U h; simp only [z0, z1] at h; subst h
    refine s_val 144 rfl rfl (.bool true) (rfl) ?_
    refine nr ?_; intro U h; simp only [z0, z1] at h; subst h
    refine s_gvalY 145 rfl rfl y9 rfl (.pointer (some ⟨t, 0, none⟩)) (rfl) ?_
    refine nr ?_; intro U h; simp only [z0, z1] at h; subst h
    refine s_gvalY 146 rfl rfl y9 rfl (.int .i64 n) (rfl) ?_
    refine nr ?_; intro U h; simp only [z0, z1] at h; subst h
    refine s_gcallxY 147 rfl rfl y9 rfl _ 19 Try.call19 rfl rfl _ rfl [.pointer (some ⟨t, 0, none⟩), .int .i64 n] rfl (via_eq _ t b 128 (deadL L n) (kt) (HTt) n (deadL_ti hTI n).ris (Nat.le_trans (deadL_ti hTI n).fit (by decide)) [] (dead_via L n)) (by rintro _ _ ⟨_, _, he, _⟩; exact ⟨_, he⟩) ?_
    rintro v w7 ⟨ao3, cap3, he, G, HO3⟩
    cases he
    replace HO3 := HO3.mono GG.size
    replace kt := G.has kt
    replace kg1 := G.has kg1
    replace HTt := HTt.gro G
    replace HR1 := HR1.gro G
    replace HN2 := HN2.gro G
    replace GG := GG.trans G
    clear G
    have HR3 := HO3.re
    refine nr ?_; intro U h; simp only [z0, z1] at h; subst h
    refine s_gvalY 148 rfl rfl y9 rfl (.int .i64 ((([]).length : Nat) : Int)) (run_len Try.underlying22 _ rfl _ _ _ rfl _) ?_
    refine nr ?_; intro U h; simp only [z0, z1] at h; subst h
    refine s_gvalY 149 rfl rfl y9 rfl (.bool true) (run_eq_k 3 .i64 _ _ _ rfl Try.underlying3 ((([] : List En).length : Nat) : Int) 0 rfl rfl true (decide_eq_true rfl) _) ?_
    refine nr ?_; intro U h; simp only [z0, z1] at h; subst h
    refine s_val 150 rfl rfl (.bool true) (rfl) ?_
    refine nr ?_; intro U h; simp only [z0, z1] at h; subst h
    refine s_val 4 rfl rfl (.bool true) (rfl) ?_
    refine nr ?_; intro U h; simp only [z0, z1] at h; subst h
    refine wpList_nil ?_
    refine then_n ?_
    refine wp_ret ?_
    refine bodyPost_ret (results_tmp Try.results6 _ _ _) rfl ?_
    exact ⟨rfl, GG⟩
  · have hil : i < L.length := by have := of_decide_eq_true hi1; omega
    refine s_val 40 rfl rfl (.bool true) (run_lssT 3 _ _ _ rfl ((i : Nat) : Int) ((L.length : Nat) : Int) rfl rfl true hi1 _) ?_
    refine nr ?_; intro U h; simp only [z0, z1] at h; subst h
    refine wpList_nil ?_
    refine then_n ?_
    refine wp_seq ?_
    refine wp_cond_true rfl ?_
    refine wp_skip ?_
    refine then_n ?_
    refine wp_seq ?_
    refine wp_block ?_
    refine wp_seq ?_
    refine wp_region_lit ?_
    refine s_val 41 rfl rfl (.pointer (pE ao1 i 0)) (run_ixE (HR1) _ _ rfl rfl i rfl (by omega)) ?_
    refine nr ?_; intro U h; simp only [z0, z1] at h; subst h
    refine s_val 42 rfl rfl (.agg (enA (L.getD i zE))) (run_ldE (HR1) _ rfl i rfl (by omega)) ?_
    refine nr ?_; intro U h; simp only [z0, z1] at h; subst h
    refine s_alloc 11 rfl rfl 52 rfl _ zero33 (enA zE) rfl ?_
    intro w7 g2 G eg2 kg2
    have bg2 := size_base GG eg2
    have dtg2 := lt_new kt eg2
    have dg1g2 := lt_new kg1 eg2
    have dHTtg2 := HTt.ne eg2
    have dHR1g2 := HR1.ne eg2
    replace kt := G.has kt
    replace kg1 := G.has kg1
    replace HTt := HTt.gro G
    replace HR1 := HR1.gro G
    replace HN2 := HN2.gro G
    replace GG := GG.trans G
    clear G
    clear eg2
    refine nr ?_; intro U h; simp only [z0, z1] at h; subst h
    refine s_store rfl rfl 52 _ _ rfl g2 0 rfl (.agg (enA (L.getD i zE))) rfl 52 _ kg2 (enA (L.getD i zE)) rfl (si33' _) (enA_fit _ _) (enA_one _) (enA (L.getD i zE)) (splice_whole _ _ (enA_sz _ _)) ?_
    intro w8 St
    have kS := kg2
    replace kt := St.has (by omega) kt
    replace kg1 := St.has (by omega) kg1
    replace HTt := HTt.st St dHTtg2
    replace HR1 := HR1.st St dHR1g2
    replace HN2 := HN2.st St kS (by decide) (by decide)
    replace GG := GG.store St bg2
    replace kg2 := St.new
    clear St
    refine wpList_nil ?_
    refine then_n ?_
    refine wp_seq ?_
    cases hg : decide (0 ≤ n)
    · refine wp_region_lit ?_
      refine s_val 44 rfl rfl (.pointer (some ⟨t, 0, none⟩)) (rfl) ?_
      refine nr ?_; intro U h; simp only [z0, z1] at h; subst h
      refine s_val 45 rfl rfl (.pointer (some ⟨g2, 0, none⟩)) (run_fld 52 _ 0 rfl g2 0 rfl 0 (by kernel_rfl)) ?_
      refine nr ?_; intro U h; simp only [z0, z1] at h; subst h
      refine s_val 46 rfl rfl (.agg (paA (L.getD i zE).p)) (ldEp _ rfl g2 rfl (kg2)) ?_
      refine nr ?_; intro U h; simp only [z0, z1] at h; subst h
      have hym : (L.getD i zE) ∈ L := getD_inL hil
      have hv : viaF n (L.getD i zE) = false := via_f0 hg
      have hdh := dead_has (n := n) hTI.ris.kn hym
      rw [hv] at hdh
      have hdg := dead_get hTI.ris.kn hym hv
      refine s_callv 47 rfl rfl _ 18 Try.call18 rfl rfl _ rfl [.pointer (some ⟨t, 0, none⟩), .agg (paA (L.getD i zE).p)] rfl (get_e _ t b 128 (deadL L n) (kt) (HTt) (L.getD i zE).p (HR1.all.at hil).p (L.getD i zE) true hdg hdh) ?_
      intro w9 G
      replace kt := G.has kt
      replace kg1 := G.has kg1
      replace kg2 := G.has kg2
      replace HTt := HTt.gro G
      replace HR1 := HR1.gro G
      replace HN2 := HN2.gro G
      replace GG := GG.trans G
      clear G
      refine nr ?_; intro U h; simp only [z0, z1] at h; subst h
      refine s_val 43 rfl rfl (.tuple #[.agg (enA (L.getD i zE)), .bool true]) (rfl) ?_
      refine nr ?_; intro U h; simp only [z0, z1] at h; subst h
      refine s_val 48 rfl rfl (.agg (enA (L.getD i zE))) (rfl) ?_
      refine nr ?_; intro U h; simp only [z0, z1] at h; subst h
      refine s_val 49 rfl rfl (.bool true) (rfl) ?_
      refine nr ?_; intro U h; simp only [z0, z1] at h; subst h
      refine s_alloc 12 rfl rfl 52 rfl _ zero33 (enA zE) rfl ?_
      intro w10 g3 G eg3 kg3
      have bg3 := size_base GG eg3
      have dtg3 := lt_new kt eg3
      have dg1g3 := lt_new kg1 eg3
      have dg2g3 := lt_new kg2 eg3
      have dHTtg3 := HTt.ne eg3
      have dHR1g3 := HR1.ne eg3
      replace kt := G.has kt
      replace kg1 := G.has kg1
      replace kg2 := G.has kg2
      replace HTt := HTt.gro G
      replace HR1 := HR1.gro G
      replace HN2 := HN2.gro G
      replace GG := GG.trans G
      clear G
      clear eg3
      refine nr ?_; intro U h; simp only [z0, z1] at h; subst h
      refine s_store rfl rfl 52 _ _ rfl g3 0 rfl (.agg (enA (L.getD i zE))) rfl 52 _ kg3 (enA (L.getD i zE)) rfl (si33' _) (enA_fit _ _) (enA_one _) (enA (L.getD i zE)) (splice_whole _ _ (enA_sz _ _)) ?_
      intro w11 St
      have kS := kg3
      replace kt := St.has (by omega) kt
      replace kg1 := St.has (by omega) kg1
      replace kg2 := St.has (by omega) kg2
      replace HTt := HTt.st St dHTtg3
      replace HR1 := HR1.st St dHR1g3
      replace HN2 := HN2.st St kS (by decide) (by decide)
      replace GG := GG.store St bg3
      replace kg3 := St.new
      clear St
      refine s_val 13 rfl rfl (.bool true) (rfl) ?_
      refine nr ?_; intro U h; simp only [z0, z1] at h; subst h
      refine wpList_nil ?_
      refine then_n ?_
      refine wp_seq ?_
      refine wp_region_opq ?_
      intro OPS hY
      have y2 := hY 2 52 rfl
      have y7 := hY 7 57 rfl
      clear hY
      refine s_val 50 rfl rfl (.int .i64 n) (rfl) ?_
      refine nr ?_; intro U h; simp only [z0, z1] at h; subst h
      refine s_val 51 rfl rfl (.bool false) (run_geqT 3 _ _ _ rfl n 0 rfl rfl false hg _) ?_
      refine nr ?_; intro U h; simp only [z0, z1] at h; subst h
      refine s_val 52 rfl rfl (.bool false) (rfl) ?_
      refine nr ?_; intro U h; simp only [z0, z1] at h; subst h
      refine s_skipY 53 rfl rfl y2 rfl ?_
      refine nr ?_; intro U h; simp only [z0, z1] at h; subst h
      refine s_skipY 54 rfl rfl y2 rfl ?_
      refine nr ?_; intro U h; simp only [z0, z1] at h; subst h
      refine s_skipY 55 rfl rfl y2 rfl ?_
      refine nr ?_; intro U h; simp only [z0, z1] at h; subst h
      refine s_skipY 56 rfl rfl y2 rfl ?_
      refine nr ?_; intro U h; simp only [z0, z1] at h; subst h
      refine s_skipY 57 rfl rfl y2 rfl ?_
      refine nr ?_; intro U h; simp only [z0, z1] at h; subst h
      refine s_skipY 58 rfl rfl y7 rfl ?_
      refine nr ?_; intro U h; simp only [z0, z1] at h; subst h
      refine s_skipY 59 rfl rfl y7 rfl ?_
      refine nr ?_; intro U h; simp only [z0, z1] at h; subst h
      refine s_skipY 60 rfl rfl y7 rfl ?_
      refine nr ?_; intro U h; simp only [z0, z1] at h; subst h
      refine s_skipY 61 rfl rfl y7 rfl ?_
      refine nr ?_; intro U h; simp only [z0, z1] at h; subst h
      refine s_skipY 62 rfl rfl y2 rfl ?_
      refine nr ?_; intro U h; simp only [z0, z1] at h; subst h
      refine s_val 63 rfl rfl (.bool false) (rfl) ?_
      refine nr ?_; intro U h; simp only [z0, z1] at h; subst h
      refine s_val 14 rfl rfl (.bool false) (rfl) ?_
      refine nr ?_; intro U h; simp only [z0, z1] at h; subst h
      refine wpList_nil ?_
      refine then_n ?_
      refine wp_seq ?_
      refine wp_seq ?_
      refine wp_region_opq ?_
      intro OPS hY
      have y3 := hY 3 67 rfl
      have y5 := hY 5 69 rfl
      clear hY
      refine s_val 64 rfl rfl (.bool true) (rfl) ?_
      refine nr ?_; intro U h; simp only [z0, z1] at h; subst h
      refine s_val 65 rfl rfl (.bool false) (rfl) ?_
      refine nr ?_; intro U h; simp only [z0, z1] at h; subst h
      refine s_val 66 rfl rfl (.bool false) (run_eqB 4 _ _ _ rfl true false rfl rfl Try.underlying4 false (by decide) _) ?_
      refine nr ?_; intro U h; simp only [z0, z1] at h; subst h
      refine s_val 67 rfl rfl (.bool false) (rfl) ?_
      refine nr ?_; intro U h; simp only [z0, z1] at h; subst h
      refine s_gvalY 68 rfl rfl y3 rfl (.bool true) (rfl) ?_
      refine nr ?_; intro U h; simp only [z0, z1] at h; subst h
      refine s_gvalY 69 rfl rfl y3 rfl (.bool true) (rfl) ?_
      refine nr ?_; intro U h; simp only [z0, z1] at h; subst h
      refine s_gvalY 70 rfl rfl y5 rfl (.agg (enA (L.getD i zE))) (ldE0 _ rfl g3 rfl (kg3)) ?_
      refine nr ?_; intro U h; simp only [z0, z1] at h; subst h
      refine s_gvalY 71 rfl rfl y5 rfl (.agg (enA (L.getD i zE))) (ldE0 _ rfl g2 rfl (kg2)) ?_
      refine nr ?_; intro U h; simp only [z0, z1] at h; subst h
      refine s_gvalY 72 rfl rfl y5 rfl (.bool false) (run_neE _ _ _ rfl _ _ rfl rfl (HR1.all.at (by omega)) (HR1.all.at (by omega)) false (decide_eq_true rfl)) ?_
      refine nr ?_; intro U h; simp only [z0, z1] at h; subst h
      refine s_gvalY 73 rfl rfl y3 rfl (.bool false) (rfl) ?_
      refine nr ?_; intro U h; simp only [z0, z1] at h; subst h
      refine s_val 74 rfl rfl (.bool false) (rfl) ?_
      refine nr ?_; intro U h; simp only [z0, z1] at h; subst h
      refine wpList_nil ?_
      refine then_n ?_
      refine wp_cond_false rfl ?_
      refine wp_skip ?_
      refine then_n ?_
      refine wp_seq ?_
      refine wp_seq ?_
      refine wp_region_lit ?_
      refine s_val 75 rfl rfl (.bool false) (rfl) ?_
      refine nr ?_; intro U h; simp only [z0, z1] at h; subst h
      refine s_val 76 rfl rfl (.bool true) (run_nt _ _ rfl false rfl) ?_
      refine nr ?_; intro U h; simp only [z0, z1] at h; subst h
      refine wpList_nil ?_
      refine then_n ?_
      refine wp_cond_true rfl ?_
      refine wp_exit ?_
      refine then_x ?_
      refine blk_x ?_
      refine then_n ?_
      refine wp_region_lit ?_
      refine s_val 134 rfl rfl (.int .i64 ((i + 1 : Nat) : Int)) (run_addI 3 _ _ _ rfl ((i : Nat) : Int) 1 ((i + 1 : Nat) : Int) rfl rfl (by omega) (by omega) (by omega) _) ?_
      refine nr ?_; intro U h; simp only [z0, z1] at h; subst h
      refine s_val 39 rfl rfl (.int .i64 ((i + 1 : Nat) : Int)) (rfl) ?_
      refine nr ?_; intro U h; simp only [z0, z1] at h; subst h
      refine wpList_nil ?_
      refine then_n ?_
      exact ⟨L.length + 1 - (i + 1), by omega, i + 1, m, (fun kz => ([us1 0, .pointer (some ⟨g2, 0, none⟩), .pointer (some ⟨g3, 0, none⟩), .bool true, .bool false, us1 5, us1 6, us1 7, us1 8, .bool true, .pointer (pE ao1 i 0), .agg (enA (L.getD i zE)), .tuple #[.agg (enA (L.getD i zE)), .bool true], .pointer (some ⟨t, 0, none⟩), .pointer (some ⟨g2, 0, none⟩), .agg (paA (L.getD i zE).p), .tuple #[.agg (enA (L.getD i zE)), .bool true], .agg (enA (L.getD i zE)), .bool true, .int .i64 n, .bool false, .bool false, undef, undef, undef, undef, undef, undef, undef, undef, undef, undef, .bool false, .bool true, .bool false, .bool false, .bool false, .bool true, .bool true, .agg (enA (L.getD i zE)), .agg (enA (L.getD i zE)), .bool false, .bool false, .bool false, .bool false, .bool true, us1 46, us1 47, us1 48, us1 49, us1 50, us1 51, us1 52, us1 53, us1 54, us1 55, us1 56, us1 57, us1 58, us1 59, us1 60, us1 61, us1 62, us1 63, us1 64, us1 65, us1 66, us1 67, us1 68, us1 69, us1 70, us1 71, us1 72, us1 73, us1 74, us1 75, us1 76, us1 77, us1 78, us1 79, us1 80, us1 81, us1 82, us1 83, us1 84, us1 85, us1 86, us1 87, us1 88, us1 89, us1 90, us1 91, us1 92, us1 93, us1 94, us1 95, us1 96, us1 97, us1 98, us1 99, us1 100, us1 101, us1 102, .int .i64 ((i + 1 : Nat) : Int)] : List Value).getD kz undef), rfl, rfl, by omega, by rw [fil_len_step _ hil, hv]; exact hm, GG, kt, HTt, kg1, HR1, HN2⟩
    · cases h1 : decide ((L.getD i zE).na = n)
      · cases h2 : decide ((L.getD i zE).nb = n)
        · refine wp_region_lit ?_
          refine s_val 44 rfl rfl (.pointer (some ⟨t, 0, none⟩)) (rfl) ?_
          refine nr ?_; intro U h; simp only [z0, z1] at h; subst h
          refine s_val 45 rfl rfl (.pointer (some ⟨g2, 0, none⟩)) (run_fld 52 _ 0 rfl g2 0 rfl 0 (by kernel_rfl)) ?_
          refine nr ?_; intro U h; simp only [z0, z1] at h; subst h
          refine s_val 46 rfl rfl (.agg (paA (L.getD i zE).p)) (ldEp _ rfl g2 rfl (kg2)) ?_
          refine nr ?_; intro U h; simp only [z0, z1] at h; subst h
          have hym : (L.getD i zE) ∈ L := getD_inL hil
          have hv : viaF n (L.getD i zE) = false := via_f h1 h2
          have hdh := dead_has (n := n) hTI.ris.kn hym
          rw [hv] at hdh
          have hdg := dead_get hTI.ris.kn hym hv
          refine s_callv 47 rfl rfl _ 18 Try.call18 rfl rfl _ rfl [.pointer (some ⟨t, 0, none⟩), .agg (paA (L.getD i zE).p)] rfl (get_e _ t b 128 (deadL L n) (kt) (HTt) (L.getD i zE).p (HR1.all.at hil).p (L.getD i zE) true hdg hdh) ?_
          intro w9 G
          replace kt := G.has kt
          replace kg1 := G.has kg1
          replace kg2 := G.has kg2
          replace HTt := HTt.gro G
          replace HR1 := HR1.gro G
          replace HN2 := HN2.gro G
          replace GG := GG.trans G
          clear G
          refine nr ?_; intro U h; simp only [z0, z1] at h; subst h
          refine s_val 43 rfl rfl (.tuple #[.agg (enA (L.getD i zE)), .bool true]) (rfl) ?_
          refine nr ?_; intro U h; simp only [z0, z1] at h; subst h
          refine s_val 48 rfl rfl (.agg (enA (L.getD i zE))) (rfl) ?_
          refine nr ?_; intro U h; simp only [z0, z1] at h; subst h
          refine s_val 49 rfl rfl (.bool true) (rfl) ?_
          refine nr ?_; intro U h; simp only [z0, z1] at h; subst h
          refine s_alloc 12 rfl rfl 52 rfl _ zero33 (enA zE) rfl ?_
          intro w10 g3 G eg3 kg3
          have bg3 := size_base GG eg3
          have dtg3 := lt_new kt eg3
          have dg1g3 := lt_new kg1 eg3
          have dg2g3 := lt_new kg2 eg3
          have dHTtg3 := HTt.ne eg3
          have dHR1g3 := HR1.ne eg3
          replace kt := G.has kt
          replace kg1 := G.has kg1
          replace kg2 := G.has kg2
          replace HTt := HTt.gro G
          replace HR1 := HR1.gro G
          replace HN2 := HN2.gro G
          replace GG := GG.trans G
          clear G
          clear eg3
          refine nr ?_; intro U h; simp only [z0, z1] at h; subst h
          refine s_store rfl rfl 52 _ _ rfl g3 0 rfl (.agg (enA (L.getD i zE))) rfl 52 _ kg3 (enA (L.getD i zE)) rfl (si33' _) (enA_fit _ _) (enA_one _) (enA (L.getD i zE)) (splice_whole _ _ (enA_sz _ _)) ?_
          intro w11 St
          have kS := kg3
          replace kt := St.has (by omega) kt
          replace kg1 := St.has (by omega) kg1
          replace kg2 := St.has (by omega) kg2
          replace HTt := HTt.st St dHTtg3
          replace HR1 := HR1.st St dHR1g3
          replace HN2 := HN2.st St kS (by decide) (by decide)
          replace GG := GG.store St bg3
          replace kg3 := St.new
          clear St
          refine s_val 13 rfl rfl (.bool true) (rfl) ?_
          refine nr ?_; intro U h; simp only [z0, z1] at h; subst h
          refine wpList_nil ?_
          refine then_n ?_
          refine wp_seq ?_
          refine wp_region_opq ?_
          intro OPS hY
          have y2 := hY 2 52 rfl
          have y7 := hY 7 57 rfl
          clear hY
          refine s_val 50 rfl rfl (.int .i64 n) (rfl) ?_
          refine nr ?_; intro U h; simp only [z0, z1] at h; subst h
          refine s_val 51 rfl rfl (.bool true) (run_geqT 3 _ _ _ rfl n 0 rfl rfl true hg _) ?_
          refine nr ?_; intro U h; simp only [z0, z1] at h; subst h
          refine s_val 52 rfl rfl (.bool true) (rfl) ?_
          refine nr ?_; intro U h; simp only [z0, z1] at h; subst h
          refine s_gvalY 53 rfl rfl y2 rfl (.pointer (some ⟨g2, 49, none⟩)) (run_fld 52 _ 3 rfl g2 0 rfl 49 (by kernel_rfl)) ?_
          refine nr ?_; intro U h; simp only [z0, z1] at h; subst h
          refine s_gvalY 54 rfl rfl y2 rfl (.int .i64 (L.getD i zE).na) (ldEna _ rfl g2 rfl (kg2)) ?_
          refine nr ?_; intro U h; simp only [z0, z1] at h; subst h
          refine s_gvalY 55 rfl rfl y2 rfl (.int .i64 n) (rfl) ?_
          refine nr ?_; intro U h; simp only [z0, z1] at h; subst h
          refine s_gvalY 56 rfl rfl y2 rfl (.bool false) (run_eq_k 3 .i64 _ _ _ rfl Try.underlying3 (L.getD i zE).na n rfl rfl false h1 _) ?_
          refine nr ?_; intro U h; simp only [z0, z1] at h; subst h
          refine s_gvalY 57 rfl rfl y2 rfl (.bool false) (rfl) ?_
          refine nr ?_; intro U h; simp only [z0, z1] at h; subst h
          refine s_gvalY 58 rfl rfl y7 rfl (.pointer (some ⟨g2, 50, none⟩)) (run_fld 52 _ 4 rfl g2 0 rfl 50 (by kernel_rfl)) ?_
          refine nr ?_; intro U h; simp only [z0, z1] at h; subst h
          refine s_gvalY 59 rfl rfl y7 rfl (.int .i64 (L.getD i zE).nb) (ldEnb _ rfl g2 rfl (kg2)) ?_
          refine nr ?_; intro U h; simp only [z0, z1] at h; subst h
          refine s_gvalY 60 rfl rfl y7 rfl (.int .i64 n) (rfl) ?_
          refine nr ?_; intro U h; simp only [z0, z1] at h; subst h
          refine s_gvalY 61 rfl rfl y7 rfl (.bool false) (run_eq_k 3 .i64 _ _ _ rfl Try.underlying3 (L.getD i zE).nb n rfl rfl false h2 _) ?_
          refine nr ?_; intro U h; simp only [z0, z1] at h; subst h
          refine s_gvalY 62 rfl rfl y2 rfl (.bool false) (rfl) ?_
          refine nr ?_; intro U h; simp only [z0, z1] at h; subst h
          refine s_val 63 rfl rfl (.bool false) (rfl) ?_
          refine nr ?_; intro U h; simp only [z0, z1] at h; subst h
          refine s_val 14 rfl rfl (.bool false) (rfl) ?_
          refine nr ?_; intro U h; simp only [z0, z1] at h; subst h
          refine wpList_nil ?_
          refine then_n ?_
          refine wp_seq ?_
          refine wp_seq ?_
          refine wp_region_opq ?_
          intro OPS hY
          have y3 := hY 3 67 rfl
          have y5 := hY 5 69 rfl
          clear hY
          refine s_val 64 rfl rfl (.bool true) (rfl) ?_
          refine nr ?_; intro U h; simp only [z0, z1] at h; subst h
          refine s_val 65 rfl rfl (.bool false) (rfl) ?_
          refine nr ?_; intro U h; simp only [z0, z1] at h; subst h
          refine s_val 66 rfl rfl (.bool false) (run_eqB 4 _ _ _ rfl true false rfl rfl Try.underlying4 false (by decide) _) ?_
          refine nr ?_; intro U h; simp only [z0, z1] at h; subst h
          refine s_val 67 rfl rfl (.bool false) (rfl) ?_
          refine nr ?_; intro U h; simp only [z0, z1] at h; subst h
          refine s_gvalY 68 rfl rfl y3 rfl (.bool true) (rfl) ?_
          refine nr ?_; intro U h; simp only [z0, z1] at h; subst h
          refine s_gvalY 69 rfl rfl y3 rfl (.bool true) (rfl) ?_
          refine nr ?_; intro U h; simp only [z0, z1] at h; subst h
          refine s_gvalY 70 rfl rfl y5 rfl (.agg (enA (L.getD i zE))) (ldE0 _ rfl g3 rfl (kg3)) ?_
          refine nr ?_; intro U h; simp only [z0, z1] at h; subst h
          refine s_gvalY 71 rfl rfl y5 rfl (.agg (enA (L.getD i zE))) (ldE0 _ rfl g2 rfl (kg2)) ?_
          refine nr ?_; intro U h; simp only [z0, z1] at h; subst h
          refine s_gvalY 72 rfl rfl y5 rfl (.bool false) (run_neE _ _ _ rfl _ _ rfl rfl (HR1.all.at (by omega)) (HR1.all.at (by omega)) false (decide_eq_true rfl)) ?_
          refine nr ?_; intro U h; simp only [z0, z1] at h; subst h
          refine s_gvalY 73 rfl rfl y3 rfl (.bool false) (rfl) ?_
          refine nr ?_; intro U h; simp only [z0, z1] at h; subst h
          refine s_val 74 rfl rfl (.bool false) (rfl) ?_
          refine nr ?_; intro U h; simp only [z0, z1] at h; subst h
          refine wpList_nil ?_
          refine then_n ?_
          refine wp_cond_false rfl ?_
          refine wp_skip ?_
          refine then_n ?_
          refine wp_seq ?_
          refine wp_seq ?_
          refine wp_region_lit ?_
          refine s_val 75 rfl rfl (.bool false) (rfl) ?_
          refine nr ?_; intro U h; simp only [z0, z1] at h; subst h
          refine s_val 76 rfl rfl (.bool true) (run_nt _ _ rfl false rfl) ?_
          refine nr ?_; intro U h; simp only [z0, z1] at h; subst h
          refine wpList_nil ?_
          refine then_n ?_
          refine wp_cond_true rfl ?_
          refine wp_exit ?_
          refine then_x ?_
          refine blk_x ?_
          refine then_n ?_
          refine wp_region_lit ?_
          refine s_val 134 rfl rfl (.int .i64 ((i + 1 : Nat) : Int)) (run_addI 3 _ _ _ rfl ((i : Nat) : Int) 1 ((i + 1 : Nat) : Int) rfl rfl (by omega) (by omega) (by omega) _) ?_
          refine nr ?_; intro U h; simp only [z0, z1] at h; subst h
          refine s_val 39 rfl rfl (.int .i64 ((i + 1 : Nat) : Int)) (rfl) ?_
          refine nr ?_; intro U h; simp only [z0, z1] at h; subst h
          refine wpList_nil ?_
          refine then_n ?_
          exact ⟨L.length + 1 - (i + 1), by omega, i + 1, m, (fun kz => ([us1 0, .pointer (some ⟨g2, 0, none⟩), .pointer (some ⟨g3, 0, none⟩), .bool true, .bool false, us1 5, us1 6, us1 7, us1 8, .bool true, .pointer (pE ao1 i 0), .agg (enA (L.getD i zE)), .tuple #[.agg (enA (L.getD i zE)), .bool true], .pointer (some ⟨t, 0, none⟩), .pointer (some ⟨g2, 0, none⟩), .agg (paA (L.getD i zE).p), .tuple #[.agg (enA (L.getD i zE)), .bool true], .agg (enA (L.getD i zE)), .bool true, .int .i64 n, .bool true, .bool true, .pointer (some ⟨g2, 49, none⟩), .int .i64 (L.getD i zE).na, .int .i64 n, .bool false, .bool false, .pointer (some ⟨g2, 50, none⟩), .int .i64 (L.getD i zE).nb, .int .i64 n, .bool false, .bool false, .bool false, .bool true, .bool false, .bool false, .bool false, .bool true, .bool true, .agg (enA (L.getD i zE)), .agg (enA (L.getD i zE)), .bool false, .bool false, .bool false, .bool false, .bool true, us1 46, us1 47, us1 48, us1 49, us1 50, us1 51, us1 52, us1 53, us1 54, us1 55, us1 56, us1 57, us1 58, us1 59, us1 60, us1 61, us1 62, us1 63, us1 64, us1 65, us1 66, us1 67, us1 68, us1 69, us1 70, us1 71, us1 72, us1 73, us1 74, us1 75, us1 76, us1 77, us1 78, us1 79, us1 80, us1 81, us1 82, us1 83, us1 84, us1 85, us1 86, us1 87, us1 88, us1 89, us1 90, us1 91, us1 92, us1 93, us1 94, us1 95, us1 96, us1 97, us1 98, us1 99, us1 100, us1 101, us1 102, .int .i64 ((i + 1 : Nat) : Int)] : List Value).getD kz undef), rfl, rfl, by omega, by rw [fil_len_step _ hil, hv]; exact hm, GG, kt, HTt, kg1, HR1, HN2⟩
        · refine wp_region_lit ?_
          refine s_val 44 rfl rfl (.pointer (some ⟨t, 0, none⟩)) (rfl) ?_
          refine nr ?_; intro U h; simp only [z0, z1] at h; subst h
          refine s_val 45 rfl rfl (.pointer (some ⟨g2, 0, none⟩)) (run_fld 52 _ 0 rfl g2 0 rfl 0 (by kernel_rfl)) ?_
          refine nr ?_; intro U h; simp only [z0, z1] at h; subst h
          refine s_val 46 rfl rfl (.agg (paA (L.getD i zE).p)) (ldEp _ rfl g2 rfl (kg2)) ?_
          refine nr ?_; intro U h; simp only [z0, z1] at h; subst h
          have hym : (L.getD i zE) ∈ L := getD_inL hil
          have hv : viaF n (L.getD i zE) = true := via_t hg (.inr (of_decide_eq_true h2))
          have hdh := dead_has (n := n) hTI.ris.kn hym
          rw [hv] at hdh
          obtain ⟨z9, hz9⟩ : ∃ z, getV (deadL L n) (L.getD i zE).p = z := ⟨_, rfl⟩
          have hz9k : z9.ok := hz9 ▸ getV_ok HTt.all _
          refine s_callv 47 rfl rfl _ 18 Try.call18 rfl rfl _ rfl [.pointer (some ⟨t, 0, none⟩), .agg (paA (L.getD i zE).p)] rfl (get_e _ t b 128 (deadL L n) (kt) (HTt) (L.getD i zE).p (HR1.all.at hil).p z9 false hz9 hdh) ?_
          intro w9 G
          replace kt := G.has kt
          replace kg1 := G.has kg1
          replace kg2 := G.has kg2
          replace HTt := HTt.gro G
          replace HR1 := HR1.gro G
          replace HN2 := HN2.gro G
          replace GG := GG.trans G
          clear G
          refine nr ?_; intro U h; simp only [z0, z1] at h; subst h
          refine s_val 43 rfl rfl (.tuple #[.agg (enA z9), .bool false]) (rfl) ?_
          refine nr ?_; intro U h; simp only [z0, z1] at h; subst h
          refine s_val 48 rfl rfl (.agg (enA z9)) (rfl) ?_
          refine nr ?_; intro U h; simp only [z0, z1] at h; subst h
          refine s_val 49 rfl rfl (.bool false) (rfl) ?_
          refine nr ?_; intro U h; simp only [z0, z1] at h; subst h
          refine s_alloc 12 rfl rfl 52 rfl _ zero33 (enA zE) rfl ?_
          intro w10 g3 G eg3 kg3
          have bg3 := size_base GG eg3
          have dtg3 := lt_new kt eg3
          have dg1g3 := lt_new kg1 eg3
          have dg2g3 := lt_new kg2 eg3
          have dHTtg3 := HTt.ne eg3
          have dHR1g3 := HR1.ne eg3
          replace kt := G.has kt
          replace kg1 := G.has kg1
          replace kg2 := G.has kg2
          replace HTt := HTt.gro G
          replace HR1 := HR1.gro G
          replace HN2 := HN2.gro G
          replace GG := GG.trans G
          clear G
          clear eg3
          refine nr ?_; intro U h; simp only [z0, z1] at h; subst h
          refine s_store rfl rfl 52 _ _ rfl g3 0 rfl (.agg (enA z9)) rfl 52 _ kg3 (enA z9) rfl (si33' _) (enA_fit _ _) (enA_one _) (enA z9) (splice_whole _ _ (enA_sz _ _)) ?_
          intro w11 St
          have kS := kg3
          replace kt := St.has (by omega) kt
          replace kg1 := St.has (by omega) kg1
          replace kg2 := St.has (by omega) kg2
          replace HTt := HTt.st St dHTtg3
          replace HR1 := HR1.st St dHR1g3
          replace HN2 := HN2.st St kS (by decide) (by decide)
          replace GG := GG.store St bg3
          replace kg3 := St.new
          clear St
          refine s_val 13 rfl rfl (.bool false) (rfl) ?_
          refine nr ?_; intro U h; simp only [z0, z1] at h; subst h
          refine wpList_nil ?_
          refine then_n ?_
          refine wp_seq ?_
          refine wp_region_opq ?_
          intro OPS hY
          have y2 := hY 2 52 rfl
          have y7 := hY 7 57 rfl
          clear hY
          refine s_val 50 rfl rfl (.int .i64 n) (rfl) ?_
          refine nr ?_; intro U h; simp only [z0, z1] at h; subst h
          refine s_val 51 rfl rfl (.bool true) (run_geqT 3 _ _ _ rfl n 0 rfl rfl true hg _) ?_
          refine nr ?_; intro U h; simp only [z0, z1] at h; subst h
          refine s_val 52 rfl rfl (.bool true) (rfl) ?_
          refine nr ?_; intro U h; simp only [z0, z1] at h; subst h
          refine s_gvalY 53 rfl rfl y2 rfl (.pointer (some ⟨g2, 49, none⟩)) (run_fld 52 _ 3 rfl g2 0 rfl 49 (by kernel_rfl)) ?_
          refine nr ?_; intro U h; simp only [z0, z1] at h; subst h
          refine s_gvalY 54 rfl rfl y2 rfl (.int .i64 (L.getD i zE).na) (ldEna _ rfl g2 rfl (kg2)) ?_
          refine nr ?_; intro U h; simp only [z0, z1] at h; subst h
          refine s_gvalY 55 rfl rfl y2 rfl (.int .i64 n) (rfl) ?_
          refine nr ?_; intro U h; simp only [z0, z1] at h; subst h
          refine s_gvalY 56 rfl rfl y2 rfl (.bool false) (run_eq_k 3 .i64 _ _ _ rfl Try.underlying3 (L.getD i zE).na n rfl rfl false h1 _) ?_
          refine nr ?_; intro U h; simp only [z0, z1] at h; subst h
          refine s_gvalY 57 rfl rfl y2 rfl (.bool false) (rfl) ?_
          refine nr ?_; intro U h; simp only [z0, z1] at h; subst h
          refine s_gvalY 58 rfl rfl y7 rfl (.pointer (some ⟨g2, 50, none⟩)) (run_fld 52 _ 4 rfl g2 0 rfl 50 (by kernel_rfl)) ?_
          refine nr ?_; intro U h; simp only [z0, z1] at h; subst h
          refine s_gvalY 59 rfl rfl y7 rfl (.int .i64 (L.getD i zE).nb) (ldEnb _ rfl g2 rfl (kg2)) ?_
          refine nr ?_; intro U h; simp only [z0, z1] at h; subst h
          refine s_gvalY 60 rfl rfl y7 rfl (.int .i64 n) (rfl) ?_
          refine nr ?_; intro U h; simp only [z0, z1] at h; subst h
          refine s_gvalY 61 rfl rfl y7 rfl (.bool true) (run_eq_k 3 .i64 _ _ _ rfl Try.underlying3 (L.getD i zE).nb n rfl rfl true h2 _) ?_
          refine nr ?_; intro U h; simp only [z0, z1] at h; subst h
          refine s_gvalY 62 rfl rfl y2 rfl (.bool true) (rfl) ?_
          refine nr ?_; intro U h; simp only [z0, z1] at h; subst h
          refine s_val 63 rfl rfl (.bool true) (rfl) ?_
          refine nr ?_; intro U h; simp only [z0, z1] at h; subst h
          refine s_val 14 rfl rfl (.bool true) (rfl) ?_
          refine nr ?_; intro U h; simp only [z0, z1] at h; subst h
          refine wpList_nil ?_
          refine then_n ?_
          refine wp_seq ?_
          refine wp_seq ?_
          refine wp_region_opq ?_
          intro OPS hY
          have y3 := hY 3 67 rfl
          have y5 := hY 5 69 rfl
          clear hY
          refine s_val 64 rfl rfl (.bool false) (rfl) ?_
          refine nr ?_; intro U h; simp only [z0, z1] at h; subst h
          refine s_val 65 rfl rfl (.bool true) (rfl) ?_
          refine nr ?_; intro U h; simp only [z0, z1] at h; subst h
          refine s_val 66 rfl rfl (.bool false) (run_eqB 4 _ _ _ rfl false true rfl rfl Try.underlying4 false (by decide) _) ?_
          refine nr ?_; intro U h; simp only [z0, z1] at h; subst h
          refine s_val 67 rfl rfl (.bool false) (rfl) ?_
          refine nr ?_; intro U h; simp only [z0, z1] at h; subst h
          refine s_gvalY 68 rfl rfl y3 rfl (.bool false) (rfl) ?_
          refine nr ?_; intro U h; simp only [z0, z1] at h; subst h
          refine s_gvalY 69 rfl rfl y3 rfl (.bool false) (rfl) ?_
          refine nr ?_; intro U h; simp only [z0, z1] at h; subst h
          refine s_skipY 70 rfl rfl y5 rfl ?_
          refine nr ?_; intro U h; simp only [z0, z1] at h; subst h
          refine s_skipY 71 rfl rfl y5 rfl ?_
          refine nr ?_; intro U h; simp only [z0, z1] at h; subst h
          refine s_skipY 72 rfl rfl y5 rfl ?_
          refine nr ?_; intro U h; simp only [z0, z1] at h; subst h
          refine s_gvalY 73 rfl rfl y3 rfl (.bool false) (rfl) ?_
          refine nr ?_; intro U h; simp only [z0, z1] at h; subst h
          refine s_val 74 rfl rfl (.bool false) (rfl) ?_
          refine nr ?_; intro U h; simp only [z0, z1] at h; subst h
          refine wpList_nil ?_
          refine then_n ?_
          refine wp_cond_false rfl ?_
          refine wp_skip ?_
          refine then_n ?_
          refine wp_seq ?_
          refine wp_seq ?_
          refine wp_region_lit ?_
          refine s_val 75 rfl rfl (.bool true) (rfl) ?_
          refine nr ?_; intro U h; simp only [z0, z1] at h; subst h
          refine s_val 76 rfl rfl (.bool false) (run_nt _ _ rfl true rfl) ?_
          refine nr ?_; intro U h; simp only [z0, z1] at h; subst h
          refine wpList_nil ?_
          refine then_n ?_
          refine wp_cond_false rfl ?_
          refine wp_skip ?_
          refine then_n ?_
          refine wp_seq ?_
          refine wp_region_lit ?_
          refine s_val 77 rfl rfl (.int .i64 ((m : Nat) : Int)) (rfl) ?_
          refine nr ?_; intro U h; simp only [z0, z1] at h; subst h
          refine s_val 78 rfl rfl (.int .i64 ((m + 1 : Nat) : Int)) (run_addI 3 _ _ _ rfl ((m : Nat) : Int) 1 ((m + 1 : Nat) : Int) rfl rfl (by omega) (by omega) (by omega) _) ?_
          refine nr ?_; intro U h; simp only [z0, z1] at h; subst h
          refine s_val 9 rfl rfl (.int .i64 ((m + 1 : Nat) : Int)) (rfl) ?_
          refine nr ?_; intro U h; simp only [z0, z1] at h; subst h
          refine wpList_nil ?_
          refine then_n ?_
          refine wp_seq ?_
          have hos := othS_sum (hTI.rgt _ hym) hv
          obtain ⟨_, hr1, hr2, _⟩ := rgt_iff.1 (hTI.rgt _ hym)
          have hoe := hos.1
          have hon : -1 ≤ (othS (L.getD i zE) n) ∧ (othS (L.getD i zE) n) < 6 := by unfold othS; split <;> omega
          refine wp_region_lit ?_
          refine s_val 79 rfl rfl (.pointer (some ⟨g2, 49, none⟩)) (run_fld 52 _ 3 rfl g2 0 rfl 49 (by kernel_rfl)) ?_
          refine nr ?_; intro U h; simp only [z0, z1] at h; subst h
          refine s_val 80 rfl rfl (.int .i64 (L.getD i zE).na) (ldEna _ rfl g2 rfl (kg2)) ?_
          refine nr ?_; intro U h; simp only [z0, z1] at h; subst h
          refine s_val 81 rfl rfl (.pointer (some ⟨g2, 50, none⟩)) (run_fld 52 _ 4 rfl g2 0 rfl 50 (by kernel_rfl)) ?_
          refine nr ?_; intro U h; simp only [z0, z1] at h; subst h
          refine s_val 82 rfl rfl (.int .i64 (L.getD i zE).nb) (ldEnb _ rfl g2 rfl (kg2)) ?_
          refine nr ?_; intro U h; simp only [z0, z1] at h; subst h
          refine s_val 83 rfl rfl (.int .i64 ((L.getD i zE).na + (L.getD i zE).nb)) (run_addI 3 _ _ _ rfl (L.getD i zE).na (L.getD i zE).nb ((L.getD i zE).na + (L.getD i zE).nb) rfl rfl (by omega) (by omega) (by omega) _) ?_
          refine nr ?_; intro U h; simp only [z0, z1] at h; subst h
          refine s_val 84 rfl rfl (.int .i64 n) (rfl) ?_
          refine nr ?_; intro U h; simp only [z0, z1] at h; subst h
          refine s_val 85 rfl rfl (.int .i64 (othS (L.getD i zE) n)) (run_subI 3 _ _ _ rfl ((L.getD i zE).na + (L.getD i zE).nb) n (othS (L.getD i zE) n) rfl rfl (by omega) (by omega) (by omega) _) ?_
          refine nr ?_; intro U h; simp only [z0, z1] at h; subst h
          refine s_val 15 rfl rfl (.int .i64 (othS (L.getD i zE) n)) (rfl) ?_
          refine nr ?_; intro U h; simp only [z0, z1] at h; subst h
          refine wpList_nil ?_
          refine then_n ?_
          refine wp_seq ?_
          refine wp_region_lit ?_
          refine s_val 16 rfl rfl (.int .i64 0) (rfl) ?_
          refine nr ?_; intro U h; simp only [z0, z1] at h; subst h
          refine wpList_nil ?_
          refine then_n ?_
          refine wp_seq ?_
          refine wp_seq ?_
          refine wp_region_lit ?_
          refine s_val 86 rfl rfl (.pointer (some ⟨g1, 0, none⟩)) (run_fld 34 _ 0 rfl g1 0 rfl 0 (by kernel_rfl)) ?_
          refine nr ?_; intro U h; simp only [z0, z1] at h; subst h
          refine s_val 87 rfl rfl (.slice ao2 H2.length c2) (ldT_o _ rfl g1 rfl (kg1)) ?_
          refine nr ?_; intro U h; simp only [z0, z1] at h; subst h
          refine s_val 88 rfl rfl (.int .i64 ((H2.length : Nat) : Int)) (run_len Try.underlying31 _ rfl _ _ _ rfl _) ?_
          refine nr ?_; intro U h; simp only [z0, z1] at h; subst h
          refine s_val 89 rfl rfl (.int .i64 0) (rfl) ?_
          refine nr ?_; intro U h; simp only [z0, z1] at h; subst h
          refine wpList_nil ?_
          refine then_n ?_
          refine wp_block ?_
          refine wp_loopN (fun mz az wv => ∃ (j : Nat) (k : Nat) (us2 : Nat → Value), mz = H2.length + 1 - j ∧ az = ⟨[.slice ae E.length ce, .int .i64 n, undef, undef, us1 0, .pointer (some ⟨t, 0, none⟩), .pointer (some ⟨r, 0, none⟩), .slice ao1 L.length cap1, .pointer (some ⟨g1, 0, none⟩), .int .i64 ((m + 1 : Nat) : Int), undef, .pointer (some ⟨g2, 0, none⟩), .pointer (some ⟨g3, 0, none⟩), .bool false, .bool true, .int .i64 (othS (L.getD i zE) n), .int .i64 ((k : Nat) : Int), undef, us2 0, undef, us1 8, .tuple #[.pointer (some ⟨t, 0, none⟩), .pointer (some ⟨r, 0, none⟩)], .slice ae E.length ce, .tuple #[.pointer (some ⟨t, 0, none⟩), .pointer (some ⟨r, 0, none⟩)], .pointer (some ⟨t, 0, none⟩), .pointer (some ⟨r, 0, none⟩), .pointer (some ⟨t, 0, none⟩), .bool false, .bool false, .bool true, .bool false, .bool false, .pointer (some ⟨t, 0, none⟩), .slice ao1 L.length cap1, .pointer (some ⟨t, 0, none⟩), .int .i64 n, .agg (tnA ao2 H2.length c2 bo2 (deadT L n).lost.length d2), .slice ao1 L.length cap1, .int .i64 ((L.length : Nat) : Int), .int .i64 ((i : Nat) : Int), .bool true, .pointer (pE ao1 i 0), .agg (enA (L.getD i zE)), .tuple #[.agg (enA z9), .bool false], .pointer (some ⟨t, 0, none⟩), .pointer (some ⟨g2, 0, none⟩), .agg (paA (L.getD i zE).p), .tuple #[.agg (enA z9), .bool false], .agg (enA z9), .bool false, .int .i64 n, .bool true, .bool true, .pointer (some ⟨g2, 49, none⟩), .int .i64 (L.getD i zE).na, .int .i64 n, .bool false, .bool false, .pointer (some ⟨g2, 50, none⟩), .int .i64 (L.getD i zE).nb, .int .i64 n, .bool true, .bool true, .bool true, .bool false, .bool true, .bool false, .bool false, .bool false, .bool false, undef, undef, undef, .bool false, .bool false, .bool true, .bool false, .int .i64 ((m : Nat) : Int), .int .i64 ((m + 1 : Nat) : Int), .pointer (some ⟨g2, 49, none⟩), .int .i64 (L.getD i zE).na, .pointer (some ⟨g2, 50, none⟩), .int .i64 (L.getD i zE).nb, .int .i64 ((L.getD i zE).na + (L.getD i zE).nb), .int .i64 n, .int .i64 (othS (L.getD i zE) n), .pointer (some ⟨g1, 0, none⟩), .slice ao2 H2.length c2, .int .i64 ((H2.length : Nat) : Int), .int .i64 ((j : Nat) : Int), us2 1, us2 2, us2 3, us2 4, us2 5, us2 6, us2 7, us2 8, us2 9, us2 10, us2 11, us2 12, us2 13, us2 14, us2 15, us2 16, us2 17, us2 18, us2 19, us2 20, us2 21, us2 22, us2 23, us2 24, us1 83, us1 84, us1 85, us1 86, us1 87, us1 88, us1 89, us1 90, us1 91, us1 92, us1 93, us1 94, us1 95, us1 96, us1 97, us1 98, us1 99, us1 100, us1 101, us1 102, us1 103, undef, undef, undef, undef, undef, undef, undef, undef, undef, undef, undef, undef, undef, undef, undef, undef].toArray, []⟩ ∧ j ≤ H2.length ∧ k = (H2.take j).countP (cH (L.getD i zE) n) ∧ Gro w wv ∧ wv.heap[t]? = some (.cells (tbA 128 b) 83 (0, 0)) ∧ TM wv b (deadL L n) ∧ wv.heap[g1]? = some (.cells (tnA ao2 H2.length c2 bo2 (deadT L n).lost.length d2) 34 (0, 0)) ∧ wv.heap[g2]? = some (.cells (enA (L.getD i zE)) 52 (0, 0)) ∧ RE wv ao1 cap1 L ∧ TnP wv w.heap.size (deadT L n) ao2 c2 H2 bo2 d2) ?_ _ ⟨0, 0, (fun kz => ([us1 7, us1 59, us1 60, us1 61, us1 62, us1 63, us1 64, us1 65, us1 66, us1 67, us1 68, us1 69, us1 70, us1 71, us1 72, us1 73, us1 74, us1 75, us1 76, us1 77, us1 78, us1 79, us1 80, us1 81, us1 82] : List Value).getD kz undef), rfl, rfl, Nat.zero_le _, rfl, GG, kt, HTt, kg1, kg2, HR1, HN2⟩
          clear GG kt kg1 kg2 HTt HR1 HN2
          rintro mz az wv ⟨j, k, us2, rfl, rfl, hj, hk, GG, kt, HTt, kg1, kg2, HR1, HN2⟩
          have hkb : k ≤ H2.length := by rw [hk]; exact cnt_le _ _ _
          refine wp_seq ?_
          refine wp_region_lit ?_
          cases hj1 : decide (((j : Nat) : Int) < ((H2.length : Nat) : Int))
          · have hje : j = H2.length := by have := of_decide_eq_false hj1; omega
            rw [hje, List.take_length] at hk
            refine s_val 90 rfl rfl (.bool false) (run_lssT 3 _ _ _ rfl ((j : Nat) : Int) ((H2.length : Nat) : Int) rfl rfl false hj1 _) ?_
            refine nr ?_; intro U h; simp only [z0, z1] at h; subst h
            refine wpList_nil ?_
            refine then_n ?_
            refine wp_seq ?_
            refine wp_cond_false rfl ?_
            refine wp_exit ?_
            refine then_x ?_
            refine then_x ?_
            refine blk_x ?_
            refine then_n ?_
            refine wp_seq ?_
            refine wp_seq ?_
            refine wp_region_lit ?_
            refine s_val 114 rfl rfl (.pointer (some ⟨g1, 1, none⟩)) (run_fld 34 _ 1 rfl g1 0 rfl 1 (by kernel_rfl)) ?_
            refine nr ?_; intro U h; simp only [z0, z1] at h; subst h
            refine s_val 115 rfl rfl (.slice bo2 (deadT L n).lost.length d2) (ldT_l _ rfl g1 rfl (kg1)) ?_
            refine nr ?_; intro U h; simp only [z0, z1] at h; subst h
            refine s_val 116 rfl rfl (.int .i64 (((deadT L n).lost.length : Nat) : Int)) (run_len Try.underlying32 _ rfl _ _ _ rfl _) ?_
            refine nr ?_; intro U h; simp only [z0, z1] at h; subst h
            refine s_val 117 rfl rfl (.int .i64 0) (rfl) ?_
            refine nr ?_; intro U h; simp only [z0, z1] at h; subst h
            refine wpList_nil ?_
            refine then_n ?_
            refine wp_block ?_
            refine wp_loopN (fun mz az wv => ∃ (u2 : Nat) (k2 : Nat) (us3 : Nat → Value), mz = (deadT L n).lost.length + 1 - u2 ∧ az = ⟨[.slice ae E.length ce, .int .i64 n, undef, undef, us1 0, .pointer (some ⟨t, 0, none⟩), .pointer (some ⟨r, 0, none⟩), .slice ao1 L.length cap1, .pointer (some ⟨g1, 0, none⟩), .int .i64 ((m + 1 : Nat) : Int), undef, .pointer (some ⟨g2, 0, none⟩), .pointer (some ⟨g3, 0, none⟩), .bool false, .bool true, .int .i64 (othS (L.getD i zE) n), .int .i64 ((k2 : Nat) : Int), undef, us2 0, undef, us3 0, .tuple #[.pointer (some ⟨t, 0, none⟩), .pointer (some ⟨r, 0, none⟩)], .slice ae E.length ce, .tuple #[.pointer (some ⟨t, 0, none⟩), .pointer (some ⟨r, 0, none⟩)], .pointer (some ⟨t, 0, none⟩), .pointer (some ⟨r, 0, none⟩), .pointer (some ⟨t, 0, none⟩), .bool false, .bool false, .bool true, .bool false, .bool false, .pointer (some ⟨t, 0, none⟩), .slice ao1 L.length cap1, .pointer (some ⟨t, 0, none⟩), .int .i64 n, .agg (tnA ao2 H2.length c2 bo2 (deadT L n).lost.length d2), .slice ao1 L.length cap1, .int .i64 ((L.length : Nat) : Int), .int .i64 ((i : Nat) : Int), .bool true, .pointer (pE ao1 i 0), .agg (enA (L.getD i zE)), .tuple #[.agg (enA z9), .bool false], .pointer (some ⟨t, 0, none⟩), .pointer (some ⟨g2, 0, none⟩), .agg (paA (L.getD i zE).p), .tuple #[.agg (enA z9), .bool false], .agg (enA z9), .bool false, .int .i64 n, .bool true, .bool true, .pointer (some ⟨g2, 49, none⟩), .int .i64 (L.getD i zE).na, .int .i64 n, .bool false, .bool false, .pointer (some ⟨g2, 50, none⟩), .int .i64 (L.getD i zE).nb, .int .i64 n, .bool true, .bool true, .bool true, .bool false, .bool true, .bool false, .bool false, .bool false, .bool false, undef, undef, undef, .bool false, .bool false, .bool true, .bool false, .int .i64 ((m : Nat) : Int), .int .i64 ((m + 1 : Nat) : Int), .pointer (some ⟨g2, 49, none⟩), .int .i64 (L.getD i zE).na, .pointer (some ⟨g2, 50, none⟩), .int .i64 (L.getD i zE).nb, .int .i64 ((L.getD i zE).na + (L.getD i zE).nb), .int .i64 n, .int .i64 (othS (L.getD i zE) n), .pointer (some ⟨g1, 0, none⟩), .slice ao2 H2.length c2, .int .i64 ((H2.length : Nat) : Int), .int .i64 ((j : Nat) : Int), .bool false, us2 2, us2 3, us2 4, us2 5, us2 6, us2 7, us2 8, us2 9, us2 10, us2 11, us2 12, us2 13, us2 14, us2 15, us2 16, us2 17, us2 18, us2 19, us2 20, us2 21, us2 22, us2 23, us2 24, .pointer (some ⟨g1, 1, none⟩), .slice bo2 (deadT L n).lost.length d2, .int .i64 (((deadT L n).lost.length : Nat) : Int), .int .i64 ((u2 : Nat) : Int), us3 1, us3 2, us3 3, us3 4, us3 5, us3 6, us3 7, us3 8, us3 9, us3 10, us3 11, us3 12, us3 13, us3 14, us1 101, us1 102, us1 103, undef, undef, undef, undef, undef, undef, undef, undef, undef, undef, undef, undef, undef, undef, undef, undef].toArray, []⟩ ∧ u2 ≤ (deadT L n).lost.length ∧ k2 = k + ((deadT L n).lost.take u2).countP (cP (L.getD i zE) n) ∧ Gro w wv ∧ wv.heap[t]? = some (.cells (tbA 128 b) 83 (0, 0)) ∧ TM wv b (deadL L n) ∧ wv.heap[g1]? = some (.cells (tnA ao2 H2.length c2 bo2 (deadT L n).lost.length d2) 34 (0, 0)) ∧ wv.heap[g2]? = some (.cells (enA (L.getD i zE)) 52 (0, 0)) ∧ RE wv ao1 cap1 L ∧ TnP wv w.heap.size (deadT L n) ao2 c2 H2 bo2 d2) ?_ _ ⟨0, k, (fun kz => ([us1 8, us1 87, us1 88, us1 89, us1 90, us1 91, us1 92, us1 93, us1 94, us1 95, us1 96, us1 97, us1 98, us1 99, us1 100] : List Value).getD kz undef), rfl, rfl, Nat.zero_le _, (by rw [List.take_zero]; rfl), GG, kt, HTt, kg1, kg2, HR1, HN2⟩
            clear GG kt kg1 kg2 HTt HR1 HN2
            rintro mz az wv ⟨u2, k2, us3, rfl, rfl, hj2, hk2, GG, kt, HTt, kg1, kg2, HR1, HN2⟩
            have hkb2 : k2 ≤ k + (deadT L n).lost.length := by rw [hk2]; exact Nat.add_le_add_left (cnt_le _ _ _) _
            refine wp_seq ?_
            refine wp_region_lit ?_
            cases hu1 : decide (((u2 : Nat) : Int) < (((deadT L n).lost.length : Nat) : Int))
            · have hue : u2 = (deadT L n).lost.length := by have := of_decide_eq_false hu1; omega
              rw [hue, List.take_length] at hk2
              have hone : k2 = 1 := by rw [hk2, hk, cH_out HN2.eq, cP_lost]; exact told_once hTI.ris.kn hTI.rgt hym hv
              refine s_val 118 rfl rfl (.bool false) (run_lssT 3 _ _ _ rfl ((u2 : Nat) : Int) (((deadT L n).lost.length : Nat) : Int) rfl rfl false hu1 _) ?_
              refine nr ?_; intro U h; simp only [z0, z1] at h; subst h
              refine wpList_nil ?_
              refine then_n ?_
              refine wp_seq ?_
              refine wp_cond_false rfl ?_
              refine wp_exit ?_
              refine then_x ?_
              refine then_x ?_
              refine blk_x ?_
              refine then_n ?_
              refine wp_seq ?_
              refine wp_region_lit ?_
              refine s_val 132 rfl rfl (.int .i64 ((k2 : Nat) : Int)) (rfl) ?_
              refine nr ?_; intro U h; simp only [z0, z1] at h; subst h
              refine s_val 133 rfl rfl (.bool false) (run_neq_k 3 .i64 _ _ _ rfl Try.underlying3 ((k2 : Nat) : Int) 1 rfl rfl false (decide_eq_true (by rw [hone]; rfl)) _) ?_
              refine nr ?_; intro U h; simp only [z0, z1] at h; subst h
              refine wpList_nil ?_
              refine then_n ?_
              refine wp_cond_false rfl ?_
              refine wp_skip ?_
              refine blk_n ?_
              refine then_n ?_
              refine wp_region_lit ?_
              refine s_val 134 rfl rfl (.int .i64 ((i + 1 : Nat) : Int)) (run_addI 3 _ _ _ rfl ((i : Nat) : Int) 1 ((i + 1 : Nat) : Int) rfl rfl (by omega) (by omega) (by omega) _) ?_
              refine nr ?_; intro U h; simp only [z0, z1] at h; subst h
              refine s_val 39 rfl rfl (.int .i64 ((i + 1 : Nat) : Int)) (rfl) ?_
              refine nr ?_; intro U h; simp only [z0, z1] at h; subst h
              refine wpList_nil ?_
              refine then_n ?_
              exact ⟨L.length + 1 - (i + 1), by omega, i + 1, m + 1, (fun kz => ([us1 0, .pointer (some ⟨g2, 0, none⟩), .pointer (some ⟨g3, 0, none⟩), .bool false, .bool true, .int .i64 (othS (L.getD i zE) n), .int .i64 ((k2 : Nat) : Int), us2 0, us3 0, .bool true, .pointer (pE ao1 i 0), .agg (enA (L.getD i zE)), .tuple #[.agg (enA z9), .bool false], .pointer (some ⟨t, 0, none⟩), .pointer (some ⟨g2, 0, none⟩), .agg (paA (L.getD i zE).p), .tuple #[.agg (enA z9), .bool false], .agg (enA z9), .bool false, .int .i64 n, .bool true, .bool true, .pointer (some ⟨g2, 49, none⟩), .int .i64 (L.getD i zE).na, .int .i64 n, .bool false, .bool false, .pointer (some ⟨g2, 50, none⟩), .int .i64 (L.getD i zE).nb, .int .i64 n, .bool true, .bool true, .bool true, .bool false, .bool true, .bool false, .bool false, .bool false, .bool false, undef, undef, undef, .bool false, .bool false, .bool true, .bool false, .int .i64 ((m : Nat) : Int), .int .i64 ((m + 1 : Nat) : Int), .pointer (some ⟨g2, 49, none⟩), .int .i64 (L.getD i zE).na, .pointer (some ⟨g2, 50, none⟩), .int .i64 (L.getD i zE).nb, .int .i64 ((L.getD i zE).na + (L.getD i zE).nb), .int .i64 n, .int .i64 (othS (L.getD i zE) n), .pointer (some ⟨g1, 0, none⟩), .slice ao2 H2.length c2, .int .i64 ((H2.length : Nat) : Int), .int .i64 ((j : Nat) : Int), .bool false, us2 2, us2 3, us2 4, us2 5, us2 6, us2 7, us2 8, us2 9, us2 10, us2 11, us2 12, us2 13, us2 14, us2 15, us2 16, us2 17, us2 18, us2 19, us2 20, us2 21, us2 22, us2 23, us2 24, .pointer (some ⟨g1, 1, none⟩), .slice bo2 (deadT L n).lost.length d2, .int .i64 (((deadT L n).lost.length : Nat) : Int), .int .i64 ((u2 : Nat) : Int), .bool false, us3 2, us3 3, us3 4, us3 5, us3 6, us3 7, us3 8, us3 9, us3 10, us3 11, us3 12, us3 13, us3 14, .int .i64 ((k2 : Nat) : Int), .bool false, .int .i64 ((i + 1 : Nat) : Int)] : List Value).getD kz undef), rfl, rfl, by omega, by rw [fil_len_step _ hil, hv]; exact congrArg (· + 1) hm, GG, kt, HTt, kg1, HR1, HN2⟩
            · have hul : u2 < (deadT L n).lost.length := by have := of_decide_eq_true hu1; omega
              refine s_val 118 rfl rfl (.bool true) (run_lssT 3 _ _ _ rfl ((u2 : Nat) : Int) (((deadT L n).lost.length : Nat) : Int) rfl rfl true hu1 _) ?_
              refine nr ?_; intro U h; simp only [z0, z1] at h; subst h
              refine wpList_nil ?_
              refine then_n ?_
              refine wp_seq ?_
              refine wp_cond_true rfl ?_
              refine wp_skip ?_
              refine then_n ?_
              refine wp_seq ?_
              refine wp_block ?_
              refine wp_seq ?_
              refine wp_region_lit ?_
              refine s_val 119 rfl rfl (.pointer (pK kP bo2 u2 0)) (run_ixK rP (HN2.lost.re) _ _ rfl rfl u2 rfl (by omega)) ?_
              refine nr ?_; intro U h; simp only [z0, z1] at h; subst h
              refine s_val 120 rfl rfl (.agg (paA ((deadT L n).lost.getD u2 zP))) (run_ldPp (HN2.lost.re) _ rfl u2 rfl (by omega)) ?_
              refine nr ?_; intro U h; simp only [z0, z1] at h; subst h
              refine s_alloc 20 rfl rfl 26 rfl _ zvP (paA zP) rfl ?_
              intro w12 g4 G eg4 kg4
              have bg4 := size_base GG eg4
              have dAg4 : g4 ∉ Go.Proofs.Ytmpnepbmpmkmkaa.blk ao2 := fun hm9 => by have := HN2.out.own.lt g4 hm9; omega
              have dBg4 : g4 ∉ Go.Proofs.Ytmpnepbmpmkmkaa.blk bo2 := fun hm9 => by have := HN2.lost.own.lt g4 hm9; omega
              have dtg4 := lt_new kt eg4
              have dg1g4 := lt_new kg1 eg4
              have dg2g4 := lt_new kg2 eg4
              have dHTtg4 := HTt.ne eg4
              have dHR1g4 := HR1.ne eg4
              replace kt := G.has kt
              replace kg1 := G.has kg1
              replace kg2 := G.has kg2
              replace HTt := HTt.gro G
              replace HR1 := HR1.gro G
              replace HN2 := HN2.gro G
              replace GG := GG.trans G
              clear G
              clear eg4
              refine nr ?_; intro U h; simp only [z0, z1] at h; subst h
              refine s_store rfl rfl 26 _ _ rfl g4 0 rfl (.agg (paA ((deadT L n).lost.getD u2 zP))) rfl 26 _ kg4 (paA ((deadT L n).lost.getD u2 zP)) rfl (si31' _) (paA_fit _ _) (paA_one _) (paA ((deadT L n).lost.getD u2 zP)) (splice_whole _ _ (paA_sz _ _)) ?_
              intro w13 St
              have kS := kg4
              replace kt := St.has (by omega) kt
              replace kg1 := St.has (by omega) kg1
              replace kg2 := St.has (by omega) kg2
              replace HTt := HTt.st St dHTtg4
              replace HR1 := HR1.st St dHR1g4
              replace HN2 := HN2.stN St dAg4 dBg4
              replace GG := GG.store St bg4
              replace kg4 := St.new
              clear St
              refine wpList_nil ?_
              refine then_n ?_
              refine wp_seq ?_
              refine wp_region_opq ?_
              intro OPS hY
              have y4 := hY 4 125 rfl
              clear hY
              refine s_val 121 rfl rfl (.agg (paA ((deadT L n).lost.getD u2 zP))) (ldP0 _ rfl g4 rfl (kg4)) ?_
              refine nr ?_; intro U h; simp only [z0, z1] at h; subst h
              refine s_val 122 rfl rfl (.pointer (some ⟨g2, 0, none⟩)) (run_fld 52 _ 0 rfl g2 0 rfl 0 (by kernel_rfl)) ?_
              refine nr ?_; intro U h; simp only [z0, z1] at h; subst h
              refine s_val 123 rfl rfl (.agg (paA (L.getD i zE).p)) (ldEp _ rfl g2 rfl (kg2)) ?_
              refine nr ?_; intro U h; simp only [z0, z1] at h; subst h
              cases q3 : decide (((deadT L n).lost.getD u2 zP) = (L.getD i zE).p)
              · refine s_val 124 rfl rfl (.bool false) (run_eqP _ _ _ rfl _ _ rfl rfl (HN2.lost.re.at hul) (HR1.all.at (by omega)).p false q3) ?_
                refine nr ?_; intro U h; simp only [z0, z1] at h; subst h
                refine s_val 125 rfl rfl (.bool false) (rfl) ?_
                refine nr ?_; intro U h; simp only [z0, z1] at h; subst h
                refine s_skipY 126 rfl rfl y4 rfl ?_
                refine nr ?_; intro U h; simp only [z0, z1] at h; subst h
                refine s_skipY 127 rfl rfl y4 rfl ?_
                refine nr ?_; intro U h; simp only [z0, z1] at h; subst h
                refine s_val 128 rfl rfl (.bool false) (rfl) ?_
                refine nr ?_; intro U h; simp only [z0, z1] at h; subst h
                refine wpList_nil ?_
                refine then_n ?_
                refine wp_cond_false rfl ?_
                refine wp_skip ?_
                refine blk_n ?_
                refine then_n ?_
                refine wp_region_lit ?_
                refine s_val 131 rfl rfl (.int .i64 ((u2 + 1 : Nat) : Int)) (run_addI 3 _ _ _ rfl ((u2 : Nat) : Int) 1 ((u2 + 1 : Nat) : Int) rfl rfl (by omega) (by omega) (by omega) _) ?_
                refine nr ?_; intro U h; simp only [z0, z1] at h; subst h
                refine s_val 117 rfl rfl (.int .i64 ((u2 + 1 : Nat) : Int)) (rfl) ?_
                refine nr ?_; intro U h; simp only [z0, z1] at h; subst h
                refine wpList_nil ?_
                refine then_n ?_
                have hc : cP (L.getD i zE) n ((deadT L n).lost.getD u2 zP) = false := by unfold cP; rw [eqP_eq, q3]; rfl
                exact ⟨(deadT L n).lost.length + 1 - (u2 + 1), by omega, u2 + 1, k2, (fun kz => ([.pointer (some ⟨g4, 0, none⟩), .bool true, .pointer (pK kP bo2 u2 0), .agg (paA ((deadT L n).lost.getD u2 zP)), .agg (paA ((deadT L n).lost.getD u2 zP)), .pointer (some ⟨g2, 0, none⟩), .agg (paA (L.getD i zE).p), .bool false, .bool false, undef, undef, .bool false, us3 12, us3 13, .int .i64 ((u2 + 1 : Nat) : Int)] : List Value).getD kz undef), rfl, rfl, by omega, by rw [cnt_step zP _ hul, hc, hk2]; first | rfl | (simp only [Bool.false_eq_true, if_false, Nat.add_zero]), GG, kt, HTt, kg1, kg2, HR1, HN2⟩
              · refine s_val 124 rfl rfl (.bool true) (run_eqP _ _ _ rfl _ _ rfl rfl (HN2.lost.re.at hul) (HR1.all.at (by omega)).p true q3) ?_
                refine nr ?_; intro U h; simp only [z0, z1] at h; subst h
                refine s_val 125 rfl rfl (.bool true) (rfl) ?_
                refine nr ?_; intro U h; simp only [z0, z1] at h; subst h
                refine s_gvalY 126 rfl rfl y4 rfl (.int .i64 (othS (L.getD i zE) n)) (rfl) ?_
                refine nr ?_; intro U h; simp only [z0, z1] at h; subst h
                cases q4 : decide ((othS (L.getD i zE) n) = -1)
                · refine s_gvalY 127 rfl rfl y4 rfl (.bool false) (run_eq_k 3 .i64 _ _ _ rfl Try.underlying3 (othS (L.getD i zE) n) (-1) rfl rfl false q4 _) ?_
                  refine nr ?_; intro U h; simp only [z0, z1] at h; subst h
                  refine s_val 128 rfl rfl (.bool false) (rfl) ?_
                  refine nr ?_; intro U h; simp only [z0, z1] at h; subst h
                  refine wpList_nil ?_
                  refine then_n ?_
                  refine wp_cond_false rfl ?_
                  refine wp_skip ?_
                  refine blk_n ?_
                  refine then_n ?_
                  refine wp_region_lit ?_
                  refine s_val 131 rfl rfl (.int .i64 ((u2 + 1 : Nat) : Int)) (run_addI 3 _ _ _ rfl ((u2 : Nat) : Int) 1 ((u2 + 1 : Nat) : Int) rfl rfl (by omega) (by omega) (by omega) _) ?_
                  refine nr ?_; intro U h; simp only [z0, z1] at h; subst h
                  refine s_val 117 rfl rfl (.int .i64 ((u2 + 1 : Nat) : Int)) (rfl) ?_
                  refine nr ?_; intro U h; simp only [z0, z1] at h; subst h
                  refine wpList_nil ?_
                  refine then_n ?_
                  have hc : cP (L.getD i zE) n ((deadT L n).lost.getD u2 zP) = false := by unfold cP; rw [eqP_eq, q3, q4]; rfl
                  exact ⟨(deadT L n).lost.length + 1 - (u2 + 1), by omega, u2 + 1, k2, (fun kz => ([.pointer (some ⟨g4, 0, none⟩), .bool true, .pointer (pK kP bo2 u2 0), .agg (paA ((deadT L n).lost.getD u2 zP)), .agg (paA ((deadT L n).lost.getD u2 zP)), .pointer (some ⟨g2, 0, none⟩), .agg (paA (L.getD i zE).p), .bool true, .bool true, .int .i64 (othS (L.getD i zE) n), .bool false, .bool false, us3 12, us3 13, .int .i64 ((u2 + 1 : Nat) : Int)] : List Value).getD kz undef), rfl, rfl, by omega, by rw [cnt_step zP _ hul, hc, hk2]; first | rfl | (simp only [Bool.false_eq_true, if_false, Nat.add_zero]), GG, kt, HTt, kg1, kg2, HR1, HN2⟩
                · refine s_gvalY 127 rfl rfl y4 rfl (.bool true) (run_eq_k 3 .i64 _ _ _ rfl Try.underlying3 (othS (L.getD i zE) n) (-1) rfl rfl true q4 _) ?_
                  refine nr ?_; intro U h; simp only [z0, z1] at h; subst h
                  refine s_val 128 rfl rfl (.bool true) (rfl) ?_
                  refine nr ?_; intro U h; simp only [z0, z1] at h; subst h
                  refine wpList_nil ?_
                  refine then_n ?_
                  refine wp_cond_true rfl ?_
                  refine wp_region_lit ?_
                  refine s_val 129 rfl rfl (.int .i64 ((k2 : Nat) : Int)) (rfl) ?_
                  refine nr ?_; intro U h; simp only [z0, z1] at h; subst h
                  refine s_val 130 rfl rfl (.int .i64 ((k2 + 1 : Nat) : Int)) (run_addI 3 _ _ _ rfl ((k2 : Nat) : Int) 1 ((k2 + 1 : Nat) : Int) rfl rfl (by omega) (by omega) (by omega) _) ?_
                  refine nr ?_; intro U h; simp only [z0, z1] at h; subst h
                  refine s_val 16 rfl rfl (.int .i64 ((k2 + 1 : Nat) : Int)) (rfl) ?_
                  refine nr ?_; intro U h; simp only [z0, z1] at h; subst h
                  refine wpList_nil ?_
                  refine blk_n ?_
                  refine then_n ?_
                  refine wp_region_lit ?_
                  refine s_val 131 rfl rfl (.int .i64 ((u2 + 1 : Nat) : Int)) (run_addI 3 _ _ _ rfl ((u2 : Nat) : Int) 1 ((u2 + 1 : Nat) : Int) rfl rfl (by omega) (by omega) (by omega) _) ?_
                  refine nr ?_; intro U h; simp only [z0, z1] at h; subst h
                  refine s_val 117 rfl rfl (.int .i64 ((u2 + 1 : Nat) : Int)) (rfl) ?_
                  refine nr ?_; intro U h; simp only [z0, z1] at h; subst h
                  refine wpList_nil ?_
                  refine then_n ?_
                  have hc : cP (L.getD i zE) n ((deadT L n).lost.getD u2 zP) = true := by unfold cP; rw [eqP_eq, q3, q4]; rfl
                  exact ⟨(deadT L n).lost.length + 1 - (u2 + 1), by omega, u2 + 1, k2 + 1, (fun kz => ([.pointer (some ⟨g4, 0, none⟩), .bool true, .pointer (pK kP bo2 u2 0), .agg (paA ((deadT L n).lost.getD u2 zP)), .agg (paA ((deadT L n).lost.getD u2 zP)), .pointer (some ⟨g2, 0, none⟩), .agg (paA (L.getD i zE).p), .bool true, .bool true, .int .i64 (othS (L.getD i zE) n), .bool true, .bool true, .int .i64 ((k2 : Nat) : Int), .int .i64 ((k2 + 1 : Nat) : Int), .int .i64 ((u2 + 1 : Nat) : Int)] : List Value).getD kz undef), rfl, rfl, by omega, by rw [cnt_step zP _ hul, hc, hk2]; first | rfl | (simp only [Bool.false_eq_true, if_false, Nat.add_zero]), GG, kt, HTt, kg1, kg2, HR1, HN2⟩
          · have hjl : j < H2.length := by have := of_decide_eq_true hj1; omega
            refine s_val 90 rfl rfl (.bool true) (run_lssT 3 _ _ _ rfl ((j : Nat) : Int) ((H2.length : Nat) : Int) rfl rfl true hj1 _) ?_
            refine nr ?_; intro U h; simp only [z0, z1] at h; subst h
            refine wpList_nil ?_
            refine then_n ?_
            refine wp_seq ?_
            refine wp_cond_true rfl ?_
            refine wp_skip ?_
            refine then_n ?_
            refine wp_seq ?_
            refine wp_block ?_
            refine wp_seq ?_
            refine wp_region_lit ?_
            refine s_val 91 rfl rfl (.pointer (pK kH ao2 j 0)) (run_ixK rH (HN2.out.re) _ _ rfl rfl j rfl (by omega)) ?_
            refine nr ?_; intro U h; simp only [z0, z1] at h; subst h
            refine s_val 92 rfl rfl (.agg (hopA (H2.getD j zHp).n (H2.getD j zHp).fr)) (run_ldHh (HN2.out.re) _ rfl j rfl (by omega)) ?_
            refine nr ?_; intro U h; simp only [z0, z1] at h; subst h
            refine s_alloc 18 rfl rfl 67 rfl _ zvH (hopA 0 (frY m0 none 0 gN)) rfl ?_
            intro w12 g4 G eg4 kg4
            have bg4 := size_base GG eg4
            have dAg4 : g4 ∉ Go.Proofs.Ytmpnepbmpmkmkaa.blk ao2 := fun hm9 => by have := HN2.out.own.lt g4 hm9; omega
            have dBg4 : g4 ∉ Go.Proofs.Ytmpnepbmpmkmkaa.blk bo2 := fun hm9 => by have := HN2.lost.own.lt g4 hm9; omega
            have dtg4 := lt_new kt eg4
            have dg1g4 := lt_new kg1 eg4
            have dg2g4 := lt_new kg2 eg4
            have dHTtg4 := HTt.ne eg4
            have dHR1g4 := HR1.ne eg4
            replace kt := G.has kt
            replace kg1 := G.has kg1
            replace kg2 := G.has kg2
            replace HTt := HTt.gro G
            replace HR1 := HR1.gro G
            replace HN2 := HN2.gro G
            replace GG := GG.trans G
            clear G
            clear eg4
            refine nr ?_; intro U h; simp only [z0, z1] at h; subst h
            refine s_store rfl rfl 67 _ _ rfl g4 0 rfl (.agg (hopA (H2.getD j zHp).n (H2.getD j zHp).fr)) rfl 67 _ kg4 (hopA (H2.getD j zHp).n (H2.getD j zHp).fr) rfl (siHp (H2.getD j zHp)) (hopA_fit (H2.getD j zHp)) (oneHp (H2.getD j zHp)) (hopA (H2.getD j zHp).n (H2.getD j zHp).fr) (splice_whole _ _ (hopA_sz (H2.getD j zHp))) ?_
            intro w13 St
            have kS := kg4
            replace kt := St.has (by omega) kt
            replace kg1 := St.has (by omega) kg1
            replace kg2 := St.has (by omega) kg2
            replace HTt := HTt.st St dHTtg4
            replace HR1 := HR1.st St dHR1g4
            replace HN2 := HN2.stN St dAg4 dBg4
            replace GG := GG.store St bg4
            replace kg4 := St.new
            clear St
            refine wpList_nil ?_
            refine then_n ?_
            refine wp_seq ?_
            refine wp_region_opq ?_
            intro OPS hY
            have y6 := hY 6 99 rfl
            have y12 := hY 12 105 rfl
            clear hY
            refine s_val 93 rfl rfl (.pointer (some ⟨g4, 1, none⟩)) (run_fld 67 _ 1 rfl g4 0 rfl 1 (by kernel_rfl)) ?_
            refine nr ?_; intro U h; simp only [z0, z1] at h; subst h
            refine s_val 94 rfl rfl (.pointer (some ⟨g4, 2, none⟩)) (run_fld 65 _ 1 rfl g4 1 rfl 2 (by kernel_rfl)) ?_
            refine nr ?_; intro U h; simp only [z0, z1] at h; subst h
            refine s_val 95 rfl rfl (.agg (paA (H2.getD j zHp).p)) (ldH_p _ rfl g4 rfl (kg4)) ?_
            refine nr ?_; intro U h; simp only [z0, z1] at h; subst h
            refine s_val 96 rfl rfl (.pointer (some ⟨g2, 0, none⟩)) (run_fld 52 _ 0 rfl g2 0 rfl 0 (by kernel_rfl)) ?_
            refine nr ?_; intro U h; simp only [z0, z1] at h; subst h
            refine s_val 97 rfl rfl (.agg (paA (L.getD i zE).p)) (ldEp _ rfl g2 rfl (kg2)) ?_
            refine nr ?_; intro U h; simp only [z0, z1] at h; subst h
            cases q1 : decide ((H2.getD j zHp).p = (L.getD i zE).p)
            · refine s_val 98 rfl rfl (.bool false) (run_eqP _ _ _ rfl _ _ rfl rfl (HN2.out.re.at hjl).p (HR1.all.at (by omega)).p false q1) ?_
              refine nr ?_; intro U h; simp only [z0, z1] at h; subst h
              refine s_val 99 rfl rfl (.bool false) (rfl) ?_
              refine nr ?_; intro U h; simp only [z0, z1] at h; subst h
              refine s_skipY 100 rfl rfl y6 rfl ?_
              refine nr ?_; intro U h; simp only [z0, z1] at h; subst h
              refine s_skipY 101 rfl rfl y6 rfl ?_
              refine nr ?_; intro U h; simp only [z0, z1] at h; subst h
              refine s_skipY 102 rfl rfl y6 rfl ?_
              refine nr ?_; intro U h; simp only [z0, z1] at h; subst h
              refine s_skipY 103 rfl rfl y6 rfl ?_
              refine nr ?_; intro U h; simp only [z0, z1] at h; subst h
              refine s_val 104 rfl rfl (.bool false) (rfl) ?_
              refine nr ?_; intro U h; simp only [z0, z1] at h; subst h
              refine s_val 105 rfl rfl (.bool false) (rfl) ?_
              refine nr ?_; intro U h; simp only [z0, z1] at h; subst h
              refine s_skipY 106 rfl rfl y12 rfl ?_
              refine nr ?_; intro U h; simp only [z0, z1] at h; subst h
              refine s_skipY 107 rfl rfl y12 rfl ?_
              refine nr ?_; intro U h; simp only [z0, z1] at h; subst h
              refine s_skipY 108 rfl rfl y12 rfl ?_
              refine nr ?_; intro U h; simp only [z0, z1] at h; subst h
              refine s_skipY 109 rfl rfl y12 rfl ?_
              refine nr ?_; intro U h; simp only [z0, z1] at h; subst h
              refine s_val 110 rfl rfl (.bool false) (rfl) ?_
              refine nr ?_; intro U h; simp only [z0, z1] at h; subst h
              refine wpList_nil ?_
              refine then_n ?_
              refine wp_cond_false rfl ?_
              refine wp_skip ?_
              refine blk_n ?_
              refine then_n ?_
              refine wp_region_lit ?_
              refine s_val 113 rfl rfl (.int .i64 ((j + 1 : Nat) : Int)) (run_addI 3 _ _ _ rfl ((j : Nat) : Int) 1 ((j + 1 : Nat) : Int) rfl rfl (by omega) (by omega) (by omega) _) ?_
              refine nr ?_; intro U h; simp only [z0, z1] at h; subst h
              refine s_val 89 rfl rfl (.int .i64 ((j + 1 : Nat) : Int)) (rfl) ?_
              refine nr ?_; intro U h; simp only [z0, z1] at h; subst h
              refine wpList_nil ?_
              refine then_n ?_
              have hc : cH (L.getD i zE) n (H2.getD j zHp) = false := by unfold cH; rw [eqP_eq, q1]; rfl
              exact ⟨H2.length + 1 - (j + 1), by omega, j + 1, k, (fun kz => ([.pointer (some ⟨g4, 0, none⟩), .bool true, .pointer (pK kH ao2 j 0), .agg (hopA (H2.getD j zHp).n (H2.getD j zHp).fr), .pointer (some ⟨g4, 1, none⟩), .pointer (some ⟨g4, 2, none⟩), .agg (paA (H2.getD j zHp).p), .pointer (some ⟨g2, 0, none⟩), .agg (paA (L.getD i zE).p), .bool false, .bool false, undef, undef, undef, undef, .bool false, .bool false, undef, undef, undef, undef, .bool false, us2 22, us2 23, .int .i64 ((j + 1 : Nat) : Int)] : List Value).getD kz undef), rfl, rfl, by omega, by rw [cnt_step zHp _ hjl, hc, hk]; rfl, GG, kt, HTt, kg1, kg2, HR1, HN2⟩
            · refine s_val 98 rfl rfl (.bool true) (run_eqP _ _ _ rfl _ _ rfl rfl (HN2.out.re.at hjl).p (HR1.all.at (by omega)).p true q1) ?_
              refine nr ?_; intro U h; simp only [z0, z1] at h; subst h
              refine s_val 99 rfl rfl (.bool true) (rfl) ?_
              refine nr ?_; intro U h; simp only [z0, z1] at h; subst h
              refine s_gvalY 100 rfl rfl y6 rfl (.pointer (some ⟨g4, 0, none⟩)) (run_fld 67 _ 0 rfl g4 0 rfl 0 (by kernel_rfl)) ?_
              refine nr ?_; intro U h; simp only [z0, z1] at h; subst h
              refine s_gvalY 101 rfl rfl y6 rfl (.int .i64 (H2.getD j zHp).n) (ldH_n _ rfl g4 rfl (kg4)) ?_
              refine nr ?_; intro U h; simp only [z0, z1] at h; subst h
              refine s_gvalY 102 rfl rfl y6 rfl (.int .i64 (othS (L.getD i zE) n)) (rfl) ?_
              refine nr ?_; intro U h; simp only [z0, z1] at h; subst h
              cases q2 : decide ((H2.getD j zHp).n = (othS (L.getD i zE) n))
              · refine s_gvalY 103 rfl rfl y6 rfl (.bool false) (run_eq_k 3 .i64 _ _ _ rfl Try.underlying3 (H2.getD j zHp).n (othS (L.getD i zE) n) rfl rfl false q2 _) ?_
                refine nr ?_; intro U h; simp only [z0, z1] at h; subst h
                refine s_val 104 rfl rfl (.bool false) (rfl) ?_
                refine nr ?_; intro U h; simp only [z0, z1] at h; subst h
                refine s_val 105 rfl rfl (.bool false) (rfl) ?_
                refine nr ?_; intro U h; simp only [z0, z1] at h; subst h
                refine s_skipY 106 rfl rfl y12 rfl ?_
                refine nr ?_; intro U h; simp only [z0, z1] at h; subst h
                refine s_skipY 107 rfl rfl y12 rfl ?_
                refine nr ?_; intro U h; simp only [z0, z1] at h; subst h
                refine s_skipY 108 rfl rfl y12 rfl ?_
                refine nr ?_; intro U h; simp only [z0, z1] at h; subst h
                refine s_skipY 109 rfl rfl y12 rfl ?_
                refine nr ?_; intro U h; simp only [z0, z1] at h; subst h
                refine s_val 110 rfl rfl (.bool false) (rfl) ?_
                refine nr ?_; intro U h; simp only [z0, z1] at h; subst h
                refine wpList_nil ?_
                refine then_n ?_
                refine wp_cond_false rfl ?_
                refine wp_skip ?_
                refine blk_n ?_
                refine then_n ?_
                refine wp_region_lit ?_
                refine s_val 113 rfl rfl (.int .i64 ((j + 1 : Nat) : Int)) (run_addI 3 _ _ _ rfl ((j : Nat) : Int) 1 ((j + 1 : Nat) : Int) rfl rfl (by omega) (by omega) (by omega) _) ?_
                refine nr ?_; intro U h; simp only [z0, z1] at h; subst h
                refine s_val 89 rfl rfl (.int .i64 ((j + 1 : Nat) : Int)) (rfl) ?_
                refine nr ?_; intro U h; simp only [z0, z1] at h; subst h
                refine wpList_nil ?_
                refine then_n ?_
                have hc : cH (L.getD i zE) n (H2.getD j zHp) = false := by unfold cH; rw [eqP_eq, q1, q2]; rfl
                exact ⟨H2.length + 1 - (j + 1), by omega, j + 1, k, (fun kz => ([.pointer (some ⟨g4, 0, none⟩), .bool true, .pointer (pK kH ao2 j 0), .agg (hopA (H2.getD j zHp).n (H2.getD j zHp).fr), .pointer (some ⟨g4, 1, none⟩), .pointer (some ⟨g4, 2, none⟩), .agg (paA (H2.getD j zHp).p), .pointer (some ⟨g2, 0, none⟩), .agg (paA (L.getD i zE).p), .bool true, .bool true, .pointer (some ⟨g4, 0, none⟩), .int .i64 (H2.getD j zHp).n, .int .i64 (othS (L.getD i zE) n), .bool false, .bool false, .bool false, undef, undef, undef, undef, .bool false, us2 22, us2 23, .int .i64 ((j + 1 : Nat) : Int)] : List Value).getD kz undef), rfl, rfl, by omega, by rw [cnt_step zHp _ hjl, hc, hk]; rfl, GG, kt, HTt, kg1, kg2, HR1, HN2⟩
              · refine s_gvalY 103 rfl rfl y6 rfl (.bool true) (run_eq_k 3 .i64 _ _ _ rfl Try.underlying3 (H2.getD j zHp).n (othS (L.getD i zE) n) rfl rfl true q2 _) ?_
                refine nr ?_; intro U h; simp only [z0, z1] at h; subst h
                refine s_val 104 rfl rfl (.bool true) (rfl) ?_
                refine nr ?_; intro U h; simp only [z0, z1] at h; subst h
                refine s_val 105 rfl rfl (.bool true) (rfl) ?_
                refine nr ?_; intro U h; simp only [z0, z1] at h; subst h
                refine s_gvalY 106 rfl rfl y12 rfl (.pointer (some ⟨g4, 1, none⟩)) (run_fld 67 _ 1 rfl g4 0 rfl 1 (by kernel_rfl)) ?_
                refine nr ?_; intro U h; simp only [z0, z1] at h; subst h
                refine s_gvalY 107 rfl rfl y12 rfl (.pointer (some ⟨g4, 1, none⟩)) (run_fld 65 _ 0 rfl g4 1 rfl 1 (by kernel_rfl)) ?_
                refine nr ?_; intro U h; simp only [z0, z1] at h; subst h
                refine s_gvalY 108 rfl rfl y12 rfl (.int .i64 5) (ldH_k _ rfl g4 rfl (kg4)) ?_
                refine nr ?_; intro U h; simp only [z0, z1] at h; subst h
                refine s_gvalY 109 rfl rfl y12 rfl (.bool true) (run_eq_k 3 .i64 _ _ _ rfl Try.underlying3 5 5 rfl rfl true (by decide) _) ?_
                refine nr ?_; intro U h; simp only [z0, z1] at h; subst h
                refine s_val 110 rfl rfl (.bool true) (rfl) ?_
                refine nr ?_; intro U h; simp only [z0, z1] at h; subst h
                refine wpList_nil ?_
                refine then_n ?_
                refine wp_cond_true rfl ?_
                refine wp_region_lit ?_
                refine s_val 111 rfl rfl (.int .i64 ((k : Nat) : Int)) (rfl) ?_
                refine nr ?_; intro U h; simp only [z0, z1] at h; subst h
                refine s_val 112 rfl rfl (.int .i64 ((k + 1 : Nat) : Int)) (run_addI 3 _ _ _ rfl ((k : Nat) : Int) 1 ((k + 1 : Nat) : Int) rfl rfl (by omega) (by omega) (by omega) _) ?_
                refine nr ?_; intro U h; simp only [z0, z1] at h; subst h
                refine s_val 16 rfl rfl (.int .i64 ((k + 1 : Nat) : Int)) (rfl) ?_
                refine nr ?_; intro U h; simp only [z0, z1] at h; subst h
                refine wpList_nil ?_
                refine blk_n ?_
                refine then_n ?_
                refine wp_region_lit ?_
                refine s_val 113 rfl rfl (.int .i64 ((j + 1 : Nat) : Int)) (run_addI 3 _ _ _ rfl ((j : Nat) : Int) 1 ((j + 1 : Nat) : Int) rfl rfl (by omega) (by omega) (by omega) _) ?_
                refine nr ?_; intro U h; simp only [z0, z1] at h; subst h
                refine s_val 89 rfl rfl (.int .i64 ((j + 1 : Nat) : Int)) (rfl) ?_
                refine nr ?_; intro U h; simp only [z0, z1] at h; subst h
                refine wpList_nil ?_
                refine then_n ?_
                have hc : cH (L.getD i zE) n (H2.getD j zHp) = true := by unfold cH; rw [eqP_eq, q1, q2]; rfl
                exact ⟨H2.length + 1 - (j + 1), by omega, j + 1, k + 1, (fun kz => ([.pointer (some ⟨g4, 0, none⟩), .bool true, .pointer (pK kH ao2 j 0), .agg (hopA (H2.getD j zHp).n (H2.getD j zHp).fr), .pointer (some ⟨g4, 1, none⟩), .pointer (some ⟨g4, 2, none⟩), .agg (paA (H2.getD j zHp).p), .pointer (some ⟨g2, 0, none⟩), .agg (paA (L.getD i zE).p), .bool true, .bool true, .pointer (some ⟨g4, 0, none⟩), .int .i64 (H2.getD j zHp).n, .int .i64 (othS (L.getD i zE) n), .bool true, .bool true, .bool true, .pointer (some ⟨g4, 1, none⟩), .pointer (some ⟨g4, 1, none⟩), .int .i64 5, .bool true, .bool true, .int .i64 ((k : Nat) : Int), .int .i64 ((k + 1 : Nat) : Int), .int .i64 ((j + 1 : Nat) : Int)] : List Value).getD kz undef), rfl, rfl, by omega, by rw [cnt_step zHp _ hjl, hc, hk]; rfl, GG, kt, HTt, kg1, kg2, HR1, HN2⟩
      · refine wp_region_lit ?_
        refine s_val 44 rfl rfl (.pointer (some ⟨t, 0, none⟩)) (rfl) ?_
        refine nr ?_; intro U h; simp only [z0, z1] at h; subst h
        refine s_val 45 rfl rfl (.pointer (some ⟨g2, 0, none⟩)) (run_fld 52 _ 0 rfl g2 0 rfl 0 (by kernel_rfl)) ?_
        refine nr ?_; intro U h; simp only [z0, z1] at h; subst h
        refine s_val 46 rfl rfl (.agg (paA (L.getD i zE).p)) (ldEp _ rfl g2 rfl (kg2)) ?_
        refine nr ?_; intro U h; simp only [z0, z1] at h; subst h
        have hym : (L.getD i zE) ∈ L := getD_inL hil
        have hv : viaF n (L.getD i zE) = true := via_t hg (.inl (of_decide_eq_true h1))
        have hdh := dead_has (n := n) hTI.ris.kn hym
        rw [hv] at hdh
        obtain ⟨z9, hz9⟩ : ∃ z, getV (deadL L n) (L.getD i zE).p = z := ⟨_, rfl⟩
        have hz9k : z9.ok := hz9 ▸ getV_ok HTt.all _
        refine s_callv 47 rfl rfl _ 18 Try.call18 rfl rfl _ rfl [.pointer (some ⟨t, 0, none⟩), .agg (paA (L.getD i zE).p)] rfl (get_e _ t b 128 (deadL L n) (kt) (HTt) (L.getD i zE).p (HR1.all.at hil).p z9 false hz9 hdh) ?_
        intro w9 G
        replace kt := G.has kt
        replace kg1 := G.has kg1
        replace kg2 := G.has kg2
        replace HTt := HTt.gro G
        replace HR1 := HR1.gro G
        replace HN2 := HN2.gro G
        replace GG := GG.trans G
        clear G
        refine nr ?_; intro U h; simp only [z0, z1] at h; subst h
        refine s_val 43 rfl rfl (.tuple #[.agg (enA z9), .bool false]) (rfl) ?_
        refine nr ?_; intro U h; simp only [z0, z1] at h; subst h
        refine s_val 48 rfl rfl (.agg (enA z9)) (rfl) ?_
        refine nr ?_; intro U h; simp only [z0, z1] at h; subst h
        refine s_val 49 rfl rfl (.bool false) (rfl) ?_
        refine nr ?_; intro U h; simp only [z0, z1] at h; subst h
        refine s_alloc 12 rfl rfl 52 rfl _ zero33 (enA zE) rfl ?_
        intro w10 g3 G eg3 kg3
        have bg3 := size_base GG eg3
        have dtg3 := lt_new kt eg3
        have dg1g3 := lt_new kg1 eg3
        have dg2g3 := lt_new kg2 eg3
        have dHTtg3 := HTt.ne eg3
        have dHR1g3 := HR1.ne eg3
        replace kt := G.has kt
        replace kg1 := G.has kg1
        replace kg2 := G.has kg2
        replace HTt := HTt.gro G
        replace HR1 := HR1.gro G
        replace HN2 := HN2.gro G
        replace GG := GG.trans G
        clear G
        clear eg3
        refine nr ?_; intro U h; simp only [z0, z1] at h; subst h
        refine s_store rfl rfl 52 _ _ rfl g3 0 rfl (.agg (enA z9)) rfl 52 _ kg3 (enA z9) rfl (si33' _) (enA_fit _ _) (enA_one _) (enA z9) (splice_whole _ _ (enA_sz _ _)) ?_
        intro w11 St
        have kS := kg3
        replace kt := St.has (by omega) kt
        replace kg1 := St.has (by omega) kg1
        replace kg2 := St.has (by omega) kg2
        replace HTt := HTt.st St dHTtg3
        replace HR1 := HR1.st St dHR1g3
        replace HN2 := HN2.st St kS (by decide) (by decide)
        replace GG := GG.store St bg3
        replace kg3 := St.new
        clear St
        refine s_val 13 rfl rfl (.bool false) (rfl) ?_
        refine nr ?_; intro U h; simp only [z0, z1] at h; subst h
        refine wpList_nil ?_
        refine then_n ?_
        refine wp_seq ?_
        refine wp_region_opq ?_
        intro OPS hY
        have y2 := hY 2 52 rfl
        have y7 := hY 7 57 rfl
        clear hY
        refine s_val 50 rfl rfl (.int .i64 n) (rfl) ?_
        refine nr ?_; intro U h; simp only [z0, z1] at h; subst h
        refine s_val 51 rfl rfl (.bool true) (run_geqT 3 _ _ _ rfl n 0 rfl rfl true hg _) ?_
        refine nr ?_; intro U h; simp only [z0, z1] at h; subst h
        refine s_val 52 rfl rfl (.bool true) (rfl) ?_
        refine nr ?_; intro U h; simp only [z0, z1] at h; subst h
        refine s_gvalY 53 rfl rfl y2 rfl (.pointer (some ⟨g2, 49, none⟩)) (run_fld 52 _ 3 rfl g2 0 rfl 49 (by kernel_rfl)) ?_
        refine nr ?_; intro U h; simp only [z0, z1] at h; subst h
        refine s_gvalY 54 rfl rfl y2 rfl (.int .i64 (L.getD i zE).na) (ldEna _ rfl g2 rfl (kg2)) ?_
        refine nr ?_; intro U h; simp only [z0, z1] at h; subst h
        refine s_gvalY 55 rfl rfl y2 rfl (.int .i64 n) (rfl) ?_
        refine nr ?_; intro U h; simp only [z0, z1] at h; subst h
        refine s_gvalY 56 rfl rfl y2 rfl (.bool true) (run_eq_k 3 .i64 _ _ _ rfl Try.underlying3 (L.getD i zE).na n rfl rfl true h1 _) ?_
        refine nr ?_; intro U h; simp only [z0, z1] at h; subst h
        refine s_gvalY 57 rfl rfl y2 rfl (.bool true) (rfl) ?_
        refine nr ?_; intro U h; simp only [z0, z1] at h; subst h
        refine s_skipY 58 rfl rfl y7 rfl ?_
        refine nr ?_; intro U h; simp only [z0, z1] at h; subst h
        refine s_skipY 59 rfl rfl y7 rfl ?_
        refine nr ?_; intro U h; simp only [z0, z1] at h; subst h
        refine s_skipY 60 rfl rfl y7 rfl ?_
        refine nr ?_; intro U h; simp only [z0, z1] at h; subst h
        refine s_skipY 61 rfl rfl y7 rfl ?_
        refine nr ?_; intro U h; simp only [z0, z1] at h; subst h
        refine s_gvalY 62 rfl rfl y2 rfl (.bool true) (rfl) ?_
        refine nr ?_; intro U h; simp only [z0, z1] at h; subst h
        refine s_val 63 rfl rfl (.bool true) (rfl) ?_
        refine nr ?_; intro U h; simp only [z0, z1] at h; subst h
        refine s_val 14 rfl rfl (.bool true) (rfl) ?_
        refine nr ?_; intro U h; simp only [z0, z1] at h; subst h
        refine wpList_nil ?_
        refine then_n ?_
        refine wp_seq ?_
        refine wp_seq ?_
        refine wp_region_opq ?_
        intro OPS hY
        have y3 := hY 3 67 rfl
        have y5 := hY 5 69 rfl
        clear hY
        refine s_val 64 rfl rfl (.bool false) (rfl) ?_
        refine nr ?_; intro U h; simp only [z0, z1] at h; subst h
        refine s_val 65 rfl rfl (.bool true) (rfl) ?_
        refine nr ?_; intro U h; simp only [z0, z1] at h; subst h
        refine s_val 66 rfl rfl (.bool false) (run_eqB 4 _ _ _ rfl false true rfl rfl Try.underlying4 false (by decide) _) ?_
        refine nr ?_; intro U h; simp only [z0, z1] at h; subst h
        refine s_val 67 rfl rfl (.bool false) (rfl) ?_
        refine nr ?_; intro U h; simp only [z0, z1] at h; subst h
        refine s_gvalY 68 rfl rfl y3 rfl (.bool false) (rfl) ?_
        refine nr ?_; intro U h; simp only [z0, z1] at h; subst h
        refine s_gvalY 69 rfl rfl y3 rfl (.bool false) (rfl) ?_
        refine nr ?_; intro U h; simp only [z0, z1] at h; subst h
        refine s_skipY 70 rfl rfl y5 rfl ?_
        refine nr ?_; intro U h; simp only [z0, z1] at h; subst h
        refine s_skipY 71 rfl rfl y5 rfl ?_
        refine nr ?_; intro U h; simp only [z0, z1] at h; subst h
        refine s_skipY 72 rfl rfl y5 rfl ?_
        refine nr ?_; intro U h; simp only [z0, z1] at h; subst h
        refine s_gvalY 73 rfl rfl y3 rfl (.bool false) (rfl) ?_
        refine nr ?_; intro U h; simp only [z0, z1] at h; subst h
        refine s_val 74 rfl rfl (.bool false) (rfl) ?_
        refine nr ?_; intro U h; simp only [z0, z1] at h; subst h
        refine wpList_nil ?_
        refine then_n ?_
        refine wp_cond_false rfl ?_
        refine wp_skip ?_
        refine then_n ?_
        refine wp_seq ?_
        refine wp_seq ?_
        refine wp_region_lit ?_
        refine s_val 75 rfl rfl (.bool true) (rfl) ?_
        refine nr ?_; intro U h; simp only [z0, z1] at h; subst h
        refine s_val 76 rfl rfl (.bool false) (run_nt _ _ rfl true rfl) ?_
        refine nr ?_; intro U h; simp only [z0, z1] at h; subst h
        refine wpList_nil ?_
        refine then_n ?_
        refine wp_cond_false rfl ?_
        refine wp_skip ?_
        refine then_n ?_
        refine wp_seq ?_
        refine wp_region_lit ?_
        refine s_val 77 rfl rfl (.int .i64 ((m : Nat) : Int)) (rfl) ?_
        refine nr ?_; intro U h; simp only [z0, z1] at h; subst h
        refine s_val 78 rfl rfl (.int .i64 ((m + 1 : Nat) : Int)) (run_addI 3 _ _ _ rfl ((m : Nat) : Int) 1 ((m + 1 : Nat) : Int) rfl rfl (by omega) (by omega) (by omega) _) ?_
        refine nr ?_; intro U h; simp only [z0, z1] at h; subst h
        refine s_val 9 rfl rfl (.int .i64 ((m + 1 : Nat) : Int)) (rfl) ?_
        refine nr ?_; intro U h; simp only [z0, z1] at h; subst h
        refine wpList_nil ?_
        refine then_n ?_
        refine wp_seq ?_
        have hos := othS_sum (hTI.rgt _ hym) hv
        obtain ⟨_, hr1, hr2, _⟩ := rgt_iff.1 (hTI.rgt _ hym)
        have hoe := hos.1
        have hon : -1 ≤ (othS (L.getD i zE) n) ∧ (othS (L.getD i zE) n) < 6 := by unfold othS; split <;> omega
        refine wp_region_lit ?_
        refine s_val 79 rfl rfl (.pointer (some ⟨g2, 49, none⟩)) (run_fld 52 _ 3 rfl g2 0 rfl 49 (by kernel_rfl)) ?_
        refine nr ?_; intro U h; simp only [z0, z1] at h; subst h
        refine s_val 80 rfl rfl (.int .i64 (L.getD i zE).na) (ldEna _ rfl g2 rfl (kg2)) ?_
        refine nr ?_; intro U h; simp only [z0, z1] at h; subst h
        refine s_val 81 rfl rfl (.pointer (some ⟨g2, 50, none⟩)) (run_fld 52 _ 4 rfl g2 0 rfl 50 (by kernel_rfl)) ?_
        refine nr ?_; intro U h; simp only [z0, z1] at h; subst h
        refine s_val 82 rfl rfl (.int .i64 (L.getD i zE).nb) (ldEnb _ rfl g2 rfl (kg2)) ?_
        refine nr ?_; intro U h; simp only [z0, z1] at h; subst h
        refine s_val 83 rfl rfl (.int .i64 ((L.getD i zE).na + (L.getD i zE).nb)) (run_addI 3 _ _ _ rfl (L.getD i zE).na (L.getD i zE).nb ((L.getD i zE).na + (L.getD i zE).nb) rfl rfl (by omega) (by omega) (by omega) _) ?_
        refine nr ?_; intro U h; simp only [z0, z1] at h; subst h
        refine s_val 84 rfl rfl (.int .i64 n) (rfl) ?_
        refine nr ?_; intro U h; simp only [z0, z1] at h; subst h
        refine s_val 85 rfl rfl (.int .i64 (othS (L.getD i zE) n)) (run_subI 3 _ _ _ rfl ((L.getD i zE).na + (L.getD i zE).nb) n (othS (L.getD i zE) n) rfl rfl (by omega) (by omega) (by omega) _) ?_
        refine nr ?_; intro U h; simp only [z0, z1] at h; subst h
        refine s_val 15 rfl rfl (.int .i64 (othS (L.getD i zE) n)) (rfl) ?_
        refine nr ?_; intro U h; simp only [z0, z1] at h; subst h
        refine wpList_nil ?_
        refine then_n ?_
        refine wp_seq ?_
        refine wp_region_lit ?_
        refine s_val 16 rfl rfl (.int .i64 0) (rfl) ?_
        refine nr ?_; intro U h; simp only [z0, z1] at h; subst h
        refine wpList_nil ?_
        refine then_n ?_
        refine wp_seq ?_
        refine wp_seq ?_
        refine wp_region_lit ?_
        refine s_val 86 rfl rfl (.pointer (some ⟨g1, 0, none⟩)) (run_fld 34 _ 0 rfl g1 0 rfl 0 (by kernel_rfl)) ?_
        refine nr ?_; intro U h; simp only [z0, z1] at h; subst h
        refine s_val 87 rfl rfl (.slice ao2 H2.length c2) (ldT_o _ rfl g1 rfl (kg1)) ?_
        refine nr ?_; intro U h; simp only [z0, z1] at h; subst h
        refine s_val 88 rfl rfl (.int .i64 ((H2.length : Nat) : Int)) (run_len Try.underlying31 _ rfl _ _ _ rfl _) ?_
        refine nr ?_; intro U h; simp only [z0, z1] at h; subst h
        refine s_val 89 rfl rfl (.int .i64 0) (rfl) ?_
        refine nr ?_; intro U h; simp only [z0, z1] at h; subst h
        refine wpList_nil ?_
        refine then_n ?_
        refine wp_block ?_
        refine wp_loopN (fun mz az wv => ∃ (j : Nat) (k : Nat) (us2 : Nat → Value), mz = H2.length + 1 - j ∧ az = ⟨[.slice ae E.length ce, .int .i64 n, undef, undef, us1 0, .pointer (some ⟨t, 0, none⟩), .pointer (some ⟨r, 0, none⟩), .slice ao1 L.length cap1, .pointer (some ⟨g1, 0, none⟩), .int .i64 ((m + 1 : Nat) : Int), undef, .pointer (some ⟨g2, 0, none⟩), .pointer (some ⟨g3, 0, none⟩), .bool false, .bool true, .int .i64 (othS (L.getD i zE) n), .int .i64 ((k : Nat) : Int), undef, us2 0, undef, us1 8, .tuple #[.pointer (some ⟨t, 0, none⟩), .pointer (some ⟨r, 0, none⟩)], .slice ae E.length ce, .tuple #[.pointer (some ⟨t, 0, none⟩), .pointer (some ⟨r, 0, none⟩)], .pointer (some ⟨t, 0, none⟩), .pointer (some ⟨r, 0, none⟩), .pointer (some ⟨t, 0, none⟩), .bool false, .bool false, .bool true, .bool false, .bool false, .pointer (some ⟨t, 0, none⟩), .slice ao1 L.length cap1, .pointer (some ⟨t, 0, none⟩), .int .i64 n, .agg (tnA ao2 H2.length c2 bo2 (deadT L n).lost.length d2), .slice ao1 L.length cap1, .int .i64 ((L.length : Nat) : Int), .int .i64 ((i : Nat) : Int), .bool true, .pointer (pE ao1 i 0), .agg (enA (L.getD i zE)), .tuple #[.agg (enA z9), .bool false], .pointer (some ⟨t, 0, none⟩), .pointer (some ⟨g2, 0, none⟩), .agg (paA (L.getD i zE).p), .tuple #[.agg (enA z9), .bool false], .agg (enA z9), .bool false, .int .i64 n, .bool true, .bool true, .pointer (some ⟨g2, 49, none⟩), .int .i64 (L.getD i zE).na, .int .i64 n, .bool true, .bool true, undef, undef, undef, undef, .bool true, .bool true, .bool false, .bool true, .bool false, .bool false, .bool false, .bool false, undef, undef, undef, .bool false, .bool false, .bool true, .bool false, .int .i64 ((m : Nat) : Int), .int .i64 ((m + 1 : Nat) : Int), .pointer (some ⟨g2, 49, none⟩), .int .i64 (L.getD i zE).na, .pointer (some ⟨g2, 50, none⟩), .int .i64 (L.getD i zE).nb, .int .i64 ((L.getD i zE).na + (L.getD i zE).nb), .int .i64 n, .int .i64 (othS (L.getD i zE) n), .pointer (some ⟨g1, 0, none⟩), .slice ao2 H2.length c2, .int .i64 ((H2.length : Nat) : Int), .int .i64 ((j : Nat) : Int), us2 1, us2 2, us2 3, us2 4, us2 5, us2 6, us2 7, us2 8, us2 9, us2 10, us2 11, us2 12, us2 13, us2 14, us2 15, us2 16, us2 17, us2 18, us2 19, us2 20, us2 21, us2 22, us2 23, us2 24, us1 83, us1 84, us1 85, us1 86, us1 87, us1 88, us1 89, us1 90, us1 91, us1 92, us1 93, us1 94, us1 95, us1 96, us1 97, us1 98, us1 99, us1 100, us1 101, us1 102, us1 103, undef, undef, undef, undef, undef, undef, undef, undef, undef, undef, undef, undef, undef, undef, undef, undef].toArray, []⟩ ∧ j ≤ H2.length ∧ k = (H2.take j).countP (cH (L.getD i zE) n) ∧ Gro w wv ∧ wv.heap[t]? = some (.cells (tbA 128 b) 83 (0, 0)) ∧ TM wv b (deadL L n) ∧ wv.heap[g1]? = some (.cells (tnA ao2 H2.length c2 bo2 (deadT L n).lost.length d2) 34 (0, 0)) ∧ wv.heap[g2]? = some (.cells (enA (L.getD i zE)) 52 (0, 0)) ∧ RE wv ao1 cap1 L ∧ TnP wv w.heap.size (deadT L n) ao2 c2 H2 bo2 d2) ?_ _ ⟨0, 0, (fun kz => ([us1 7, us1 59, us1 60, us1 61, us1 62, us1 63, us1 64, us1 65, us1 66, us1 67, us1 68, us1 69, us1 70, us1 71, us1 72, us1 73, us1 74, us1 75, us1 76, us1 77, us1 78, us1 79, us1 80, us1 81, us1 82] : List Value).getD kz undef), rfl, rfl, Nat.zero_le _, rfl, GG, kt, HTt, kg1, kg2, HR1, HN2⟩
        clear GG kt kg1 kg2 HTt HR1 HN2
        rintro mz az wv ⟨j, k, us2, rfl, rfl, hj, hk, GG, kt, HTt, kg1, kg2, HR1, HN2⟩
        have hkb : k ≤ H2.length := by rw [hk]; exact cnt_le _ _ _
        refine wp_seq ?_
        refine wp_region_lit ?_
        cases hj1 : decide (((j : Nat) : Int) < ((H2.length : Nat) : Int))
        · have hje : j = H2.length := by have := of_decide_eq_false hj1; omega
          rw [hje, List.take_length] at hk
          refine s_val 90 rfl rfl (.bool false) (run_lssT 3 _ _ _ rfl ((j : Nat) : Int) ((H2.length : Nat) : Int) rfl rfl false hj1 _) ?_
          refine nr ?_; intro U h; simp only [z0, z1] at h; subst h
          refine wpList_nil ?_
          refine then_n ?_
          refine wp_seq ?_
          refine wp_cond_false rfl ?_
          refine wp_exit ?_
          refine then_x ?_
          refine then_x ?_
          refine blk_x ?_
          refine then_n ?_
          refine wp_seq ?_
          refine wp_seq ?_
          refine wp_region_lit ?_
          refine s_val 114 rfl rfl (.pointer (some ⟨g1, 1, none⟩)) (run_fld 34 _ 1 rfl g1 0 rfl 1 (by kernel_rfl)) ?_
          refine nr ?_; intro U h; simp only [z0, z1] at h; subst h
          refine s_val 115 rfl rfl (.slice bo2 (deadT L n).lost.length d2) (ldT_l _ rfl g1 rfl (kg1)) ?_
          refine nr ?_; intro U h; simp only [z0, z1] at h; subst h
          refine s_val 116 rfl rfl (.int .i64 (((deadT L n).lost.length : Nat) : Int)) (run_len Try.underlying32 _ rfl _ _ _ rfl _) ?_
          refine nr ?_; intro U h; simp only [z0, z1] at h; subst h
          refine s_val 117 rfl rfl (.int .i64 0) (rfl) ?_
          refine nr ?_; intro U h; simp only [z0, z1] at h; subst h
          refine wpList_nil ?_
          refine then_n ?_
          refine wp_block ?_
          refine wp_loopN (fun mz az wv => ∃ (u2 : Nat) (k2 : Nat) (us3 : Nat → Value), mz = (deadT L n).lost.length + 1 - u2 ∧ az = ⟨[.slice ae E.length ce, .int .i64 n, undef, undef, us1 0, .pointer (some ⟨t, 0, none⟩), .pointer (some ⟨r, 0, none⟩), .slice ao1 L.length cap1, .pointer (some ⟨g1, 0, none⟩), .int .i64 ((m + 1 : Nat) : Int), undef, .pointer (some ⟨g2, 0, none⟩), .pointer (some ⟨g3, 0, none⟩), .bool false, .bool true, .int .i64 (othS (L.getD i zE) n), .int .i64 ((k2 : Nat) : Int), undef, us2 0, undef, us3 0, .tuple #[.pointer (some ⟨t, 0, none⟩), .pointer (some ⟨r, 0, none⟩)], .slice ae E.length ce, .tuple #[.pointer (some ⟨t, 0, none⟩), .pointer (some ⟨r, 0, none⟩)], .pointer (some ⟨t, 0, none⟩), .pointer (some ⟨r, 0, none⟩), .pointer (some ⟨t, 0, none⟩), .bool false, .bool false, .bool true, .bool false, .bool false, .pointer (some ⟨t, 0, none⟩), .slice ao1 L.length cap1, .pointer (some ⟨t, 0, none⟩), .int .i64 n, .agg (tnA ao2 H2.length c2 bo2 (deadT L n).lost.length d2), .slice ao1 L.length cap1, .int .i64 ((L.length : Nat) : Int), .int .i64 ((i : Nat) : Int), .bool true, .pointer (pE ao1 i 0), .agg (enA (L.getD i zE)), .tuple #[.agg (enA z9), .bool false], .pointer (some ⟨t, 0, none⟩), .pointer (some ⟨g2, 0, none⟩), .agg (paA (L.getD i zE).p), .tuple #[.agg (enA z9), .bool false], .agg (enA z9), .bool false, .int .i64 n, .bool true, .bool true, .pointer (some ⟨g2, 49, none⟩), .int .i64 (L.getD i zE).na, .int .i64 n, .bool true, .bool true, undef, undef, undef, undef, .bool true, .bool true, .bool false, .bool true, .bool false, .bool false, .bool false, .bool false, undef, undef, undef, .bool false, .bool false, .bool true, .bool false, .int .i64 ((m : Nat) : Int), .int .i64 ((m + 1 : Nat) : Int), .pointer (some ⟨g2, 49, none⟩), .int .i64 (L.getD i zE).na, .pointer (some ⟨g2, 50, none⟩), .int .i64 (L.getD i zE).nb, .int .i64 ((L.getD i zE).na + (L.getD i zE).nb), .int .i64 n, .int .i64 (othS (L.getD i zE) n), .pointer (some ⟨g1, 0, none⟩), .slice ao2 H2.length c2, .int .i64 ((H2.length : Nat) : Int), .int .i64 ((j : Nat) : Int), .bool false, us2 2, us2 3, us2 4, us2 5, us2 6, us2 7, us2 8, us2 9, us2 10, us2 11, us2 12, us2 13, us2 14, us2 15, us2 16, us2 17, us2 18, us2 19, us2 20, us2 21, us2 22, us2 23, us2 24, .pointer (some ⟨g1, 1, none⟩), .slice bo2 (deadT L n).lost.length d2, .int .i64 (((deadT L n).lost.length : Nat) : Int), .int .i64 ((u2 : Nat) : Int), us3 1, us3 2, us3 3, us3 4, us3 5, us3 6, us3 7, us3 8, us3 9, us3 10, us3 11, us3 12, us3 13, us3 14, us1 101, us1 102, us1 103, undef, undef, undef, undef, undef, undef, undef, undef, undef, undef, undef, undef, undef, undef, undef, undef].toArray, []⟩ ∧ u2 ≤ (deadT L n).lost.length ∧ k2 = k + ((deadT L n).lost.take u2).countP (cP (L.getD i zE) n) ∧ Gro w wv ∧ wv.heap[t]? = some (.cells (tbA 128 b) 83 (0, 0)) ∧ TM wv b (deadL L n) ∧ wv.heap[g1]? = some (.cells (tnA ao2 H2.length c2 bo2 (deadT L n).lost.length d2) 34 (0, 0)) ∧ wv.heap[g2]? = some (.cells (enA (L.getD i zE)) 52 (0, 0)) ∧ RE wv ao1 cap1 L ∧ TnP wv w.heap.size (deadT L n) ao2 c2 H2 bo2 d2) ?_ _ ⟨0, k, (fun kz => ([us1 8, us1 87, us1 88, us1 89, us1 90, us1 91, us1 92, us1 93, us1 94, us1 95, us1 96, us1 97, us1 98, us1 99, us1 100] : List Value).getD kz undef), rfl, rfl, Nat.zero_le _, (by rw [List.take_zero]; rfl), GG, kt, HTt, kg1, kg2, HR1, HN2⟩
          clear GG kt kg1 kg2 HTt HR1 HN2
          rintro mz az wv ⟨u2, k2, us3, rfl, rfl, hj2, hk2, GG, kt, HTt, kg1, kg2, HR1, HN2⟩
          have hkb2 : k2 ≤ k + (deadT L n).lost.length := by rw [hk2]; exact Nat.add_le_add_left (cnt_le _ _ _) _
          refine wp_seq ?_
          refine wp_region_lit ?_
          cases hu1 : decide (((u2 : Nat) : Int) < (((deadT L n).lost.length : Nat) : Int))
          · have hue : u2 = (deadT L n).lost.length := by have := of_decide_eq_false hu1; omega
            rw [hue, List.take_length] at hk2
            have hone : k2 = 1 := by rw [hk2, hk, cH_out HN2.eq, cP_lost]; exact told_once hTI.ris.kn hTI.rgt hym hv
            refine s_val 118 rfl rfl (.bool false) (run_lssT 3 _ _ _ rfl ((u2 : Nat) : Int) (((deadT L n).lost.length : Nat) : Int) rfl rfl false hu1 _) ?_
            refine nr ?_; intro U h; simp only [z0, z1] at h; subst h
            refine wpList_nil ?_
            refine then_n ?_
            refine wp_seq ?_
            refine wp_cond_false rfl ?_
            refine wp_exit ?_
            refine then_x ?_
            refine then_x ?_
            refine blk_x ?_
            refine then_n ?_
            refine wp_seq ?_
            refine wp_region_lit ?_
            refine s_val 132 rfl rfl (.int .i64 ((k2 : Nat) : Int)) (rfl) ?_
            refine nr ?_; intro U h; simp only [z0, z1] at h; subst h
            refine s_val 133 rfl rfl (.bool false) (run_neq_k 3 .i64 _ _ _ rfl Try.underlying3 ((k2 : Nat) : Int) 1 rfl rfl false (decide_eq_true (by rw [hone]; rfl)) _) ?_
            refine nr ?_; intro U h; simp only [z0, z1] at h; subst h
            refine wpList_nil ?_
            refine then_n ?_
            refine wp_cond_false rfl ?_
            refine wp_skip ?_
            refine blk_n ?_
            refine then_n ?_
            refine wp_region_lit ?_
            refine s_val 134 rfl rfl (.int .i64 ((i + 1 : Nat) : Int)) (run_addI 3 _ _ _ rfl ((i : Nat) : Int) 1 ((i + 1 : Nat) : Int) rfl rfl (by omega) (by omega) (by omega) _) ?_
            refine nr ?_; intro U h; simp only [z0, z1] at h; subst h
            refine s_val 39 rfl rfl (.int .i64 ((i + 1 : Nat) : Int)) (rfl) ?_
            refine nr ?_; intro U h; simp only [z0, z1] at h; subst h
            refine wpList_nil ?_
            refine then_n ?_
            exact ⟨L.length + 1 - (i + 1), by omega, i + 1, m + 1, (fun kz => ([us1 0, .pointer (some ⟨g2, 0, none⟩), .pointer (some ⟨g3, 0, none⟩), .bool false, .bool true, .int .i64 (othS (L.getD i zE) n), .int .i64 ((k2 : Nat) : Int), us2 0, us3 0, .bool true, .pointer (pE ao1 i 0), .agg (enA (L.getD i zE)), .tuple #[.agg (enA z9), .bool false], .pointer (some ⟨t, 0, none⟩), .pointer (some ⟨g2, 0, none⟩), .agg (paA (L.getD i zE).p), .tuple #[.agg (enA z9), .bool false], .agg (enA z9), .bool false, .int .i64 n, .bool true, .bool true, .pointer (some ⟨g2, 49, none⟩), .int .i64 (L.getD i zE).na, .int .i64 n, .bool true, .bool true, undef, undef, undef, undef, .bool true, .bool true, .bool false, .bool true, .bool false, .bool false, .bool false, .bool false, undef, undef, undef, .bool false, .bool false, .bool true, .bool false, .int .i64 ((m : Nat) : Int), .int .i64 ((m + 1 : Nat) : Int), .pointer (some ⟨g2, 49, none⟩), .int .i64 (L.getD i zE).na, .pointer (some ⟨g2, 50, none⟩), .int .i64 (L.getD i zE).nb, .int .i64 ((L.getD i zE).na + (L.getD i zE).nb), .int .i64 n, .int .i64 (othS (L.getD i zE) n), .pointer (some ⟨g1, 0, none⟩), .slice ao2 H2.length c2, .int .i64 ((H2.length : Nat) : Int), .int .i64 ((j : Nat) : Int), .bool false, us2 2, us2 3, us2 4, us2 5, us2 6, us2 7, us2 8, us2 9, us2 10, us2 11, us2 12, us2 13, us2 14, us2 15, us2 16, us2 17, us2 18, us2 19, us2 20, us2 21, us2 22, us2 23, us2 24, .pointer (some ⟨g1, 1, none⟩), .slice bo2 (deadT L n).lost.length d2, .int .i64 (((deadT L n).lost.length : Nat) : Int), .int .i64 ((u2 : Nat) : Int), .bool false, us3 2, us3 3, us3 4, us3 5, us3 6, us3 7, us3 8, us3 9, us3 10, us3 11, us3 12, us3 13, us3 14, .int .i64 ((k2 : Nat) : Int), .bool false, .int .i64 ((i + 1 : Nat) : Int)] : List Value).getD kz undef), rfl, rfl, by omega, by rw [fil_len_step _ hil, hv]; exact congrArg (· + 1) hm, GG, kt, HTt, kg1, HR1, HN2⟩
          · have hul : u2 < (deadT L n).lost.length := by have := of_decide_eq_true hu1; omega
            refine s_val 118 rfl rfl (.bool true) (run_lssT 3 _ _ _ rfl ((u2 : Nat) : Int) (((deadT L n).lost.length : Nat) : Int) rfl rfl true hu1 _) ?_
            refine nr ?_; intro U h; simp only [z0, z1] at h; subst h
            refine wpList_nil ?_
            refine then_n ?_
            refine wp_seq ?_
            refine wp_cond_true rfl ?_
            refine wp_skip ?_
            refine then_n ?_
            refine wp_seq ?_
            refine wp_block ?_
            refine wp_seq ?_
            refine wp_region_lit ?_
            refine s_val 119 rfl rfl (.pointer (pK kP bo2 u2 0)) (run_ixK rP (HN2.lost.re) _ _ rfl rfl u2 rfl (by omega)) ?_
            refine nr ?_; intro U h; simp only [z0, z1] at h; subst h
            refine s_val 120 rfl rfl (.agg (paA ((deadT L n).lost.getD u2 zP))) (run_ldPp (HN2.lost.re) _ rfl u2 rfl (by omega)) ?_
            refine nr ?_; intro U h; simp only [z0, z1] at h; subst h
            refine s_alloc 20 rfl rfl 26 rfl _ zvP (paA zP) rfl ?_
            intro w12 g4 G eg4 kg4
            have bg4 := size_base GG eg4
            have dAg4 : g4 ∉ Go.Proofs.Ytmpnepbmpmkmkaa.blk ao2 := fun hm9 => by have := HN2.out.own.lt g4 hm9; omega
            have dBg4 : g4 ∉ Go.Proofs.Ytmpnepbmpmkmkaa.blk bo2 := fun hm9 => by have := HN2.lost.own.lt g4 hm9; omega
            have dtg4 := lt_new kt eg4
            have dg1g4 := lt_new kg1 eg4
            have dg2g4 := lt_new kg2 eg4
            have dHTtg4 := HTt.ne eg4
            have dHR1g4 := HR1.ne eg4
            replace kt := G.has kt
            replace kg1 := G.has kg1
            replace kg2 := G.has kg2
            replace HTt := HTt.gro G
            replace HR1 := HR1.gro G
            replace HN2 := HN2.gro G
            replace GG := GG.trans G
            clear G
            clear eg4
            refine nr ?_; intro U h; simp only [z0, z1] at h; subst h
            refine s_store rfl rfl 26 _ _ rfl g4 0 rfl (.agg (paA ((deadT L n).lost.getD u2 zP))) rfl 26 _ kg4 (paA ((deadT L n).lost.getD u2 zP)) rfl (si31' _) (paA_fit _ _) (paA_one _) (paA ((deadT L n).lost.getD u2 zP)) (splice_whole _ _ (paA_sz _ _)) ?_
            intro w13 St
            have kS := kg4
            replace kt := St.has (by omega) kt
            replace kg1 := St.has (by omega) kg1
            replace kg2 := St.has (by omega) kg2
            replace HTt := HTt.st St dHTtg4
            replace HR1 := HR1.st St dHR1g4
            replace HN2 := HN2.stN St dAg4 dBg4
            replace GG := GG.store St bg4
            replace kg4 := St.new
            clear St
            refine wpList_nil ?_
            refine then_n ?_
            refine wp_seq ?_
            refine wp_region_opq ?_
            intro OPS hY
            have y4 := hY 4 125 rfl
            clear hY
            refine s_val 121 rfl rfl (.agg (paA ((deadT L n).lost.getD u2 zP))) (ldP0 _ rfl g4 rfl (kg4)) ?_
            refine nr ?_; intro U h; simp only [z0, z1] at h; subst h
            refine s_val 122 rfl rfl (.pointer (some ⟨g2, 0, none⟩)) (run_fld 52 _ 0 rfl g2 0 rfl 0 (by kernel_rfl)) ?_
            refine nr ?_; intro U h; simp only [z0, z1] at h; subst h
            refine s_val 123 rfl rfl (.agg (paA (L.getD i zE).p)) (ldEp _ rfl g2 rfl (kg2)) ?_
            refine nr ?_; intro U h; simp only [z0, z1] at h; subst h
            cases q3 : decide (((deadT L n).lost.getD u2 zP) = (L.getD i zE).p)
            · refine s_val 124 rfl rfl (.bool false) (run_eqP _ _ _ rfl _ _ rfl rfl (HN2.lost.re.at hul) (HR1.all.at (by omega)).p false q3) ?_
              refine nr ?_; intro U h; simp only [z0, z1] at h; subst h
              refine s_val 125 rfl rfl (.bool false) (rfl) ?_
              refine nr ?_; intro U h; simp only [z0, z1] at h; subst h
              refine s_skipY 126 rfl rfl y4 rfl ?_
              refine nr ?_; intro U h; simp only [z0, z1] at h; subst h
              refine s_skipY 127 rfl rfl y4 rfl ?_
              refine nr ?_; intro U h; simp only [z0, z1] at h; subst h
              refine s_val 128 rfl rfl (.bool false) (rfl) ?_
              refine nr ?_; intro U h; simp only [z0, z1] at h; subst h
              refine wpList_nil ?_
              refine then_n ?_
              refine wp_cond_false rfl ?_
              refine wp_skip ?_
              refine blk_n ?_
              refine then_n ?_
              refine wp_region_lit ?_
              refine s_val 131 rfl rfl (.int .i64 ((u2 + 1 : Nat) : Int)) (run_addI 3 _ _ _ rfl ((u2 : Nat) : Int) 1 ((u2 + 1 : Nat) : Int) rfl rfl (by omega) (by omega) (by omega) _) ?_
              refine nr ?_; intro U h; simp only [z0, z1] at h; subst h
              refine s_val 117 rfl rfl (.int .i64 ((u2 + 1 : Nat) : Int)) (rfl) ?_
              refine nr ?_; intro U h; simp only [z0, z1] at h; subst h
              refine wpList_nil ?_
              refine then_n ?_
              have hc : cP (L.getD i zE) n ((deadT L n).lost.getD u2 zP) = false := by unfold cP; rw [eqP_eq, q3]; rfl
              exact ⟨(deadT L n).lost.length + 1 - (u2 + 1), by omega, u2 + 1, k2, (fun kz => ([.pointer (some ⟨g4, 0, none⟩), .bool true, .pointer (pK kP bo2 u2 0), .agg (paA ((deadT L n).lost.getD u2 zP)), .agg (paA ((deadT L n).lost.getD u2 zP)), .pointer (some ⟨g2, 0, none⟩), .agg (paA (L.getD i zE).p), .bool false, .bool false, undef, undef, .bool false, us3 12, us3 13, .int .i64 ((u2 + 1 : Nat) : Int)] : List Value).getD kz undef), rfl, rfl, by omega, by rw [cnt_step zP _ hul, hc, hk2]; first | rfl | (simp only [Bool.false_eq_true, if_false, Nat.add_zero]), GG, kt, HTt, kg1, kg2, HR1, HN2⟩
            · refine s_val 124 rfl rfl (.bool true) (run_eqP _ _ _ rfl _ _ rfl rfl (HN2.lost.re.at hul) (HR1.all.at (by omega)).p true q3) ?_
              refine nr ?_; intro U h; simp only [z0, z1] at h; subst h
              refine s_val 125 rfl rfl (.bool true) (rfl) ?_
              refine nr ?_; intro U h; simp only [z0, z1] at h; subst h
              refine s_gvalY 126 rfl rfl y4 rfl (.int .i64 (othS (L.getD i zE) n)) (rfl) ?_
              refine nr ?_; intro U h; simp only [z0, z1] at h; subst h
              cases q4 : decide ((othS (L.getD i zE) n) = -1)
              · refine s_gvalY 127 rfl rfl y4 rfl (.bool false) (run_eq_k 3 .i64 _ _ _ rfl Try.underlying3 (othS (L.getD i zE) n) (-1) rfl rfl false q4 _) ?_
                refine nr ?_; intro U h; simp only [z0, z1] at h; subst h
                refine s_val 128 rfl rfl (.bool false) (rfl) ?_
                refine nr ?_; intro U h; simp only [z0, z1] at h; subst h
                refine wpList_nil ?_
                refine then_n ?_
                refine wp_cond_false rfl ?_
                refine wp_skip ?_
                refine blk_n ?_
                refine then_n ?_
                refine wp_region_lit ?_
                refine s_val 131 rfl rfl (.int .i64 ((u2 + 1 : Nat) : Int)) (run_addI 3 _ _ _ rfl ((u2 : Nat) : Int) 1 ((u2 + 1 : Nat) : Int) rfl rfl (by omega) (by omega) (by omega) _) ?_
                refine nr ?_; intro U h; simp only [z0, z1] at h; subst h
                refine s_val 117 rfl rfl (.int .i64 ((u2 + 1 : Nat) : Int)) (rfl) ?_
                refine nr ?_; intro U h; simp only [z0, z1] at h; subst h
                refine wpList_nil ?_
                refine then_n ?_
                have hc : cP (L.getD i zE) n ((deadT L n).lost.getD u2 zP) = false := by unfold cP; rw [eqP_eq, q3, q4]; rfl
                exact ⟨(deadT L n).lost.length + 1 - (u2 + 1), by omega, u2 + 1, k2, (fun kz => ([.pointer (some ⟨g4, 0, none⟩), .bool true, .pointer (pK kP bo2 u2 0), .agg (paA ((deadT L n).lost.getD u2 zP)), .agg (paA ((deadT L n).lost.getD u2 zP)), .pointer (some ⟨g2, 0, none⟩), .agg (paA (L.getD i zE).p), .bool true, .bool true, .int .i64 (othS (L.getD i zE) n), .bool false, .bool false, us3 12, us3 13, .int .i64 ((u2 + 1 : Nat) : Int)] : List Value).getD kz undef), rfl, rfl, by omega, by rw [cnt_step zP _ hul, hc, hk2]; first | rfl | (simp only [Bool.false_eq_true, if_false, Nat.add_zero]), GG, kt, HTt, kg1, kg2, HR1, HN2⟩
              · refine s_gvalY 127 rfl rfl y4 rfl (.bool true) (run_eq_k 3 .i64 _ _ _ rfl Try.underlying3 (othS (L.getD i zE) n) (-1) rfl rfl true q4 _) ?_
                refine nr ?_; intro U h; simp only [z0, z1] at h; subst h
                refine s_val 128 rfl rfl (.bool true) (rfl) ?_
                refine nr ?_; intro U h; simp only [z0, z1] at h; subst h
                refine wpList_nil ?_
                refine then_n ?_
                refine wp_cond_true rfl ?_
                refine wp_region_lit ?_
                refine s_val 129 rfl rfl (.int .i64 ((k2 : Nat) : Int)) (rfl) ?_
                refine nr ?_; intro U h; simp only [z0, z1] at h; subst h
                refine s_val 130 rfl rfl (.int .i64 ((k2 + 1 : Nat) : Int)) (run_addI 3 _ _ _ rfl ((k2 : Nat) : Int) 1 ((k2 + 1 : Nat) : Int) rfl rfl (by omega) (by omega) (by omega) _) ?_
                refine nr ?_; intro U h; simp only [z0, z1] at h; subst h
                refine s_val 16 rfl rfl (.int .i64 ((k2 + 1 : Nat) : Int)) (rfl) ?_
                refine nr ?_; intro U h; simp only [z0, z1] at h; subst h
                refine wpList_nil ?_
                refine blk_n ?_
                refine then_n ?_
                refine wp_region_lit ?_
                refine s_val 131 rfl rfl (.int .i64 ((u2 + 1 : Nat) : Int)) (run_addI 3 _ _ _ rfl ((u2 : Nat) : Int) 1 ((u2 + 1 : Nat) : Int) rfl rfl (by omega) (by omega) (by omega) _) ?_
                refine nr ?_; intro U h; simp only [z0, z1] at h; subst h
                refine s_val 117 rfl rfl (.int .i64 ((u2 + 1 : Nat) : Int)) (rfl) ?_
                refine nr ?_; intro U h; simp only [z0, z1] at h; subst h
                refine wpList_nil ?_
                refine then_n ?_
                have hc : cP (L.getD i zE) n ((deadT L n).lost.getD u2 zP) = true := by unfold cP; rw [eqP_eq, q3, q4]; rfl
                exact ⟨(deadT L n).lost.length + 1 - (u2 + 1), by omega, u2 + 1, k2 + 1, (fun kz => ([.pointer (some ⟨g4, 0, none⟩), .bool true, .pointer (pK kP bo2 u2 0), .agg (paA ((deadT L n).lost.getD u2 zP)), .agg (paA ((deadT L n).lost.getD u2 zP)), .pointer (some ⟨g2, 0, none⟩), .agg (paA (L.getD i zE).p), .bool true, .bool true, .int .i64 (othS (L.getD i zE) n), .bool true, .bool true, .int .i64 ((k2 : Nat) : Int), .int .i64 ((k2 + 1 : Nat) : Int), .int .i64 ((u2 + 1 : Nat) : Int)] : List Value).getD kz undef), rfl, rfl, by omega, by rw [cnt_step zP _ hul, hc, hk2]; first | rfl | (simp only [Bool.false_eq_true, if_false, Nat.add_zero]), GG, kt, HTt, kg1, kg2, HR1, HN2⟩
        · have hjl : j < H2.length := by have := of_decide_eq_true hj1; omega
          refine s_val 90 rfl rfl (.bool true) (run_lssT 3 _ _ _ rfl ((j : Nat) : Int) ((H2.length : Nat) : Int) rfl rfl true hj1 _) ?_
          refine nr ?_; intro U h; simp only [z0, z1] at h; subst h
          refine wpList_nil ?_
          refine then_n ?_
          refine wp_seq ?_
          refine wp_cond_true rfl ?_
          refine wp_skip ?_
          refine then_n ?_
          refine wp_seq ?_
          refine wp_block ?_
          refine wp_seq ?_
          refine wp_region_lit ?_
          refine s_val 91 rfl rfl (.pointer (pK kH ao2 j 0)) (run_ixK rH (HN2.out.re) _ _ rfl rfl j rfl (by omega)) ?_
          refine nr ?_; intro U h; simp only [z0, z1] at h; subst h
          refine s_val 92 rfl rfl (.agg (hopA (H2.getD j zHp).n (H2.getD j zHp).fr)) (run_ldHh (HN2.out.re) _ rfl j rfl (by omega)) ?_
          refine nr ?_; intro U h; simp only [z0, z1] at h; subst h
          refine s_alloc 18 rfl rfl 67 rfl _ zvH (hopA 0 (frY m0 none 0 gN)) rfl ?_
          intro w12 g4 G eg4 kg4
          have bg4 := size_base GG eg4
          have dAg4 : g4 ∉ Go.Proofs.Ytmpnepbmpmkmkaa.blk ao2 := fun hm9 => by have := HN2.out.own.lt g4 hm9; omega
          have dBg4 : g4 ∉ Go.Proofs.Ytmpnepbmpmkmkaa.blk bo2 := fun hm9 => by have := HN2.lost.own.lt g4 hm9; omega
          have dtg4 := lt_new kt eg4
          have dg1g4 := lt_new kg1 eg4
          have dg2g4 := lt_new kg2 eg4
          have dHTtg4 := HTt.ne eg4
          have dHR1g4 := HR1.ne eg4
          replace kt := G.has kt
          replace kg1 := G.has kg1
          replace kg2 := G.has kg2
          replace HTt := HTt.gro G
          replace HR1 := HR1.gro G
          replace HN2 := HN2.gro G
          replace GG := GG.trans G
          clear G
          clear eg4
          refine nr ?_; intro U h; simp only [z0, z1] at h; subst h
          refine s_store rfl rfl 67 _ _ rfl g4 0 rfl (.agg (hopA (H2.getD j zHp).n (H2.getD j zHp).fr)) rfl 67 _ kg4 (hopA (H2.getD j zHp).n (H2.getD j zHp).fr) rfl (siHp (H2.getD j zHp)) (hopA_fit (H2.getD j zHp)) (oneHp (H2.getD j zHp)) (hopA (H2.getD j zHp).n (H2.getD j zHp).fr) (splice_whole _ _ (hopA_sz (H2.getD j zHp))) ?_
          intro w13 St
          have kS := kg4
          replace kt := St.has (by omega) kt
          replace kg1 := St.has (by omega) kg1
          replace kg2 := St.has (by omega) kg2
          replace HTt := HTt.st St dHTtg4
          replace HR1 := HR1.st St dHR1g4
          replace HN2 := HN2.stN St dAg4 dBg4
          replace GG := GG.store St bg4
          replace kg4 := St.new
          clear St
          refine wpList_nil ?_
          refine then_n ?_
          refine wp_seq ?_
          refine wp_region_opq ?_
          intro OPS hY
          have y6 := hY 6 99 rfl
          have y12 := hY 12 105 rfl
          clear hY
          refine s_val 93 rfl rfl (.pointer (some ⟨g4, 1, none⟩)) (run_fld 67 _ 1 rfl g4 0 rfl 1 (by kernel_rfl)) ?_
          refine nr ?_; intro U h; simp only [z0, z1] at h; subst h
          refine s_val 94 rfl rfl (.pointer (some ⟨g4, 2, none⟩)) (run_fld 65 _ 1 rfl g4 1 rfl 2 (by kernel_rfl)) ?_
          refine nr ?_; intro U h; simp only [z0, z1] at h; subst h
          refine s_val 95 rfl rfl (.agg (paA (H2.getD j zHp).p)) (ldH_p _ rfl g4 rfl (kg4)) ?_
          refine nr ?_; intro U h; simp only [z0, z1] at h; subst h
          refine s_val 96 rfl rfl (.pointer (some ⟨g2, 0, none⟩)) (run_fld 52 _ 0 rfl g2 0 rfl 0 (by kernel_rfl)) ?_
          refine nr ?_; intro U h; simp only [z0, z1] at h; subst h
          refine s_val 97 rfl rfl (.agg (paA (L.getD i zE).p)) (ldEp _ rfl g2 rfl (kg2)) ?_
          refine nr ?_; intro U h; simp only [z0, z1] at h; subst h
          cases q1 : decide ((H2.getD j zHp).p = (L.getD i zE).p)
          · refine s_val 98 rfl rfl (.bool false) (run_eqP _ _ _ rfl _ _ rfl rfl (HN2.out.re.at hjl).p (HR1.all.at (by omega)).p false q1) ?_
            refine nr ?_; intro U h; simp only [z0, z1] at h; subst h
            refine s_val 99 rfl rfl (.bool false) (rfl) ?_
            refine nr ?_; intro U h; simp only [z0, z1] at h; subst h
            refine s_skipY 100 rfl rfl y6 rfl ?_
            refine nr ?_; intro U h; simp only [z0, z1] at h; subst h
            refine s_skipY 101 rfl rfl y6 rfl ?_
            refine nr ?_; intro U h; simp only [z0, z1] at h; subst h
            refine s_skipY 102 rfl rfl y6 rfl ?_
            refine nr ?_; intro U h; simp only [z0, z1] at h; subst h
            refine s_skipY 103 rfl rfl y6 rfl ?_
            refine nr ?_; intro U h; simp only [z0, z1] at h; subst h
            refine s_val 104 rfl rfl (.bool false) (rfl) ?_
            refine nr ?_; intro U h; simp only [z0, z1] at h; subst h
            refine s_val 105 rfl rfl (.bool false) (rfl) ?_
            refine nr ?_; intro U h; simp only [z0, z1] at h; subst h
            refine s_skipY 106 rfl rfl y12 rfl ?_
            refine nr ?_; intro U h; simp only [z0, z1] at h; subst h
            refine s_skipY 107 rfl rfl y12 rfl ?_
            refine nr ?_; intro U h; simp only [z0, z1] at h; subst h
            refine s_skipY 108 rfl rfl y12 rfl ?_
            refine nr ?_; intro U h; simp only [z0, z1] at h; subst h
            refine s_skipY 109 rfl rfl y12 rfl ?_
            refine nr ?_; intro U h; simp only [z0, z1] at h; subst h
            refine s_val 110 rfl rfl (.bool false) (rfl) ?_
            refine nr ?_; intro U h; simp only [z0, z1] at h; subst h
            refine wpList_nil ?_
            refine then_n ?_
            refine wp_cond_false rfl ?_
            refine wp_skip ?_
            refine blk_n ?_
            refine then_n ?_
            refine wp_region_lit ?_
            refine s_val 113 rfl rfl (.int .i64 ((j + 1 : Nat) : Int)) (run_addI 3 _ _ _ rfl ((j : Nat) : Int) 1 ((j + 1 : Nat) : Int) rfl rfl (by omega) (by omega) (by omega) _) ?_
            refine nr ?_; intro U h; simp only [z0, z1] at h; subst h
            refine s_val 89 rfl rfl (.int .i64 ((j + 1 : Nat) : Int)) (rfl) ?_
            refine nr ?_; intro U h; simp only [z0, z1] at h; subst h
            refine wpList_nil ?_
            refine then_n ?_
            have hc : cH (L.getD i zE) n (H2.getD j zHp) = false := by unfold cH; rw [eqP_eq, q1]; rfl
            exact ⟨H2.length + 1 - (j + 1), by omega, j + 1, k, (fun kz => ([.pointer (some ⟨g4, 0, none⟩), .bool true, .pointer (pK kH ao2 j 0), .agg (hopA (H2.getD j zHp).n (H2.getD j zHp).fr), .pointer (some ⟨g4, 1, none⟩), .pointer (some ⟨g4, 2, none⟩), .agg (paA (H2.getD j zHp).p), .pointer (some ⟨g2, 0, none⟩), .agg (paA (L.getD i zE).p), .bool false, .bool false, undef, undef, undef, undef, .bool false, .bool false, undef, undef, undef, undef, .bool false, us2 22, us2 23, .int .i64 ((j + 1 : Nat) : Int)] : List Value).getD kz undef), rfl, rfl, by omega, by rw [cnt_step zHp _ hjl, hc, hk]; rfl, GG, kt, HTt, kg1, kg2, HR1, HN2⟩
          · refine s_val 98 rfl rfl (.bool true) (run_eqP _ _ _ rfl _ _ rfl rfl (HN2.out.re.at hjl).p (HR1.all.at (by omega)).p true q1) ?_
            refine nr ?_; intro U h; simp only [z0, z1] at h; subst h
            refine s_val 99 rfl rfl (.bool true) (rfl) ?_
            refine nr ?_; intro U h; simp only [z0, z1] at h; subst h
            refine s_gvalY 100 rfl rfl y6 rfl (.pointer (some ⟨g4, 0, none⟩)) (run_fld 67 _ 0 rfl g4 0 rfl 0 (by kernel_rfl)) ?_
            refine nr ?_; intro U h; simp only [z0, z1] at h; subst h
            refine s_gvalY 101 rfl rfl y6 rfl (.int .i64 (H2.getD j zHp).n) (ldH_n _ rfl g4 rfl (kg4)) ?_
            refine nr ?_; intro U h; simp only [z0, z1] at h; subst h
            refine s_gvalY 102 rfl rfl y6 rfl (.int .i64 (othS (L.getD i zE) n)) (rfl) ?_
            refine nr ?_; intro U h; simp only [z0, z1] at h; subst h
            cases q2 : decide ((H2.getD j zHp).n = (othS (L.getD i zE) n))
            · refine s_gvalY 103 rfl rfl y6 rfl (.bool false) (run_eq_k 3 .i64 _ _ _ rfl Try.underlying3 (H2.getD j zHp).n (othS (L.getD i zE) n) rfl rfl false q2 _) ?_
              refine nr ?_; intro U h; simp only [z0, z1] at h; subst h
              refine s_val 104 rfl rfl (.bool false) (rfl) ?_
              refine nr ?_; intro U h; simp only [z0, z1] at h; subst h
              refine s_val 105 rfl rfl (.bool false) (rfl) ?_
              refine nr ?_; intro U h; simp only [z0, z1] at h; subst h
              refine s_skipY 106 rfl rfl y12 rfl ?_
              refine nr ?_; intro U h; simp only [z0, z1] at h; subst h
              refine s_skipY 107 rfl rfl y12 rfl ?_
              refine nr ?_; intro U h; simp only [z0, z1] at h; subst h
              refine s_skipY 108 rfl rfl y12 rfl ?_
              refine nr ?_; intro U h; simp only [z0, z1] at h; subst h
              refine s_skipY 109 rfl rfl y12 rfl ?_
              refine nr ?_; intro U h; simp only [z0, z1] at h; subst h
              refine s_val 110 rfl rfl (.bool false) (rfl) ?_
              refine nr ?_; intro U h; simp only [z0, z1] at h; subst h
              refine wpList_nil ?_
              refine then_n ?_
              refine wp_cond_false rfl ?_
              refine wp_skip ?_
              refine blk_n ?_
              refine then_n ?_
              refine wp_region_lit ?_
              refine s_val 113 rfl rfl (.int .i64 ((j + 1 : Nat) : Int)) (run_addI 3 _ _ _ rfl ((j : Nat) : Int) 1 ((j + 1 : Nat) : Int) rfl rfl (by omega) (by omega) (by omega) _) ?_
              refine nr ?_; intro U h; simp only [z0, z1] at h; subst h
              refine s_val 89 rfl rfl (.int .i64 ((j + 1 : Nat) : Int)) (rfl) ?_
              refine nr ?_; intro U h; simp only [z0, z1] at h; subst h
              refine wpList_nil ?_
              refine then_n ?_
              have hc : cH (L.getD i zE) n (H2.getD j zHp) = false := by unfold cH; rw [eqP_eq, q1, q2]; rfl
              exact ⟨H2.length + 1 - (j + 1), by omega, j + 1, k, (fun kz => ([.pointer (some ⟨g4, 0, none⟩), .bool true, .pointer (pK kH ao2 j 0), .agg (hopA (H2.getD j zHp).n (H2.getD j zHp).fr), .pointer (some ⟨g4, 1, none⟩), .pointer (some ⟨g4, 2, none⟩), .agg (paA (H2.getD j zHp).p), .pointer (some ⟨g2, 0, none⟩), .agg (paA (L.getD i zE).p), .bool true, .bool true, .pointer (some ⟨g4, 0, none⟩), .int .i64 (H2.getD j zHp).n, .int .i64 (othS (L.getD i zE) n), .bool false, .bool false, .bool false, undef, undef, undef, undef, .bool false, us2 22, us2 23, .int .i64 ((j + 1 : Nat) : Int)] : List Value).getD kz undef), rfl, rfl, by omega, by rw [cnt_step zHp _ hjl, hc, hk]; rfl, GG, kt, HTt, kg1, kg2, HR1, HN2⟩
            · refine s_gvalY 103 rfl rfl y6 rfl (.bool true) (run_eq_k 3 .i64 _ _ _ rfl Try.underlying3 (H2.getD j zHp).n (othS (L.getD i zE) n) rfl rfl true q2 _) ?_
              refine nr ?_; intro U h; simp only [z0, z1] at h; subst h
              refine s_val 104 rfl rfl (.bool true) (rfl) ?_
              refine nr ?_; intro U h; simp only [z0, z1] at h; subst h
              refine s_val 105 rfl rfl (.bool true) (rfl) ?_
              refine nr ?_; intro U h; simp only [z0, z1] at h; subst h
              refine s_gvalY 106 rfl rfl y12 rfl (.pointer (some ⟨g4, 1, none⟩)) (run_fld 67 _ 1 rfl g4 0 rfl 1 (by kernel_rfl)) ?_
              refine nr ?_; intro U h; simp only [z0, z1] at h; subst h
              refine s_gvalY 107 rfl rfl y12 rfl (.pointer (some ⟨g4, 1, none⟩)) (run_fld 65 _ 0 rfl g4 1 rfl 1 (by kernel_rfl)) ?_
              refine nr ?_; intro U h; simp only [z0, z1] at h; subst h
              refine s_gvalY 108 rfl rfl y12 rfl (.int .i64 5) (ldH_k _ rfl g4 rfl (kg4)) ?_
              refine nr ?_; intro U h; simp only [z0, z1] at h; subst h
              refine s_gvalY 109 rfl rfl y12 rfl (.bool true) (run_eq_k 3 .i64 _ _ _ rfl Try.underlying3 5 5 rfl rfl true (by decide) _) ?_
              refine nr ?_; intro U h; simp only [z0, z1] at h; subst h
              refine s_val 110 rfl rfl (.bool true) (rfl) ?_
              refine nr ?_; intro U h; simp only [z0, z1] at h; subst h
              refine wpList_nil ?_
              refine then_n ?_
              refine wp_cond_true rfl ?_
              refine wp_region_lit ?_
              refine s_val 111 rfl rfl (.int .i64 ((k : Nat) : Int)) (rfl) ?_
              refine nr ?_; intro U h; simp only [z0, z1] at h; subst h
              refine s_val 112 rfl rfl (.int .i64 ((k + 1 : Nat) : Int)) (run_addI 3 _ _ _ rfl ((k : Nat) : Int) 1 ((k + 1 : Nat) : Int) rfl rfl (by omega) (by omega) (by omega) _) ?_
              refine nr ?_; intro U h; simp only [z0, z1] at h; subst h
              refine s_val 16 rfl rfl (.int .i64 ((k + 1 : Nat) : Int)) (rfl) ?_
              refine nr ?_; intro U h; simp only [z0, z1] at h; subst h
              refine wpList_nil ?_
              refine blk_n ?_
              refine then_n ?_
              refine wp_region_lit ?_
              refine s_val 113 rfl rfl (.int .i64 ((j + 1 : Nat) : Int)) (run_addI 3 _ _ _ rfl ((j : Nat) : Int) 1 ((j + 1 : Nat) : Int) rfl rfl (by omega) (by omega) (by omega) _) ?_
              refine nr ?_; intro U h; simp only [z0, z1] at h; subst h
              refine s_val 89 rfl rfl (.int .i64 ((j + 1 : Nat) : Int)) (rfl) ?_
              refine nr ?_; intro U h; simp only [z0, z1] at h; subst h
              refine wpList_nil ?_
              refine then_n ?_
              have hc : cH (L.getD i zE) n (H2.getD j zHp) = true := by unfold cH; rw [eqP_eq, q1, q2]; rfl
              exact ⟨H2.length + 1 - (j + 1), by omega, j + 1, k + 1, (fun kz => ([.pointer (some ⟨g4, 0, none⟩), .bool true, .pointer (pK kH ao2 j 0), .agg (hopA (H2.getD j zHp).n (H2.getD j zHp).fr), .pointer (some ⟨g4, 1, none⟩), .pointer (some ⟨g4, 2, none⟩), .agg (paA (H2.getD j zHp).p), .pointer (some ⟨g2, 0, none⟩), .agg (paA (L.getD i zE).p), .bool true, .bool true, .pointer (some ⟨g4, 0, none⟩), .int .i64 (H2.getD j zHp).n, .int .i64 (othS (L.getD i zE) n), .bool true, .bool true, .bool true, .pointer (some ⟨g4, 1, none⟩), .pointer (some ⟨g4, 1, none⟩), .int .i64 5, .bool true, .bool true, .int .i64 ((k : Nat) : Int), .int .i64 ((k + 1 : Nat) : Int), .int .i64 ((j + 1 : Nat) : Int)] : List Value).getD kz undef), rfl, rfl, by omega, by rw [cnt_step zHp _ hjl, hc, hk]; rfl, GG, kt, HTt, kg1, kg2, HR1, HN2⟩
end Go.Proofs.Ytmpnepbmpmkmkaa
