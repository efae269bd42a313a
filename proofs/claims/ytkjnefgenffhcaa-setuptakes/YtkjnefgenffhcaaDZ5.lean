/- Entries laid into tables of either side; two endings held together. -/
import Derived.Test.YtkjnefgenffhcaaDZ4
import Derived.Test.YtkjnefgenffhcaaDE1
namespace Go.Proofs.Ytkjnefgenffhcaa
open Go.RowKit Go.Maps
theorem take_at {α : Type} (z : α) (l : List α) (i : Nat) (hi : i < l.length) : l.take (i + 1) = l.take i ++ [l.getD i z] := by
  rw [List.take_add_one, List.getElem?_eq_getElem hi, List.getD_eq_getElem?_getD, List.getElem?_eq_getElem hi]
  rfl
/-- Entries laid into a table, one by one. -/
def layR (room : Nat) (L : List En) : List En := L.foldl (addL room) []
theorem layR_app (room : Nat) (L : List En) (x : En) : layR room (L ++ [x]) = addL room (layR room L) x := by simp [layR]
theorem layR_step {room : Nat} {l : List En} {i : Nat} (hi : i < l.length) : layR room (l.take (i + 1)) = addL room (layR room (l.take i)) (l.getD i zE) := by rw [take_at zE l i hi, layR_app]
theorem addL_ok {room : Nat} {M : List En} {x : En} (h : AllE M) (hx : x.ok) : AllE (addL room M x) := by
  unfold addL
  split
  · exact insL_all h hx
  · exact h
theorem addL_ris {room : Nat} {M : List En} {x : En} (ha : AllE M) (h : Ris M) (hx : x.ok) : Ris (addL room M x) := by
  unfold addL
  split
  · rename_i h0
    exact insL_ris hx ha h (hasL_no (addC_0 h0).2.1)
  · exact h
theorem addL_le {room : Nat} {M : List En} {x : En} (hr : room ≤ 128) (h : M.length ≤ 128) : (addL room M x).length ≤ 128 := by
  unfold addL
  split
  · rename_i h0
    rw [insL_len]
    have := (addC_0 h0).2.2
    omega
  · exact h
theorem layF_ok {room : Nat} : ∀ {L M : List En}, AllE M → AllE L → AllE (L.foldl (addL room) M)
  | [], _, h, _ => h
  | x :: r, _, h, hl => layF_ok (L := r) (addL_ok h (hl x List.mem_cons_self)) fun z hz => hl z (List.mem_cons_of_mem _ hz)
theorem layF_ris {room : Nat} : ∀ {L M : List En}, AllE M → Ris M → AllE L → Ris (L.foldl (addL room) M)
  | [], _, _, h, _ => h
  | x :: r, _, ha, h, hl => layF_ris (L := r) (addL_ok ha (hl x List.mem_cons_self)) (addL_ris ha h (hl x List.mem_cons_self)) fun z hz => hl z (List.mem_cons_of_mem _ hz)
theorem layF_le {room : Nat} (hr : room ≤ 128) : ∀ {L M : List En}, M.length ≤ 128 → (L.foldl (addL room) M).length ≤ 128
  | [], _, h => h
  | _ :: r, _, h => layF_le hr (L := r) (addL_le hr h)
theorem layR_ok {room : Nat} {L : List En} (h : AllE L) : AllE (layR room L) := layF_ok AllE.nil h
theorem layR_ris {room : Nat} {L : List En} (h : AllE L) : Ris (layR room L) := layF_ris AllE.nil List.Pairwise.nil h
theorem layR_le {room : Nat} (hr : room ≤ 128) (L : List En) : (layR room L).length ≤ 128 := layF_le hr (by decide)
/-- A call that lays entries into a table of either side. -/
def LaidQ (w : World) (room : Nat) (L : List En) (e : Ending) (w' : World) : Prop := ∃ t b r ra rc, e = .returned (.tuple #[.pointer (some ⟨t, 0, none⟩), .pointer (some ⟨r, 0, none⟩)]) ∧ Gro w w' ∧ w'.heap[t]? = some (.cells (tbA room b) 99 (0, 0)) ∧ TM w' b L ∧ w'.heap[r]? = some (.cells (rbA ra L.length rc room) 53 (0, 0)) ∧ OE w' 0 ra rc L ∧ w.heap.size ≤ t ∧ w.heap.size ≤ b ∧ w.heap.size ≤ r
theorem sameK_same (M : Msg) (a c s2 s3 s4 a' c' t2 t3 t4) : sameK (frY M a c (gz s2 s3 s4)) (frY M a' c' (gz t2 t3 t4)) (dM M) (dM M) = true := by
  simp [sameK, sameB, frY, gz, dM]
theorem FrQ.n0 {w : World} {B : Nat} {M : Msg} {ao : Option Addr} {cap : Nat} {g : Fr} (h : FrQ w B (frY M ao cap g) (dM M)) : g.ids.n = 0 ∧ g.val.n = 0 ∧ g.tx.n = 0 := by
  have hw := h.w
  exact ⟨hw.idn, xc_len1 (l := ([] : List Nat)) hw.val, xc_len1 (l := ([] : List Nat)) hw.tx⟩
theorem FrQ.s {w : World} {B : Nat} {M : Msg} {ao : Option Addr} {cap : Nat} {g : Fr} (h : FrQ w B (frY M ao cap g) (dM M)) (hl : M.l.length ≤ 17592186044416) : FrS (frY M ao cap g) := by
  obtain ⟨h1, h2, h3⟩ := h.n0
  exact ⟨⟨by show M.l.length * 8 ≤ _; omega⟩, ⟨by show g.ids.n * 16 ≤ _; omega⟩, ⟨by show g.val.n * 1 ≤ _; omega⟩, ⟨by show g.tx.n * 1 ≤ _; omega⟩⟩
set_option maxRecDepth 100000 in
set_option maxHeartbeats 4000000 in
theorem laid_any (w : World) (ao0 : Option Addr) (cap0 : Nat) (l : List En) (H : RE w ao0 cap0 l) (hl : l.length ≤ maxLen) (most : Int) : Calls Try.prog 8 #[.slice ao0 l.length cap0, .int .i64 most] w (LaidQ w (rmF most) (layR (rmF most) l)) := by
  refine s_enter Try.func8 rfl Try.ntmps8 [.slice ao0 l.length cap0, .int .i64 most] [.slice ao0 l.length cap0, .int .i64 most, undef, undef, undef, undef, undef, undef, undef, undef, undef, undef, undef, undef, undef, undef, undef, undef, undef, undef, undef, undef, undef, undef, undef, undef, undef, undef, undef] rfl ?_
  have GG := Gro.refl w
  rw [maxL] at hl
  refine wp_seq ?_
  refine wp_region_lit ?_
  refine s_val 4 rfl rfl (.pointer none) (rfl) ?_
  refine nr ?_; intro U h; simp only [z0, z1] at h; subst h
  refine s_val 5 rfl rfl (.pointer none) (rfl) ?_
  refine nr ?_; intro U h; simp only [z0, z1] at h; subst h
  refine wpList_nil ?_
  refine then_n ?_
  refine wp_seq ?_
  refine wp_region_lit ?_
  refine s_val 10 rfl rfl (.int .i64 most) (rfl) ?_
  refine nr ?_; intro U h; simp only [z0, z1] at h; subst h
  refine s_callx 11 rfl rfl _ 23 Try.call23 rfl rfl _ rfl [.int .i64 most] rfl (new_any most _) (by rintro _ _ ⟨_, _, he, _⟩; exact ⟨_, he⟩) ?_
  rintro v w1 ⟨t, b, he, G, kt, HTt, h1t, h2t⟩
  cases he
  have bt := Nat.le_trans GG.size h1t
  have bb := Nat.le_trans GG.size h2t
  clear h1t h2t
  replace GG := GG.trans G
  clear G
  refine nr ?_; intro U h; simp only [z0, z1] at h; subst h
  refine s_val 6 rfl rfl (.pointer (some ⟨t, 0, none⟩)) (rfl) ?_
  refine nr ?_; intro U h; simp only [z0, z1] at h; subst h
  refine wpList_nil ?_
  refine then_n ?_
  refine wp_seq ?_
  refine wp_region_lit ?_
  refine s_val 12 rfl rfl (.int .i64 most) (rfl) ?_
  refine nr ?_; intro U h; simp only [z0, z1] at h; subst h
  refine s_callx 13 rfl rfl _ 25 Try.call25 rfl rfl _ rfl [.int .i64 most] rfl (rnew_any most _) (by rintro _ _ ⟨_, he, _⟩; exact ⟨_, he⟩) ?_
  rintro v w2 ⟨r, he, G, kr, h1r⟩
  cases he
  have br := Nat.le_trans GG.size h1r
  clear h1r
  replace kt := G.has kt
  replace HTt := HTt.gro G
  replace GG := GG.trans G
  clear G
  refine nr ?_; intro U h; simp only [z0, z1] at h; subst h
  refine s_val 7 rfl rfl (.pointer (some ⟨r, 0, none⟩)) (rfl) ?_
  refine nr ?_; intro U h; simp only [z0, z1] at h; subst h
  refine wpList_nil ?_
  refine then_n ?_
  refine wp_seq ?_
  refine wp_seq ?_
  refine wp_region_lit ?_
  refine s_val 14 rfl rfl (.slice ao0 l.length cap0) (rfl) ?_
  refine nr ?_; intro U h; simp only [z0, z1] at h; subst h
  refine s_val 15 rfl rfl (.int .i64 ((l.length : Nat) : Int)) (run_len Try.underlying22 _ rfl _ _ _ rfl _) ?_
  refine nr ?_; intro U h; simp only [z0, z1] at h; subst h
  refine s_val 16 rfl rfl (.int .i64 0) (rfl) ?_
  refine nr ?_; intro U h; simp only [z0, z1] at h; subst h
  refine wpList_nil ?_
  refine then_n ?_
  refine wp_block ?_
  refine wp_loopN (fun mz az wv => ∃ (i : Nat) (ra : Option Addr) (rc : Nat) (us1 : Nat → Value), mz = l.length + 1 - i ∧ az = ⟨[.slice ao0 l.length cap0, .int .i64 most, undef, undef, .pointer none, .pointer none, .pointer (some ⟨t, 0, none⟩), .pointer (some ⟨r, 0, none⟩), undef, us1 0, .int .i64 most, .pointer (some ⟨t, 0, none⟩), .int .i64 most, .pointer (some ⟨r, 0, none⟩), .slice ao0 l.length cap0, .int .i64 ((l.length : Nat) : Int), .int .i64 ((i : Nat) : Int), us1 1, us1 2, us1 3, us1 4, us1 5, us1 6, us1 7, us1 8, us1 9, us1 10, undef, undef].toArray, []⟩ ∧ i ≤ l.length ∧ Gro w wv ∧ wv.heap[t]? = some (.cells (tbA (rmF most) b) 99 (0, 0)) ∧ TM wv b (layR (rmF most) (l.take i)) ∧ wv.heap[r]? = some (.cells (rbA ra (layR (rmF most) (l.take i)).length rc (rmF most)) 53 (0, 0)) ∧ OE wv 0 ra rc (layR (rmF most) (l.take i))) ?_ _ ⟨0, none, 0, (fun kz => ([undef, undef, undef, undef, undef, undef, undef, undef, undef, undef, undef] : List Value).getD kz undef), rfl, rfl, Nat.zero_le _, GG, kt, HTt, kr, OE.nil _ _⟩
  clear GG kt kr HTt
  rintro mz az wv ⟨i, ra, rc, us1, rfl, rfl, hi, GG, kt, HTt, kr, HL⟩
  have hLtk : AllE (l.take i) := fun x hx => H.all x (List.mem_of_mem_take hx)
  have hRis := layR_ris (room := (rmF most)) hLtk
  have hLf := layR_le (rmF_le most) (l.take i)
  have hLb : (layR (rmF most) (l.take i)).length ≤ 1000 := by omega
  refine wp_seq ?_
  refine wp_region_lit ?_
  cases hi1 : decide (((i : Nat) : Int) < ((l.length : Nat) : Int))
  · have hie : i = l.length := by have := of_decide_eq_false hi1; omega
    refine s_val 17 rfl rfl (.bool false) (run_lssT 3 _ _ _ rfl ((i : Nat) : Int) ((l.length : Nat) : Int) rfl rfl false hi1 _) ?_
    refine nr ?_; intro U h; simp only [z0, z1] at h; subst h
    refine wpList_nil ?_
    refine then_n ?_
    refine wp_seq ?_
    refine wp_cond_false rfl ?_
    refine wp_exit ?_
    refine then_x ?_
    refine then_x ?_
    refine blk_x ?_
    refine then_n ?_
    refine wp_seq ?_
    refine wp_region_lit ?_
    refine s_val 27 rfl rfl (.pointer (some ⟨t, 0, none⟩)) (rfl) ?_
    refine nr ?_; intro U h; simp only [z0, z1] at h; subst h
    refine s_val 28 rfl rfl (.pointer (some ⟨r, 0, none⟩)) (rfl) ?_
    refine nr ?_; intro U h; simp only [z0, z1] at h; subst h
    refine s_val 4 rfl rfl (.pointer (some ⟨t, 0, none⟩)) (rfl) ?_
    refine nr ?_; intro U h; simp only [z0, z1] at h; subst h
    refine s_val 5 rfl rfl (.pointer (some ⟨r, 0, none⟩)) (rfl) ?_
    refine nr ?_; intro U h; simp only [z0, z1] at h; subst h
    refine wpList_nil ?_
    refine then_n ?_
    refine wp_ret ?_
    refine bodyPost_ret (results_tmp2 Try.results8 _ _ _) rfl ?_
    subst hie
    rw [List.take_length] at *
    exact ⟨t, b, r, ra, rc, rfl, GG, kt, HTt, kr, HL, bt, bb, br⟩
  · have hil : i < l.length := by have := of_decide_eq_true hi1; omega
    refine s_val 17 rfl rfl (.bool true) (run_lssT 3 _ _ _ rfl ((i : Nat) : Int) ((l.length : Nat) : Int) rfl rfl true hi1 _) ?_
    refine nr ?_; intro U h; simp only [z0, z1] at h; subst h
    refine wpList_nil ?_
    refine then_n ?_
    refine wp_seq ?_
    refine wp_cond_true rfl ?_
    refine wp_skip ?_
    refine then_n ?_
    refine wp_seq ?_
    refine wp_block ?_
    refine wp_seq ?_
    refine wp_region_lit ?_
    refine s_val 18 rfl rfl (.pointer (pE ao0 i 0)) (run_ixE (H.gro GG) _ _ rfl rfl i rfl (by omega)) ?_
    refine nr ?_; intro U h; simp only [z0, z1] at h; subst h
    refine s_val 19 rfl rfl (.agg (enA (l.getD i zE))) (run_ldE (H.gro GG) _ rfl i rfl (by omega)) ?_
    refine nr ?_; intro U h; simp only [z0, z1] at h; subst h
    refine s_alloc 9 rfl rfl 73 rfl _ zero33 (enA zE) rfl ?_
    intro w3 g1 G eg1 kg1
    have bg1 := size_base GG eg1
    have dtg1 := lt_new kt eg1
    have drg1 := lt_new kr eg1
    have dHTtg1 := HTt.ne eg1
    have dHLg1 := HL.ne eg1
    replace kt := G.has kt
    replace kr := G.has kr
    replace HTt := HTt.gro G
    replace HL := HL.gro G
    replace GG := GG.trans G
    clear G
    clear eg1
    refine nr ?_; intro U h; simp only [z0, z1] at h; subst h
    refine s_store rfl rfl 73 _ _ rfl g1 0 rfl (.agg (enA (l.getD i zE))) rfl 73 _ kg1 (enA (l.getD i zE)) rfl (si33' _) (enA_fit _ _) (enA_one _) (enA (l.getD i zE)) (splice_whole _ _ (enA_sz _ _)) ?_
    intro w4 St
    have kS := kg1
    replace kt := St.has (by omega) kt
    replace kr := St.has (by omega) kr
    replace HTt := HTt.st St dHTtg1
    replace HL := HL.st St dHLg1
    replace GG := GG.store St bg1
    replace kg1 := St.new
    clear St
    refine wpList_nil ?_
    refine then_n ?_
    refine wp_seq ?_
    refine wp_region_lit ?_
    refine s_val 20 rfl rfl (.pointer (some ⟨t, 0, none⟩)) (rfl) ?_
    refine nr ?_; intro U h; simp only [z0, z1] at h; subst h
    refine s_val 21 rfl rfl (.agg (enA (l.getD i zE))) (ldE0 _ rfl g1 rfl (kg1)) ?_
    refine nr ?_; intro U h; simp only [z0, z1] at h; subst h
    refine s_callx 22 rfl rfl _ 24 Try.call24 rfl rfl _ rfl [.pointer (some ⟨t, 0, none⟩), .agg (enA (l.getD i zE))] rfl (add_any _ t b (rmF most) (layR (rmF most) (l.take i)) (kt) (HTt) (l.getD i zE) (H.all.at hil)) (by rintro _ _ ⟨he, _⟩; exact ⟨_, he⟩) ?_
    rintro v w5 ⟨he, HT2, G2⟩
    cases he
    replace kt := G2.has kt (by simpa using HTt.nec kt)
    replace kr := G2.has kr (by simpa using HTt.nec kr)
    replace kg1 := G2.has kg1 (by simpa using HTt.nec kg1)
    replace HL := HL.mapw HTt G2
    replace GG := G2.gro GG (by simpa using bb)
    clear HTt G2
    have HTt := HT2
    clear HT2
    refine nr ?_; intro U h; simp only [z0, z1] at h; subst h
    refine wpList_nil ?_
    refine then_n ?_
    refine wp_region_lit ?_
    refine s_val 23 rfl rfl (.pointer (some ⟨r, 0, none⟩)) (rfl) ?_
    refine nr ?_; intro U h; simp only [z0, z1] at h; subst h
    refine s_val 24 rfl rfl (.agg (enA (l.getD i zE))) (ldE0 _ rfl g1 rfl (kg1)) ?_
    refine nr ?_; intro U h; simp only [z0, z1] at h; subst h
    refine s_callx 25 rfl rfl _ 26 Try.call26 rfl rfl _ rfl [.pointer (some ⟨r, 0, none⟩), .agg (enA (l.getD i zE))] rfl (radd_any _ r (rmF most) ra rc (layR (rmF most) (l.take i)) (kr) (HL) hLb hRis.kn (l.getD i zE) (H.all.at hil)) (by rintro _ _ ⟨he, _⟩; exact ⟨_, he⟩) ?_
    rintro v w6 ⟨he, ra2, rc2, kr2, HL2, G2⟩
    cases he
    replace kt := G2.has kt (ne_cells kt kr (by decide))
    replace kg1 := G2.has kg1 (ne_cells kg1 kr (by decide))
    replace HTt := HTt.gros G2 (by simpa using (HTt.nec kr).symm)
    replace GG := G2.gro GG (by simpa using br)
    clear kr HL G2
    have kr := kr2
    have HL := HL2
    clear kr2 HL2
    refine nr ?_; intro U h; simp only [z0, z1] at h; subst h
    refine wpList_nil ?_
    refine blk_n ?_
    refine then_n ?_
    refine wp_region_lit ?_
    refine s_val 26 rfl rfl (.int .i64 ((i + 1 : Nat) : Int)) (run_addI 3 _ _ _ rfl ((i : Nat) : Int) 1 ((i + 1 : Nat) : Int) rfl rfl (by omega) (by omega) (by omega) _) ?_
    refine nr ?_; intro U h; simp only [z0, z1] at h; subst h
    refine s_val 16 rfl rfl (.int .i64 ((i + 1 : Nat) : Int)) (rfl) ?_
    refine nr ?_; intro U h; simp only [z0, z1] at h; subst h
    refine wpList_nil ?_
    refine then_n ?_
    exact ⟨l.length + 1 - (i + 1), by omega, i + 1, ra2, rc2, (fun kz => ([.pointer (some ⟨g1, 0, none⟩), .bool true, .pointer (pE ao0 i 0), .agg (enA (l.getD i zE)), .pointer (some ⟨t, 0, none⟩), .agg (enA (l.getD i zE)), .int .i64 (addC (rmF most) (layR (rmF most) (l.take i)) (l.getD i zE)), .pointer (some ⟨r, 0, none⟩), .agg (enA (l.getD i zE)), .int .i64 (addC (rmF most) (layR (rmF most) (l.take i)) (l.getD i zE)), .int .i64 ((i + 1 : Nat) : Int)] : List Value).getD kz undef), rfl, rfl, by omega, GG, kt, by rw [layR_step hil]; exact HTt, by rw [layR_step hil]; exact kr, by rw [layR_step hil]; exact HL⟩
set_option maxRecDepth 100000 in
set_option maxHeartbeats 4000000 in
theorem same_none (w : World) (m f : Bool) : Calls Try.prog 12 #[.agg (edA none 0 m f), .agg (edA none 0 m f)] w (fun e w' => e = .returned (.bool true) ∧ Gro w w') := by
  refine s_enter Try.func12 rfl Try.ntmps12 [.agg (edA none 0 m f), .agg (edA none 0 m f)] [.agg (edA none 0 m f), .agg (edA none 0 m f), undef, undef, undef, undef, undef, undef, undef, undef, undef, undef, undef, undef, undef, undef, undef, undef, undef, undef, undef, undef, undef, undef, undef, undef, undef, undef, undef, undef, undef, undef, undef, undef, undef, undef, undef, undef, undef, undef, undef, undef, undef, undef, undef, undef, undef, undef, undef, undef, undef, undef, undef, undef, undef, undef, undef, undef, undef, undef, undef, undef, undef] rfl ?_
  have GG := Gro.refl w
  refine wp_seq ?_
  refine wp_region_lit ?_
  refine s_box 2 rfl rfl 41 _ rfl _ rfl (edA none 0 m f) rfl ?_
  intro w1 g1 G eg1 kg1
  have bg1 := size_base GG eg1
  replace GG := GG.trans G
  clear G
  clear eg1
  refine nr ?_; intro U h; simp only [z0, z1] at h; subst h
  refine s_box 3 rfl rfl 45 _ rfl _ rfl (edA none 0 m f) rfl ?_
  intro w2 g2 G eg2 kg2
  have bg2 := size_base GG eg2
  have dg1g2 := lt_new kg1 eg2
  replace kg1 := G.has kg1
  replace GG := GG.trans G
  clear G
  clear eg2
  refine nr ?_; intro U h; simp only [z0, z1] at h; subst h
  refine s_val 4 rfl rfl (.bool false) (rfl) ?_
  refine nr ?_; intro U h; simp only [z0, z1] at h; subst h
  refine wpList_nil ?_
  refine then_n ?_
  refine wp_seq ?_
  refine wp_seq ?_
  refine wp_region_opq ?_
  intro OPS hY
  have y5 := hY 5 11 rfl
  have y12 := hY 12 18 rfl
  clear hY
  refine s_val 6 rfl rfl (.pointer (some ⟨g1, 1, none⟩)) (run_fld 41 _ 1 rfl g1 0 rfl 1 (by kernel_rfl)) ?_
  refine nr ?_; intro U h; simp only [z0, z1] at h; subst h
  refine s_val 7 rfl rfl (.bool m) (ldD_m _ rfl g1 rfl (kg1)) ?_
  refine nr ?_; intro U h; simp only [z0, z1] at h; subst h
  refine s_val 8 rfl rfl (.pointer (some ⟨g2, 1, none⟩)) (run_fld 45 _ 1 rfl g2 0 rfl 1 (by kernel_rfl)) ?_
  refine nr ?_; intro U h; simp only [z0, z1] at h; subst h
  refine s_val 9 rfl rfl (.bool m) (ldQ_m _ rfl g2 rfl (kg2)) ?_
  refine nr ?_; intro U h; simp only [z0, z1] at h; subst h
  refine s_val 10 rfl rfl (.bool false) (run_neB 4 _ _ _ rfl m m rfl rfl Try.underlying4 false (decide_eq_true rfl) _) ?_
  refine nr ?_; intro U h; simp only [z0, z1] at h; subst h
  refine s_val 11 rfl rfl (.bool false) (rfl) ?_
  refine nr ?_; intro U h; simp only [z0, z1] at h; subst h
  refine s_gvalY 12 rfl rfl y5 rfl (.pointer (some ⟨g1, 2, none⟩)) (run_fld 41 _ 2 rfl g1 0 rfl 2 (by kernel_rfl)) ?_
  refine nr ?_; intro U h; simp only [z0, z1] at h; subst h
  refine s_gvalY 13 rfl rfl y5 rfl (.bool f) (ldD_f _ rfl g1 rfl (kg1)) ?_
  refine nr ?_; intro U h; simp only [z0, z1] at h; subst h
  refine s_gvalY 14 rfl rfl y5 rfl (.pointer (some ⟨g2, 2, none⟩)) (run_fld 45 _ 2 rfl g2 0 rfl 2 (by kernel_rfl)) ?_
  refine nr ?_; intro U h; simp only [z0, z1] at h; subst h
  refine s_gvalY 15 rfl rfl y5 rfl (.bool f) (ldQ_f _ rfl g2 rfl (kg2)) ?_
  refine nr ?_; intro U h; simp only [z0, z1] at h; subst h
  refine s_gvalY 16 rfl rfl y5 rfl (.bool false) (run_neB 4 _ _ _ rfl f f rfl rfl Try.underlying4 false (decide_eq_true rfl) _) ?_
  refine nr ?_; intro U h; simp only [z0, z1] at h; subst h
  refine s_val 17 rfl rfl (.bool false) (rfl) ?_
  refine nr ?_; intro U h; simp only [z0, z1] at h; subst h
  refine s_val 18 rfl rfl (.bool false) (rfl) ?_
  refine nr ?_; intro U h; simp only [z0, z1] at h; subst h
  refine s_gvalY 19 rfl rfl y12 rfl (.pointer (some ⟨g1, 0, none⟩)) (run_fld 41 _ 0 rfl g1 0 rfl 0 (by kernel_rfl)) ?_
  refine nr ?_; intro U h; simp only [z0, z1] at h; subst h
  refine s_gvalY 20 rfl rfl y12 rfl (.slice none 0 0) (ldD_o _ rfl g1 rfl (kg1)) ?_
  refine nr ?_; intro U h; simp only [z0, z1] at h; subst h
  refine s_gvalY 21 rfl rfl y12 rfl (.int .i64 0) (run_len Try.underlying39 _ rfl _ _ _ rfl _) ?_
  refine nr ?_; intro U h; simp only [z0, z1] at h; subst h
  refine s_gvalY 22 rfl rfl y12 rfl (.pointer (some ⟨g2, 0, none⟩)) (run_fld 45 _ 0 rfl g2 0 rfl 0 (by kernel_rfl)) ?_
  refine nr ?_; intro U h; simp only [z0, z1] at h; subst h
  refine s_gvalY 23 rfl rfl y12 rfl (.slice none 0 0) (ldQ_o _ rfl g2 rfl (kg2)) ?_
  refine nr ?_; intro U h; simp only [z0, z1] at h; subst h
  refine s_gvalY 24 rfl rfl y12 rfl (.int .i64 0) (run_len Try.underlying39 _ rfl _ _ _ rfl _) ?_
  refine nr ?_; intro U h; simp only [z0, z1] at h; subst h
  refine s_gvalY 25 rfl rfl y12 rfl (.bool false) (run_neq_k 3 .i64 _ _ _ rfl Try.underlying3 0 0 rfl rfl false (by decide) _) ?_
  refine nr ?_; intro U h; simp only [z0, z1] at h; subst h
  refine s_val 26 rfl rfl (.bool false) (rfl) ?_
  refine nr ?_; intro U h; simp only [z0, z1] at h; subst h
  refine wpList_nil ?_
  refine then_n ?_
  refine wp_cond_false rfl ?_
  refine wp_skip ?_
  refine then_n ?_
  refine wp_seq ?_
  refine wp_seq ?_
  refine wp_region_lit ?_
  refine s_val 27 rfl rfl (.pointer (some ⟨g1, 0, none⟩)) (run_fld 41 _ 0 rfl g1 0 rfl 0 (by kernel_rfl)) ?_
  refine nr ?_; intro U h; simp only [z0, z1] at h; subst h
  refine s_val 28 rfl rfl (.slice none 0 0) (ldD_o _ rfl g1 rfl (kg1)) ?_
  refine nr ?_; intro U h; simp only [z0, z1] at h; subst h
  refine s_val 29 rfl rfl (.int .i64 0) (run_len Try.underlying39 _ rfl _ _ _ rfl _) ?_
  refine nr ?_; intro U h; simp only [z0, z1] at h; subst h
  refine s_val 30 rfl rfl (.int .i64 0) (rfl) ?_
  refine nr ?_; intro U h; simp only [z0, z1] at h; subst h
  refine wpList_nil ?_
  refine then_n ?_
  refine wp_block ?_
  refine wp_loopN (fun mz az wv => ∃ (i : Nat) (us1 : Nat → Value), mz = 1 - i ∧ az = ⟨[.agg (edA none 0 m f), .agg (edA none 0 m f), .pointer (some ⟨g1, 0, none⟩), .pointer (some ⟨g2, 0, none⟩), us1 0, us1 1, .pointer (some ⟨g1, 1, none⟩), .bool m, .pointer (some ⟨g2, 1, none⟩), .bool m, .bool false, .bool false, .pointer (some ⟨g1, 2, none⟩), .bool f, .pointer (some ⟨g2, 2, none⟩), .bool f, .bool false, .bool false, .bool false, .pointer (some ⟨g1, 0, none⟩), .slice none 0 0, .int .i64 0, .pointer (some ⟨g2, 0, none⟩), .slice none 0 0, .int .i64 0, .bool false, .bool false, .pointer (some ⟨g1, 0, none⟩), .slice none 0 0, .int .i64 0, .int .i64 ((i : Nat) : Int), us1 2, us1 3, us1 4, us1 5, us1 6, us1 7, us1 8, us1 9, us1 10, us1 11, us1 12, us1 13, us1 14, us1 15, us1 16, us1 17, us1 18, us1 19, us1 20, us1 21, us1 22, us1 23, us1 24, us1 25, us1 26, us1 27, us1 28, us1 29, us1 30, us1 31, us1 32, us1 33].toArray, []⟩ ∧ i = 0 ∧ Gro w wv) ?_ _ ⟨0, (fun kz => ([.bool false, undef, undef, undef, undef, undef, undef, undef, undef, undef, undef, undef, undef, undef, undef, undef, undef, undef, undef, undef, undef, undef, undef, undef, undef, undef, undef, undef, undef, undef, undef, undef, undef, undef] : List Value).getD kz undef), rfl, rfl, rfl, GG⟩
  clear GG
  rintro mz az wv ⟨i, us1, rfl, rfl, hi, GG⟩
  refine wp_seq ?_
  refine wp_region_lit ?_
  refine s_val 31 rfl rfl (.bool false) (run_lssT 3 _ _ _ rfl ((i : Nat) : Int) 0 rfl rfl false (decide_eq_false (by omega)) _) ?_
  refine nr ?_; intro U h; simp only [z0, z1] at h; subst h
  refine wpList_nil ?_
  refine then_n ?_
  refine wp_seq ?_
  refine wp_cond_false rfl ?_
  refine wp_exit ?_
  refine then_x ?_
  refine then_x ?_
  refine blk_x ?_
  refine then_n ?_
  refine wp_seq ?_
  refine wp_region_lit ?_
  refine s_val 4 rfl rfl (.bool true) (rfl) ?_
  refine nr ?_; intro U h; simp only [z0, z1] at h; subst h
  refine wpList_nil ?_
  refine then_n ?_
  refine wp_ret ?_
  refine bodyPost_ret (results_tmp Try.results12 _ _ _) rfl ?_
  exact ⟨rfl, GG⟩
set_option maxRecDepth 100000 in
set_option maxHeartbeats 4000000 in
theorem same_some (w : World) (m f : Bool) (k : Int) (M : Msg) (hl : M.l.length ≤ 17592186044416) (q1 q2 B1 B2 : Nat) (a1 a2 : Option Addr) (c1 c2 : Nat) (s2 s3 s4 t2 t3 t4 : Sl) (kq1 : w.heap[q1]? = some (.cells (hopA k (frY M a1 c1 (gz s2 s3 s4))) 71 (0, 0))) (kq2 : w.heap[q2]? = some (.cells (hopA k (frY M a2 c2 (gz t2 t3 t4))) 71 (0, 0))) (HQ1 : FrQ w B1 (frY M a1 c1 (gz s2 s3 s4)) (dM M)) (HQ2 : FrQ w B2 (frY M a2 c2 (gz t2 t3 t4)) (dM M)) : Calls Try.prog 12 #[.agg (edA (some ⟨q1, 0, none⟩) 1 m f), .agg (edA (some ⟨q2, 0, none⟩) 1 m f)] w (fun e w' => e = .returned (.bool true) ∧ Gro w w') := by
  refine s_enter Try.func12 rfl Try.ntmps12 [.agg (edA (some ⟨q1, 0, none⟩) 1 m f), .agg (edA (some ⟨q2, 0, none⟩) 1 m f)] [.agg (edA (some ⟨q1, 0, none⟩) 1 m f), .agg (edA (some ⟨q2, 0, none⟩) 1 m f), undef, undef, undef, undef, undef, undef, undef, undef, undef, undef, undef, undef, undef, undef, undef, undef, undef, undef, undef, undef, undef, undef, undef, undef, undef, undef, undef, undef, undef, undef, undef, undef, undef, undef, undef, undef, undef, undef, undef, undef, undef, undef, undef, undef, undef, undef, undef, undef, undef, undef, undef, undef, undef, undef, undef, undef, undef, undef, undef, undef, undef] rfl ?_
  have GG := Gro.refl w
  refine wp_seq ?_
  refine wp_region_lit ?_
  refine s_box 2 rfl rfl 41 _ rfl _ rfl (edA (some ⟨q1, 0, none⟩) 1 m f) rfl ?_
  intro w1 g1 G eg1 kg1
  have bg1 := size_base GG eg1
  have dq1g1 := lt_new kq1 eg1
  have dq2g1 := lt_new kq2 eg1
  replace kq1 := G.has kq1
  replace kq2 := G.has kq2
  replace HQ1 := HQ1.gro G
  replace HQ2 := HQ2.gro G
  replace GG := GG.trans G
  clear G
  clear eg1
  refine nr ?_; intro U h; simp only [z0, z1] at h; subst h
  refine s_box 3 rfl rfl 45 _ rfl _ rfl (edA (some ⟨q2, 0, none⟩) 1 m f) rfl ?_
  intro w2 g2 G eg2 kg2
  have bg2 := size_base GG eg2
  have dq1g2 := lt_new kq1 eg2
  have dq2g2 := lt_new kq2 eg2
  have dg1g2 := lt_new kg1 eg2
  replace kq1 := G.has kq1
  replace kq2 := G.has kq2
  replace kg1 := G.has kg1
  replace HQ1 := HQ1.gro G
  replace HQ2 := HQ2.gro G
  replace GG := GG.trans G
  clear G
  clear eg2
  refine nr ?_; intro U h; simp only [z0, z1] at h; subst h
  refine s_val 4 rfl rfl (.bool false) (rfl) ?_
  refine nr ?_; intro U h; simp only [z0, z1] at h; subst h
  refine wpList_nil ?_
  refine then_n ?_
  refine wp_seq ?_
  refine wp_seq ?_
  refine wp_region_opq ?_
  intro OPS hY
  have y5 := hY 5 11 rfl
  have y12 := hY 12 18 rfl
  clear hY
  refine s_val 6 rfl rfl (.pointer (some ⟨g1, 1, none⟩)) (run_fld 41 _ 1 rfl g1 0 rfl 1 (by kernel_rfl)) ?_
  refine nr ?_; intro U h; simp only [z0, z1] at h; subst h
  refine s_val 7 rfl rfl (.bool m) (ldD_m _ rfl g1 rfl (kg1)) ?_
  refine nr ?_; intro U h; simp only [z0, z1] at h; subst h
  refine s_val 8 rfl rfl (.pointer (some ⟨g2, 1, none⟩)) (run_fld 45 _ 1 rfl g2 0 rfl 1 (by kernel_rfl)) ?_
  refine nr ?_; intro U h; simp only [z0, z1] at h; subst h
  refine s_val 9 rfl rfl (.bool m) (ldQ_m _ rfl g2 rfl (kg2)) ?_
  refine nr ?_; intro U h; simp only [z0, z1] at h; subst h
  refine s_val 10 rfl rfl (.bool false) (run_neB 4 _ _ _ rfl m m rfl rfl Try.underlying4 false (decide_eq_true rfl) _) ?_
  refine nr ?_; intro U h; simp only [z0, z1] at h; subst h
  refine s_val 11 rfl rfl (.bool false) (rfl) ?_
  refine nr ?_; intro U h; simp only [z0, z1] at h; subst h
  refine s_gvalY 12 rfl rfl y5 rfl (.pointer (some ⟨g1, 2, none⟩)) (run_fld 41 _ 2 rfl g1 0 rfl 2 (by kernel_rfl)) ?_
  refine nr ?_; intro U h; simp only [z0, z1] at h; subst h
  refine s_gvalY 13 rfl rfl y5 rfl (.bool f) (ldD_f _ rfl g1 rfl (kg1)) ?_
  refine nr ?_; intro U h; simp only [z0, z1] at h; subst h
  refine s_gvalY 14 rfl rfl y5 rfl (.pointer (some ⟨g2, 2, none⟩)) (run_fld 45 _ 2 rfl g2 0 rfl 2 (by kernel_rfl)) ?_
  refine nr ?_; intro U h; simp only [z0, z1] at h; subst h
  refine s_gvalY 15 rfl rfl y5 rfl (.bool f) (ldQ_f _ rfl g2 rfl (kg2)) ?_
  refine nr ?_; intro U h; simp only [z0, z1] at h; subst h
  refine s_gvalY 16 rfl rfl y5 rfl (.bool false) (run_neB 4 _ _ _ rfl f f rfl rfl Try.underlying4 false (decide_eq_true rfl) _) ?_
  refine nr ?_; intro U h; simp only [z0, z1] at h; subst h
  refine s_val 17 rfl rfl (.bool false) (rfl) ?_
  refine nr ?_; intro U h; simp only [z0, z1] at h; subst h
  refine s_val 18 rfl rfl (.bool false) (rfl) ?_
  refine nr ?_; intro U h; simp only [z0, z1] at h; subst h
  refine s_gvalY 19 rfl rfl y12 rfl (.pointer (some ⟨g1, 0, none⟩)) (run_fld 41 _ 0 rfl g1 0 rfl 0 (by kernel_rfl)) ?_
  refine nr ?_; intro U h; simp only [z0, z1] at h; subst h
  refine s_gvalY 20 rfl rfl y12 rfl (.slice (some ⟨q1, 0, none⟩) 1 1) (ldD_o _ rfl g1 rfl (kg1)) ?_
  refine nr ?_; intro U h; simp only [z0, z1] at h; subst h
  refine s_gvalY 21 rfl rfl y12 rfl (.int .i64 1) (run_len Try.underlying39 _ rfl _ _ _ rfl _) ?_
  refine nr ?_; intro U h; simp only [z0, z1] at h; subst h
  refine s_gvalY 22 rfl rfl y12 rfl (.pointer (some ⟨g2, 0, none⟩)) (run_fld 45 _ 0 rfl g2 0 rfl 0 (by kernel_rfl)) ?_
  refine nr ?_; intro U h; simp only [z0, z1] at h; subst h
  refine s_gvalY 23 rfl rfl y12 rfl (.slice (some ⟨q2, 0, none⟩) 1 1) (ldQ_o _ rfl g2 rfl (kg2)) ?_
  refine nr ?_; intro U h; simp only [z0, z1] at h; subst h
  refine s_gvalY 24 rfl rfl y12 rfl (.int .i64 1) (run_len Try.underlying39 _ rfl _ _ _ rfl _) ?_
  refine nr ?_; intro U h; simp only [z0, z1] at h; subst h
  refine s_gvalY 25 rfl rfl y12 rfl (.bool false) (run_neq_k 3 .i64 _ _ _ rfl Try.underlying3 1 1 rfl rfl false (by decide) _) ?_
  refine nr ?_; intro U h; simp only [z0, z1] at h; subst h
  refine s_val 26 rfl rfl (.bool false) (rfl) ?_
  refine nr ?_; intro U h; simp only [z0, z1] at h; subst h
  refine wpList_nil ?_
  refine then_n ?_
  refine wp_cond_false rfl ?_
  refine wp_skip ?_
  refine then_n ?_
  refine wp_seq ?_
  refine wp_seq ?_
  refine wp_region_lit ?_
  refine s_val 27 rfl rfl (.pointer (some ⟨g1, 0, none⟩)) (run_fld 41 _ 0 rfl g1 0 rfl 0 (by kernel_rfl)) ?_
  refine nr ?_; intro U h; simp only [z0, z1] at h; subst h
  refine s_val 28 rfl rfl (.slice (some ⟨q1, 0, none⟩) 1 1) (ldD_o _ rfl g1 rfl (kg1)) ?_
  refine nr ?_; intro U h; simp only [z0, z1] at h; subst h
  refine s_val 29 rfl rfl (.int .i64 1) (run_len Try.underlying39 _ rfl _ _ _ rfl _) ?_
  refine nr ?_; intro U h; simp only [z0, z1] at h; subst h
  refine s_val 30 rfl rfl (.int .i64 0) (rfl) ?_
  refine nr ?_; intro U h; simp only [z0, z1] at h; subst h
  refine wpList_nil ?_
  refine then_n ?_
  refine wp_block ?_
  refine wp_loopN (fun mz az wv => ∃ (i : Nat) (us1 : Nat → Value), mz = 2 - i ∧ az = ⟨[.agg (edA (some ⟨q1, 0, none⟩) 1 m f), .agg (edA (some ⟨q2, 0, none⟩) 1 m f), .pointer (some ⟨g1, 0, none⟩), .pointer (some ⟨g2, 0, none⟩), us1 0, us1 1, .pointer (some ⟨g1, 1, none⟩), .bool m, .pointer (some ⟨g2, 1, none⟩), .bool m, .bool false, .bool false, .pointer (some ⟨g1, 2, none⟩), .bool f, .pointer (some ⟨g2, 2, none⟩), .bool f, .bool false, .bool false, .bool false, .pointer (some ⟨g1, 0, none⟩), .slice (some ⟨q1, 0, none⟩) 1 1, .int .i64 1, .pointer (some ⟨g2, 0, none⟩), .slice (some ⟨q2, 0, none⟩) 1 1, .int .i64 1, .bool false, .bool false, .pointer (some ⟨g1, 0, none⟩), .slice (some ⟨q1, 0, none⟩) 1 1, .int .i64 1, .int .i64 ((i : Nat) : Int), us1 2, us1 3, us1 4, us1 5, us1 6, us1 7, us1 8, us1 9, us1 10, us1 11, us1 12, us1 13, us1 14, us1 15, us1 16, us1 17, us1 18, us1 19, us1 20, us1 21, us1 22, us1 23, us1 24, us1 25, us1 26, us1 27, us1 28, us1 29, us1 30, us1 31, us1 32, us1 33].toArray, []⟩ ∧ i ≤ 1 ∧ Gro w wv ∧ wv.heap[q1]? = some (.cells (hopA k (frY M a1 c1 (gz s2 s3 s4))) 71 (0, 0)) ∧ wv.heap[q2]? = some (.cells (hopA k (frY M a2 c2 (gz t2 t3 t4))) 71 (0, 0)) ∧ wv.heap[g1]? = some (.cells (edA (some ⟨q1, 0, none⟩) 1 m f) 41 (0, 0)) ∧ wv.heap[g2]? = some (.cells (edA (some ⟨q2, 0, none⟩) 1 m f) 45 (0, 0)) ∧ FrQ wv B1 (frY M a1 c1 (gz s2 s3 s4)) (dM M) ∧ FrQ wv B2 (frY M a2 c2 (gz t2 t3 t4)) (dM M)) ?_ _ ⟨0, (fun kz => ([.bool false, undef, undef, undef, undef, undef, undef, undef, undef, undef, undef, undef, undef, undef, undef, undef, undef, undef, undef, undef, undef, undef, undef, undef, undef, undef, undef, undef, undef, undef, undef, undef, undef, undef] : List Value).getD kz undef), rfl, rfl, Nat.zero_le _, GG, kq1, kq2, kg1, kg2, HQ1, HQ2⟩
  clear GG kq1 kq2 kg1 kg2 HQ1 HQ2
  rintro mz az wv ⟨i, us1, rfl, rfl, hi, GG, kq1, kq2, kg1, kg2, HQ1, HQ2⟩
  refine wp_seq ?_
  refine wp_region_lit ?_
  cases hi1 : decide (((i : Nat) : Int) < 1)
  · refine s_val 31 rfl rfl (.bool false) (run_lssT 3 _ _ _ rfl ((i : Nat) : Int) 1 rfl rfl false hi1 _) ?_
    refine nr ?_; intro U h; simp only [z0, z1] at h; subst h
    refine wpList_nil ?_
    refine then_n ?_
    refine wp_seq ?_
    refine wp_cond_false rfl ?_
    refine wp_exit ?_
    refine then_x ?_
    refine then_x ?_
    refine blk_x ?_
    refine then_n ?_
    refine wp_seq ?_
    refine wp_region_lit ?_
    refine s_val 4 rfl rfl (.bool true) (rfl) ?_
    refine nr ?_; intro U h; simp only [z0, z1] at h; subst h
    refine wpList_nil ?_
    refine then_n ?_
    refine wp_ret ?_
    refine bodyPost_ret (results_tmp Try.results12 _ _ _) rfl ?_
    exact ⟨rfl, GG⟩
  · have hi0 : i = 0 := by have := of_decide_eq_true hi1; omega
    subst hi0
    refine s_val 31 rfl rfl (.bool true) (run_lssT 3 _ _ _ rfl ((0 : Nat) : Int) 1 rfl rfl true hi1 _) ?_
    refine nr ?_; intro U h; simp only [z0, z1] at h; subst h
    refine wpList_nil ?_
    refine then_n ?_
    refine wp_seq ?_
    refine wp_cond_true rfl ?_
    refine wp_skip ?_
    refine then_n ?_
    refine wp_seq ?_
    refine wp_block ?_
    refine wp_seq ?_
    refine wp_region_lit ?_
    refine s_val 32 rfl rfl (.int .i64 ((0 : Nat) : Int)) (rfl) ?_
    refine nr ?_; intro U h; simp only [z0, z1] at h; subst h
    refine s_val 5 rfl rfl (.int .i64 ((0 : Nat) : Int)) (rfl) ?_
    refine nr ?_; intro U h; simp only [z0, z1] at h; subst h
    refine wpList_nil ?_
    refine then_n ?_
    refine wp_seq ?_
    refine wp_region_exA (A := ?Ax1) 28 [(0, 33), (1, 34), (2, 35), (3, 36), (4, 37), (5, 38), (6, 39), (7, 40), (8, 41), (9, 42), (10, 43), (11, 44), (12, 45), (13, 46), (14, 47), (15, 48), (16, 49), (17, 50), (18, 51), (19, 52), (20, 53), (21, 54), (22, 55), (23, 56), (24, 57), (25, 58), (26, 59), (27, 60)] [.val (.pointer (some ⟨g1, 0, none⟩)), .val (.slice (some ⟨q1, 0, none⟩) 1 1), .val (.int .i64 ((0 : Nat) : Int)), .val (.pointer (some ⟨q1, 0, none⟩)), .val (.pointer (some ⟨q1, 0, none⟩)), .val (.int .i64 k), .val (.pointer (some ⟨g2, 0, none⟩)), .val (.slice (some ⟨q2, 0, none⟩) 1 1), .val (.int .i64 ((0 : Nat) : Int)), .val (.pointer (some ⟨q2, 0, none⟩)), .val (.pointer (some ⟨q2, 0, none⟩)), .val (.int .i64 k), .val (.bool false), .val (.bool false), .val (.pointer (some ⟨g1, 0, none⟩)), .val (.slice (some ⟨q1, 0, none⟩) 1 1), .val (.int .i64 ((0 : Nat) : Int)), .val (.pointer (some ⟨q1, 0, none⟩)), .val (.pointer (some ⟨q1, 1, none⟩)), .val (.agg (frA (frY M a1 c1 (gz s2 s3 s4)))), .val (.pointer (some ⟨g2, 0, none⟩)), .val (.slice (some ⟨q2, 0, none⟩) 1 1), .val (.int .i64 ((0 : Nat) : Int)), .val (.pointer (some ⟨q2, 0, none⟩)), .val (.pointer (some ⟨q2, 1, none⟩)), .val (.agg (frA (frY M a2 c2 (gz t2 t3 t4)))), .val (.bool true), .val (.bool false)] follows (by kernel_rfl) rfl ?hAx1 (opsA_cons ?o0x1 (opsA_cons ?o1x1 (opsA_cons ?o2x1 (opsA_cons ?o3x1 (opsA_cons ?o4x1 (opsA_cons ?o5x1 (opsA_cons ?o6x1 (opsA_cons ?o7x1 (opsA_cons ?o8x1 (opsA_cons ?o9x1 (opsA_cons ?o10x1 (opsA_cons ?o11x1 (opsA_cons ?o12x1 (opsA_cons ?o13x1 (opsA_cons ?o14x1 (opsA_cons ?o15x1 (opsA_cons ?o16x1 (opsA_cons ?o17x1 (opsA_cons ?o18x1 (opsA_cons ?o19x1 (opsA_cons ?o20x1 (opsA_cons ?o21x1 (opsA_cons ?o22x1 (opsA_cons ?o23x1 (opsA_cons ?o24x1 (opsA_cons ?o25x1 (opsA_cons ?o26x1 (opsA_cons ?o27x1 opsA_nil)))))))))))))))))))))))))))) ?restx1
    case hAx1 =>
      intro ptrs
      simp only [full, foldSlots, filledE, postE, List.foldl_cons, List.foldl_nil, List.getD_cons_zero, List.getD_cons_succ, fill_val, List.set_cons_zero, List.set_cons_succ]
      exact rfl
    case o0x1 => exact fun _ _ _ _ => opE_value (v := .pointer (some ⟨g1, 0, none⟩)) rfl (run_fld 41 _ 0 rfl g1 0 rfl 0 (by kernel_rfl))
    case o1x1 => exact fun _ _ hw _ => opE_value (v := .slice (some ⟨q1, 0, none⟩) 1 1) rfl (ldD_o _ rfl g1 rfl (hw.has kg1))
    case o2x1 => exact fun _ _ _ _ => opE_move (v := .int .i64 ((0 : Nat) : Int)) _ rfl rfl rfl
    case o3x1 => exact fun _ _ _ _ => opE_value (v := .pointer (some ⟨q1, 0, none⟩)) rfl (run_ixH q1 _ _ rfl rfl rfl)
    case o4x1 => exact fun _ _ _ _ => opE_value (v := .pointer (some ⟨q1, 0, none⟩)) rfl (run_fld 71 _ 0 rfl q1 0 rfl 0 (by kernel_rfl))
    case o5x1 => exact fun _ _ hw _ => opE_value (v := .int .i64 k) rfl (ldH_n _ rfl q1 rfl (hw.has kq1))
    case o6x1 => exact fun _ _ _ _ => opE_value (v := .pointer (some ⟨g2, 0, none⟩)) rfl (run_fld 45 _ 0 rfl g2 0 rfl 0 (by kernel_rfl))
    case o7x1 => exact fun _ _ hw _ => opE_value (v := .slice (some ⟨q2, 0, none⟩) 1 1) rfl (ldQ_o _ rfl g2 rfl (hw.has kg2))
    case o8x1 => exact fun _ _ _ _ => opE_move (v := .int .i64 ((0 : Nat) : Int)) _ rfl rfl rfl
    case o9x1 => exact fun _ _ _ _ => opE_value (v := .pointer (some ⟨q2, 0, none⟩)) rfl (run_ixH q2 _ _ rfl rfl rfl)
    case o10x1 => exact fun _ _ _ _ => opE_value (v := .pointer (some ⟨q2, 0, none⟩)) rfl (run_fld 71 _ 0 rfl q2 0 rfl 0 (by kernel_rfl))
    case o11x1 => exact fun _ _ hw _ => opE_value (v := .int .i64 k) rfl (ldH_n _ rfl q2 rfl (hw.has kq2))
    case o12x1 => exact fun _ _ _ _ => opE_value (v := .bool false) rfl (run_neq_k 3 .i64 _ _ _ rfl Try.underlying3 k k rfl rfl false (decide_eq_true rfl) _)
    case o13x1 => exact fun _ _ _ _ => opE_move (v := .bool false) _ rfl rfl rfl
    case o14x1 => exact fun _ _ _ _ => opE_value (v := .pointer (some ⟨g1, 0, none⟩)) rfl (run_fld 41 _ 0 rfl g1 0 rfl 0 (by kernel_rfl))
    case o15x1 => exact fun _ _ hw _ => opE_value (v := .slice (some ⟨q1, 0, none⟩) 1 1) rfl (ldD_o _ rfl g1 rfl (hw.has kg1))
    case o16x1 => exact fun _ _ _ _ => opE_move (v := .int .i64 ((0 : Nat) : Int)) _ rfl rfl rfl
    case o17x1 => exact fun _ _ _ _ => opE_value (v := .pointer (some ⟨q1, 0, none⟩)) rfl (run_ixH q1 _ _ rfl rfl rfl)
    case o18x1 => exact fun _ _ _ _ => opE_value (v := .pointer (some ⟨q1, 1, none⟩)) rfl (run_fld 71 _ 1 rfl q1 0 rfl 1 (by kernel_rfl))
    case o19x1 => exact fun _ _ hw _ => opE_value (v := .agg (frA (frY M a1 c1 (gz s2 s3 s4)))) rfl (ldH_f _ rfl q1 rfl (hw.has kq1))
    case o20x1 => exact fun _ _ _ _ => opE_value (v := .pointer (some ⟨g2, 0, none⟩)) rfl (run_fld 45 _ 0 rfl g2 0 rfl 0 (by kernel_rfl))
    case o21x1 => exact fun _ _ hw _ => opE_value (v := .slice (some ⟨q2, 0, none⟩) 1 1) rfl (ldQ_o _ rfl g2 rfl (hw.has kg2))
    case o22x1 => exact fun _ _ _ _ => opE_move (v := .int .i64 ((0 : Nat) : Int)) _ rfl rfl rfl
    case o23x1 => exact fun _ _ _ _ => opE_value (v := .pointer (some ⟨q2, 0, none⟩)) rfl (run_ixH q2 _ _ rfl rfl rfl)
    case o24x1 => exact fun _ _ _ _ => opE_value (v := .pointer (some ⟨q2, 1, none⟩)) rfl (run_fld 71 _ 1 rfl q2 0 rfl 1 (by kernel_rfl))
    case o25x1 => exact fun _ _ hw _ => opE_value (v := .agg (frA (frY M a2 c2 (gz t2 t3 t4)))) rfl (ldH_f _ rfl q2 rfl (hw.has kq2))
    case o26x1 =>
      intro ptrs w' hw hE
      exact opE_call (.val (.bool true)) rfl _ 18 Try.call18 rfl rfl _ rfl [.agg (frA (frY M a1 c1 (gz s2 s3 s4))), .agg (frA (frY M a2 c2 (gz t2 t3 t4)))] rfl ((Calls.bool (same_d (frY M a1 c1 (gz s2 s3 s4)) (frY M a2 c2 (gz t2 t3 t4)) (dM M) (dM M) _ (HQ1.gro ((Gro.refl _).drew.trans hw)).w (HQ2.gro ((Gro.refl _).drew.trans hw)).w ⟨by show M.l.length ≤ _; omega, Nat.zero_le _⟩) (sameK_same M _ _ _ _ _ _ _ _ _ _)).mono fun e w' ⟨he, hg⟩ => ⟨_, he, hg, rfl⟩)
    case o27x1 => exact fun _ _ _ _ => opE_value (v := .bool false) rfl (run_nt _ _ rfl true rfl)
    intro ptrs w3 GD hxE
    simp only [List.drop_succ_cons, List.drop_zero]
    replace kq1 := GD.has kq1
    replace kq2 := GD.has kq2
    replace kg1 := GD.has kg1
    replace kg2 := GD.has kg2
    replace HQ1 := HQ1.gro ((Gro.refl _).drew.trans GD)
    replace HQ2 := HQ2.gro ((Gro.refl _).drew.trans GD)
    replace GG := GG.drew.trans GD
    clear GD
    refine s_val 61 rfl rfl (.bool false) (rfl) ?_
    refine nr ?_; intro U h; simp only [z0, z1] at h; subst h
    refine wpList_nil ?_
    refine then_n ?_
    refine wp_cond_false rfl ?_
    refine wp_skip ?_
    refine blk_n ?_
    refine then_n ?_
    refine wp_region_lit ?_
    refine s_val 62 rfl rfl (.int .i64 1) (run_addI 3 _ _ _ rfl ((0 : Nat) : Int) 1 1 rfl rfl (by omega) (by omega) (by omega) _) ?_
    refine nr ?_; intro U h; simp only [z0, z1] at h; subst h
    refine s_val 30 rfl rfl (.int .i64 1) (rfl) ?_
    refine nr ?_; intro U h; simp only [z0, z1] at h; subst h
    refine wpList_nil ?_
    refine then_n ?_
    exact ⟨2 - (0 + 1), by omega, 0 + 1, (fun kz => ([us1 0, .int .i64 ((0 : Nat) : Int), .bool true, .int .i64 ((0 : Nat) : Int), .pointer (some ⟨g1, 0, none⟩), .slice (some ⟨q1, 0, none⟩) 1 1, .int .i64 ((0 : Nat) : Int), .pointer (some ⟨q1, 0, none⟩), .pointer (some ⟨q1, 0, none⟩), .int .i64 k, .pointer (some ⟨g2, 0, none⟩), .slice (some ⟨q2, 0, none⟩) 1 1, .int .i64 ((0 : Nat) : Int), .pointer (some ⟨q2, 0, none⟩), .pointer (some ⟨q2, 0, none⟩), .int .i64 k, .bool false, .bool false, .pointer (some ⟨g1, 0, none⟩), .slice (some ⟨q1, 0, none⟩) 1 1, .int .i64 ((0 : Nat) : Int), .pointer (some ⟨q1, 0, none⟩), .pointer (some ⟨q1, 1, none⟩), .agg (frA (frY M a1 c1 (gz s2 s3 s4))), .pointer (some ⟨g2, 0, none⟩), .slice (some ⟨q2, 0, none⟩) 1 1, .int .i64 ((0 : Nat) : Int), .pointer (some ⟨q2, 0, none⟩), .pointer (some ⟨q2, 1, none⟩), .agg (frA (frY M a2 c2 (gz t2 t3 t4))), .bool true, .bool false, .bool false, .int .i64 1] : List Value).getD kz undef), rfl, rfl, by omega, GG, kq1, kq2, kg1, kg2, HQ1, HQ2⟩
theorem same_any (w : World) (m f : Bool) (o : Option (Int × Msg)) (ho : ∀ k M, o = some (k, M) → M.l.length ≤ 17592186044416) (B1 B2 : Nat) (ao bo : Option Addr) (n n2 : Nat) (H1 : OutP w B1 o ao n) (H2 : OutP w B2 o bo n2) : Calls Try.prog 12 #[.agg (edA ao n m f), .agg (edA bo n2 m f)] w (fun e w' => e = .returned (.bool true) ∧ Gro w w') := by
  cases o with
  | none =>
    obtain ⟨rfl, rfl⟩ := H1
    obtain ⟨rfl, rfl⟩ := H2
    exact same_none w m f
  | some x =>
    obtain ⟨k, M⟩ := x
    obtain ⟨q1, a1, c1, s2, s3, s4, rfl, rfl, kq1, _, HQ1⟩ := H1
    obtain ⟨q2, a2, c2, t2, t3, t4, rfl, rfl, kq2, _, HQ2⟩ := H2
    exact same_some w m f k M (ho k M rfl) q1 q2 B1 B2 a1 a2 c1 c2 s2 s3 s4 t2 t3 t4 kq1 kq2 HQ1 HQ2
end Go.Proofs.Ytkjnefgenffhcaa
