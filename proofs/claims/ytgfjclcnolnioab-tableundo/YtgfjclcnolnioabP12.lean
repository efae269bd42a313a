/- The examples; a nil table; what is asked of keys and entries. -/
import Derived.Test.YtgfjclcnolnioabP11
namespace Go.Proofs.Ytgfjclcnolnioab
open Go.RowKit Go.Maps

section
variable {w w' : World} {ao : Option Addr} {cap : Nat} {l L : List En} {B b : Nat}
theorem TM.cell (h : TM w b L) {ad : Addr} {v : Value} (hc : w.cell? ad = some v) : ad.block ≠ b := fun e => by
  obtain ⟨Y, c, h⟩ := h
  have := h.at_
  rw [← e] at this
  simp [World.cell?, this] at hc
theorem RE.mapw (h : RE w ao cap l) (HT : TM w b L) (G : GroS [b] w w') : RE w' ao cap l := h.gros G fun ad ha h0 => by
  have := h.xc.cell ad ha 0 (flE l)[0] (List.getElem?_eq_getElem h0)
  have h1 := HT.cell this
  rw [add_block] at h1
  simpa using h1
theorem RQ.gros {S : List Nat} {l : List Oq} (h : RQ w ao cap l) (G : GroS S w w') (hs : ∀ ad, ao = some ad → 0 < (flO l).length → ad.block ∉ S) : RQ w' ao cap l :=
  ⟨⟨h.xc.len, h.xc.fit, h.xc.bare, fun ad ha j v hv => by
    have h0 : 0 < (flO l).length := by have := (List.getElem?_eq_some_iff.1 hv).1; omega
    exact (World.cell?_of_block (by rw [add_block]; exact G.old _ (h.lt ad ha h0) (hs ad ha h0))).trans (h.xc.cell ad ha j v hv), h.xc.one⟩, h.all⟩
theorem RQ.mapw {l : List Oq} (h : RQ w ao cap l) (HT : TM w b L) (G : GroS [b] w w') : RQ w' ao cap l := h.gros G fun ad ha h0 => by
  have := h.xc.cell ad ha 0 (flO l)[0] (List.getElem?_eq_getElem h0)
  have h1 := HT.cell this
  rw [add_block] at h1
  simpa using h1
theorem OE.mapw (h : OE w B ao cap l) (HT : TM w b L) (G : GroS [b] w w') : OE w' B ao cap l := h.gros G fun k hk hm => by
  obtain ⟨_, cur, hc⟩ := h.own.at k hk
  exact HT.nec hc (by simpa using hm)
end
theorem othI_ok {x : En} (hx : x.ok) : othI x < top := by
  unfold othI
  split
  · exact hx.b
  · exact hx.a
/-- The chapter's example. -/
def x1 : En := ⟨⟨0, 1⟩, 0, 1329227995784915872903807060280344576, -1, 2⟩
def y1 : En := ⟨⟨0, 2⟩, 0, 1329227995784915872903807060280344576, -1, 2⟩
theorem x1_ok : x1.ok := ⟨⟨top_0, by decide, by decide⟩, top_0, by decide, ⟨by decide, by decide⟩, ⟨by decide, by decide⟩⟩
theorem y1_ok : y1.ok := ⟨⟨top_0, by decide, by decide⟩, top_0, by decide, ⟨by decide, by decide⟩, ⟨by decide, by decide⟩⟩
theorem ris1 : Ris [x1] := by simp [Ris]
theorem splice16 : splice (enA x1) 16 #[.int .i64 2] = enA y1 := by kernel_rfl
theorem si2 : (Try.prog.info? 2).map (·.size) = some 1 := by kernel_rfl
set_option maxRecDepth 100000 in
set_option maxHeartbeats 4000000 in
theorem fixed_any (w : World) : Calls Try.prog 5 #[] w (fun e w' => e = .returned (.bool true) ∧ Gro w w') := by
  refine s_enter Try.func5 rfl Try.ntmps5 [] [undef, undef, undef, undef, undef, undef, undef, undef, undef, undef, undef, undef, undef, undef, undef, undef, undef, undef, undef, undef, undef, undef, undef, undef, undef, undef, undef, undef, undef, undef, undef, undef, undef, undef, undef, undef, undef, undef, undef, undef, undef, undef, undef, undef, undef, undef, undef, undef, undef] rfl ?_
  have GG := Gro.refl w
  refine wp_seq ?_
  refine wp_region_lit ?_
  refine s_val 0 rfl rfl (.bool false) (rfl) ?_
  refine nr ?_; intro U h; simp only [z0] at h; subst h
  refine wpList_nil ?_
  refine then_n ?_
  refine wp_seq ?_
  refine wp_region_lit ?_
  refine s_callx 4 rfl rfl _ 4 Try.call4 rfl rfl _ rfl [.int .i64 1] rfl (new_any 1 _) (by rintro _ _ ⟨_, _, he, _⟩; exact ⟨_, he⟩) ?_
  rintro v w1 ⟨t, b, he, G, kt, HTt, h1t, h2t⟩
  cases he
  have bt := Nat.le_trans GG.size h1t
  have bb := Nat.le_trans GG.size h2t
  clear h1t h2t
  replace GG := GG.trans G
  clear G
  refine nr ?_; intro U h; simp only [z0, z1] at h; subst h
  refine s_val 1 rfl rfl (.pointer (some ⟨t, 0, none⟩)) (rfl) ?_
  refine nr ?_; intro U h; simp only [z0, z1] at h; subst h
  refine wpList_nil ?_
  refine then_n ?_
  refine wp_seq ?_
  refine wp_region_lit ?_
  refine s_val 5 rfl rfl (.agg (paA (⟨0, 1⟩))) (run_bd 26 _ rfl [(1, .int .i64 1)] rfl _ (by kernel_rfl)) ?_
  refine nr ?_; intro U h; simp only [z0, z1] at h; subst h
  refine s_val 6 rfl rfl (.agg (idA 1329227995784915872903807060280344576)) (run_bd 24 _ rfl [(0, .int .u8 1)] rfl _ (by kernel_rfl)) ?_
  refine nr ?_; intro U h; simp only [z0, z1] at h; subst h
  refine s_val 7 rfl rfl (.agg (enA x1)) (run_bd 28 _ rfl [(0, .agg (paA ⟨0, 1⟩)), (2, .agg (idA 1329227995784915872903807060280344576)), (3, .int .i64 (-1)), (4, .int .i64 2)] rfl _ (by kernel_rfl)) ?_
  refine nr ?_; intro U h; simp only [z0, z1] at h; subst h
  refine s_alloc 2 rfl rfl 28 rfl _ zero33 (enA zE) rfl ?_
  intro w2 g1 G eg1 kg1
  have bg1 := size_base GG eg1
  have dtg1 := lt_new kt eg1
  have dHTtg1 := HTt.ne eg1
  replace kt := G.has kt
  replace HTt := HTt.gro G
  replace GG := GG.trans G
  clear G
  clear eg1
  refine nr ?_; intro U h; simp only [z0, z1] at h; subst h
  refine s_store rfl rfl 28 _ _ rfl g1 0 rfl (.agg (enA x1)) rfl 28 _ kg1 (enA x1) rfl (si33' _) (enA_fit _ _) (enA_one _) (enA x1) (splice_whole _ _ (enA_sz _ _)) ?_
  intro w3 St
  have kS := kg1
  replace kt := St.has (by omega) kt
  replace HTt := HTt.st St dHTtg1
  replace GG := GG.store St bg1
  replace kg1 := St.new
  clear St
  refine wpList_nil ?_
  refine then_n ?_
  refine wp_seq ?_
  refine wp_region_lit ?_
  refine s_val 8 rfl rfl (.agg (enA x1)) (ldE0 _ rfl g1 rfl (kg1)) ?_
  refine nr ?_; intro U h; simp only [z0, z1] at h; subst h
  refine s_alloc 3 rfl rfl 28 rfl _ zero33 (enA zE) rfl ?_
  intro w4 g2 G eg2 kg2
  have bg2 := size_base GG eg2
  have dtg2 := lt_new kt eg2
  have dg1g2 := lt_new kg1 eg2
  have dHTtg2 := HTt.ne eg2
  replace kt := G.has kt
  replace kg1 := G.has kg1
  replace HTt := HTt.gro G
  replace GG := GG.trans G
  clear G
  clear eg2
  refine nr ?_; intro U h; simp only [z0, z1] at h; subst h
  refine s_store rfl rfl 28 _ _ rfl g2 0 rfl (.agg (enA x1)) rfl 28 _ kg2 (enA x1) rfl (si33' _) (enA_fit _ _) (enA_one _) (enA x1) (splice_whole _ _ (enA_sz _ _)) ?_
  intro w5 St
  have kS := kg2
  replace kt := St.has (by omega) kt
  replace kg1 := St.has (by omega) kg1
  replace HTt := HTt.st St dHTtg2
  replace GG := GG.store St bg2
  replace kg2 := St.new
  clear St
  refine wpList_nil ?_
  refine then_n ?_
  refine wp_seq ?_
  refine wp_region_lit ?_
  refine s_val 9 rfl rfl (.pointer (some ⟨g2, 0, none⟩)) (run_fld 28 _ 0 rfl g2 0 rfl 0 (by kernel_rfl)) ?_
  refine nr ?_; intro U h; simp only [z0, z1] at h; subst h
  refine s_val 10 rfl rfl (.pointer (some ⟨g2, 16, none⟩)) (run_fld 26 _ 1 rfl g2 0 rfl 16 (by kernel_rfl)) ?_
  refine nr ?_; intro U h; simp only [z0, z1] at h; subst h
  refine s_store rfl rfl 2 _ _ rfl g2 16 rfl (.int .i64 2) rfl 28 _ kg2 #[.int .i64 2] rfl si2 (by rw [enA_size]; decide) (i_one _) (enA y1) splice16 ?_
  intro w6 St
  have kS := kg2
  replace kt := St.has (by omega) kt
  replace kg1 := St.has (by omega) kg1
  replace HTt := HTt.st St dHTtg2
  replace GG := GG.store St bg2
  replace kg2 := St.new
  clear St
  refine wpList_nil ?_
  refine then_n ?_
  refine wp_seq ?_
  refine wp_region_opq ?_
  intro OPS hY
  have y2 := hY 2 13 rfl
  have y8 := hY 8 19 rfl
  have y14 := hY 14 25 rfl
  have y20 := hY 20 31 rfl
  have y26 := hY 26 37 rfl
  have y32 := hY 32 43 rfl
  clear hY
  refine s_val 11 rfl rfl (.pointer (some ⟨t, 0, none⟩)) (rfl) ?_
  refine nr ?_; intro U h; simp only [z0, z1] at h; subst h
  refine s_val 12 rfl rfl (.bool true) (run_nenp 29 _ _ _ rfl _ rfl rfl Try.underlying29 _) ?_
  refine nr ?_; intro U h; simp only [z0, z1] at h; subst h
  refine s_val 13 rfl rfl (.bool true) (rfl) ?_
  refine nr ?_; intro U h; simp only [z0, z1] at h; subst h
  refine s_gvalY 14 rfl rfl y2 rfl (.pointer (some ⟨t, 0, none⟩)) (rfl) ?_
  refine nr ?_; intro U h; simp only [z0, z1] at h; subst h
  refine s_gvalY 15 rfl rfl y2 rfl (.agg (enA x1)) (ldE0 _ rfl g1 rfl (kg1)) ?_
  refine nr ?_; intro U h; simp only [z0, z1] at h; subst h
  refine s_gcallxY 16 rfl rfl y2 rfl _ 6 Try.call6 rfl rfl _ rfl [.pointer (some ⟨t, 0, none⟩), .agg (enA x1)] rfl (add_any _ t b 1 [] kt HTt x1 x1_ok) (by rintro _ _ ⟨he, _⟩; exact ⟨_, he⟩) ?_
  rintro v w7 ⟨he, HT2, G2⟩
  cases he
  replace kt := G2.has kt (by simpa using HTt.nec kt)
  replace kg1 := G2.has kg1 (by simpa using HTt.nec kg1)
  replace kg2 := G2.has kg2 (by simpa using HTt.nec kg2)
  replace GG := G2.gro GG (by simpa using bb)
  clear HTt G2
  have HTt := HT2
  clear HT2
  refine nr ?_; intro U h; simp only [z0, z1] at h; subst h
  refine s_gvalY 17 rfl rfl y2 rfl (.bool true) (run_eq_k 32 .i64 _ _ _ rfl Try.underlying32 0 0 rfl rfl true (decide_eq_true rfl) _) ?_
  refine nr ?_; intro U h; simp only [z0, z1] at h; subst h
  refine s_val 18 rfl rfl (.bool true) (rfl) ?_
  refine nr ?_; intro U h; simp only [z0, z1] at h; subst h
  refine s_val 19 rfl rfl (.bool true) (rfl) ?_
  refine nr ?_; intro U h; simp only [z0, z1] at h; subst h
  refine s_gvalY 20 rfl rfl y8 rfl (.pointer (some ⟨t, 0, none⟩)) (rfl) ?_
  refine nr ?_; intro U h; simp only [z0, z1] at h; subst h
  refine s_gvalY 21 rfl rfl y8 rfl (.agg (enA x1)) (ldE0 _ rfl g1 rfl (kg1)) ?_
  refine nr ?_; intro U h; simp only [z0, z1] at h; subst h
  refine s_gcallxY 22 rfl rfl y8 rfl _ 6 Try.call6 rfl rfl _ rfl [.pointer (some ⟨t, 0, none⟩), .agg (enA x1)] rfl (add_any _ t b 1 [x1] kt HTt x1 x1_ok) (by rintro _ _ ⟨he, _⟩; exact ⟨_, he⟩) ?_
  rintro v w8 ⟨he, HT2, G2⟩
  cases he
  replace kt := G2.has kt (by simpa using HTt.nec kt)
  replace kg1 := G2.has kg1 (by simpa using HTt.nec kg1)
  replace kg2 := G2.has kg2 (by simpa using HTt.nec kg2)
  replace GG := G2.gro GG (by simpa using bb)
  clear HTt G2
  have HTt := HT2
  clear HT2
  refine nr ?_; intro U h; simp only [z0, z1] at h; subst h
  refine s_gvalY 23 rfl rfl y8 rfl (.bool true) (run_eq_k 32 .i64 _ _ _ rfl Try.underlying32 7 7 rfl rfl true (decide_eq_true rfl) _) ?_
  refine nr ?_; intro U h; simp only [z0, z1] at h; subst h
  refine s_val 24 rfl rfl (.bool true) (rfl) ?_
  refine nr ?_; intro U h; simp only [z0, z1] at h; subst h
  refine s_val 25 rfl rfl (.bool true) (rfl) ?_
  refine nr ?_; intro U h; simp only [z0, z1] at h; subst h
  refine s_gvalY 26 rfl rfl y14 rfl (.pointer (some ⟨t, 0, none⟩)) (rfl) ?_
  refine nr ?_; intro U h; simp only [z0, z1] at h; subst h
  refine s_gvalY 27 rfl rfl y14 rfl (.agg (enA y1)) (ldE0 _ rfl g2 rfl (kg2)) ?_
  refine nr ?_; intro U h; simp only [z0, z1] at h; subst h
  refine s_gcallxY 28 rfl rfl y14 rfl _ 6 Try.call6 rfl rfl _ rfl [.pointer (some ⟨t, 0, none⟩), .agg (enA y1)] rfl (add_any _ t b 1 [x1] kt HTt y1 y1_ok) (by rintro _ _ ⟨he, _⟩; exact ⟨_, he⟩) ?_
  rintro v w9 ⟨he, HT2, G2⟩
  cases he
  replace kt := G2.has kt (by simpa using HTt.nec kt)
  replace kg1 := G2.has kg1 (by simpa using HTt.nec kg1)
  replace kg2 := G2.has kg2 (by simpa using HTt.nec kg2)
  replace GG := G2.gro GG (by simpa using bb)
  clear HTt G2
  have HTt := HT2
  clear HT2
  refine nr ?_; intro U h; simp only [z0, z1] at h; subst h
  refine s_gvalY 29 rfl rfl y14 rfl (.bool true) (run_eq_k 32 .i64 _ _ _ rfl Try.underlying32 5 5 rfl rfl true (decide_eq_true rfl) _) ?_
  refine nr ?_; intro U h; simp only [z0, z1] at h; subst h
  refine s_val 30 rfl rfl (.bool true) (rfl) ?_
  refine nr ?_; intro U h; simp only [z0, z1] at h; subst h
  refine s_val 31 rfl rfl (.bool true) (rfl) ?_
  refine nr ?_; intro U h; simp only [z0, z1] at h; subst h
  refine s_gvalY 32 rfl rfl y20 rfl (.pointer (some ⟨t, 0, none⟩)) (rfl) ?_
  refine nr ?_; intro U h; simp only [z0, z1] at h; subst h
  refine s_gcallxY 33 rfl rfl y20 rfl _ 10 Try.call10 rfl rfl _ rfl [.pointer (some ⟨t, 0, none⟩), .int .i64 2] rfl (via_any _ t b 1 [x1] kt HTt 2 ris1 (by decide)) (by rintro _ _ ⟨_, _, he, _⟩; exact ⟨_, he⟩) ?_
  rintro v w10 ⟨ao5, cap5, he, G, HO5⟩
  cases he
  replace HO5 := HO5.mono GG.size
  replace kt := G.has kt
  replace kg1 := G.has kg1
  replace kg2 := G.has kg2
  replace HTt := HTt.gro G
  replace GG := GG.trans G
  clear G
  have HR5 := HO5.re
  refine nr ?_; intro U h; simp only [z0, z1] at h; subst h
  refine s_gvalY 34 rfl rfl y20 rfl (.int .i64 1) (Eq.trans (run_len Try.underlying22 _ rfl _ _ _ rfl _) (congrArg (fun n : Nat => Result.ok (Next.value (.int .i64 (n : Int))) _) (by decide))) ?_
  refine nr ?_; intro U h; simp only [z0, z1] at h; subst h
  refine s_gvalY 35 rfl rfl y20 rfl (.bool true) (run_eq_k 3 .i64 _ _ _ rfl Try.underlying3 1 1 rfl rfl true (decide_eq_true rfl) _) ?_
  refine nr ?_; intro U h; simp only [z0, z1] at h; subst h
  refine s_val 36 rfl rfl (.bool true) (rfl) ?_
  refine nr ?_; intro U h; simp only [z0, z1] at h; subst h
  refine s_val 37 rfl rfl (.bool true) (rfl) ?_
  refine nr ?_; intro U h; simp only [z0, z1] at h; subst h
  refine s_gvalY 38 rfl rfl y26 rfl (.pointer (some ⟨t, 0, none⟩)) (rfl) ?_
  refine nr ?_; intro U h; simp only [z0, z1] at h; subst h
  refine s_gcallxY 39 rfl rfl y26 rfl _ 10 Try.call10 rfl rfl _ rfl [.pointer (some ⟨t, 0, none⟩), .int .i64 (-1)] rfl (via_any _ t b 1 [x1] kt HTt (-1) ris1 (by decide)) (by rintro _ _ ⟨_, _, he, _⟩; exact ⟨_, he⟩) ?_
  rintro v w11 ⟨ao6, cap6, he, G, HO6⟩
  cases he
  replace HO6 := HO6.mono GG.size
  replace kt := G.has kt
  replace kg1 := G.has kg1
  replace kg2 := G.has kg2
  replace HTt := HTt.gro G
  replace HR5 := HR5.gro G
  replace HO5 := HO5.gro G
  replace GG := GG.trans G
  clear G
  have HR6 := HO6.re
  refine nr ?_; intro U h; simp only [z0, z1] at h; subst h
  refine s_gvalY 40 rfl rfl y26 rfl (.int .i64 0) (Eq.trans (run_len Try.underlying22 _ rfl _ _ _ rfl _) (congrArg (fun n : Nat => Result.ok (Next.value (.int .i64 (n : Int))) _) (by decide))) ?_
  refine nr ?_; intro U h; simp only [z0, z1] at h; subst h
  refine s_gvalY 41 rfl rfl y26 rfl (.bool true) (run_eq_k 3 .i64 _ _ _ rfl Try.underlying3 0 0 rfl rfl true (decide_eq_true rfl) _) ?_
  refine nr ?_; intro U h; simp only [z0, z1] at h; subst h
  refine s_val 42 rfl rfl (.bool true) (rfl) ?_
  refine nr ?_; intro U h; simp only [z0, z1] at h; subst h
  refine s_val 43 rfl rfl (.bool true) (rfl) ?_
  refine nr ?_; intro U h; simp only [z0, z1] at h; subst h
  refine s_gvalY 44 rfl rfl y32 rfl (.pointer (some ⟨t, 0, none⟩)) (rfl) ?_
  refine nr ?_; intro U h; simp only [z0, z1] at h; subst h
  refine s_gcallxY 45 rfl rfl y32 rfl _ 11 Try.call11 rfl rfl _ rfl [.pointer (some ⟨t, 0, none⟩)] rfl (own_any _ t b 1 [x1] kt HTt ris1 (by decide)) (by rintro _ _ ⟨_, _, he, _⟩; exact ⟨_, he⟩) ?_
  rintro v w12 ⟨ao7, cap7, he, G, HO7⟩
  cases he
  replace HO7 := HO7.mono GG.size
  replace kt := G.has kt
  replace kg1 := G.has kg1
  replace kg2 := G.has kg2
  replace HTt := HTt.gro G
  replace HR5 := HR5.gro G
  replace HO5 := HO5.gro G
  replace HR6 := HR6.gro G
  replace HO6 := HO6.gro G
  replace GG := GG.trans G
  clear G
  have HR7 := HO7.re
  refine nr ?_; intro U h; simp only [z0, z1] at h; subst h
  refine s_gvalY 46 rfl rfl y32 rfl (.int .i64 1) (Eq.trans (run_len Try.underlying22 _ rfl _ _ _ rfl _) (congrArg (fun n : Nat => Result.ok (Next.value (.int .i64 (n : Int))) _) (by decide))) ?_
  refine nr ?_; intro U h; simp only [z0, z1] at h; subst h
  refine s_gvalY 47 rfl rfl y32 rfl (.bool true) (run_eq_k 3 .i64 _ _ _ rfl Try.underlying3 1 1 rfl rfl true (decide_eq_true rfl) _) ?_
  refine nr ?_; intro U h; simp only [z0, z1] at h; subst h
  refine s_val 48 rfl rfl (.bool true) (rfl) ?_
  refine nr ?_; intro U h; simp only [z0, z1] at h; subst h
  refine s_val 0 rfl rfl (.bool true) (rfl) ?_
  refine nr ?_; intro U h; simp only [z0] at h; subst h
  refine wpList_nil ?_
  refine then_n ?_
  refine wp_ret ?_
  refine bodyPost_ret (results_tmp Try.results5 _ _ _) rfl ?_
  exact ⟨rfl, GG⟩
end Go.Proofs.Ytgfjclcnolnioab
