/- The examples; a nil table; what is asked of keys and entries. -/
import Derived.Test.YtgfjclcnolnioaaP11
namespace Go.Proofs.Ytgfjclcnolnioaa
open Go.RowKit Go.Maps

section
variable {w w' : World} {ao : Option Addr} {cap : Nat} {l L : List En} {B b : Nat}
theorem TM.cell (h : TM w b L) {ad : Addr} {v : Value} (hc : w.cell? ad = some v) : ad.block ≠ b := fun e => by
  obtain ⟨Y, c, h⟩ := h
  have := h.at_
  rw [← e] at this
  simp [World.cell?, this] at hc
theorem RE.mapw (h : RE w ao cap l) (HT : TM w b L) (G : GroS [b] w w') : RE w' ao cap l := h.gros G fun ad ha h0 => by
  have := h.xc.cell ad ha 0 (flE l)[0] (List.getElem?_eq_getElem h0)
  have h1 := HT.cell this
  rw [add_block] at h1
  simpa using h1
theorem RQ.gros {S : List Nat} {l : List Oq} (h : RQ w ao cap l) (G : GroS S w w') (hs : ∀ ad, ao = some ad → 0 < (flO l).length → ad.block ∉ S) : RQ w' ao cap l :=
  ⟨⟨h.xc.len, h.xc.fit, h.xc.bare, fun ad ha j v hv => by
    have h0 : 0 < (flO l).length := by have := (List.getElem?_eq_some_iff.1 hv).1; omega
    exact (World.cell?_of_block (by rw [add_block]; exact G.old _ (h.lt ad ha h0) (hs ad ha h0))).trans (h.xc.cell ad ha j v hv), h.xc.one⟩, h.all⟩
theorem RQ.mapw {l : List Oq} (h : RQ w ao cap l) (HT : TM w b L) (G : GroS [b] w w') : RQ w' ao cap l := h.gros G fun ad ha h0 => by
  have := h.xc.cell ad ha 0 (flO l)[0] (List.getElem?_eq_getElem h0)
  have h1 := HT.cell this
  rw [add_block] at h1
  simpa using h1
theorem OE.mapw (h : OE w B ao cap l) (HT : TM w b L) (G : GroS [b] w w') : OE w' B ao cap l := h.gros G fun k hk hm => by
  obtain ⟨_, cur, hc⟩ := h.own.at k hk
  exact HT.nec hc (by simpa using hm)
end
theorem othI_ok {x : En} (hx : x.ok) : othI x < top := by
  unfold othI
  split
  · exact hx.b
  · exact hx.a
/-- The chapter's example. -/
def x1 : En := ⟨⟨0, 1⟩, 0, 1329227995784915872903807060280344576, -1, 2⟩
def y1 : En := ⟨⟨0, 2⟩, 0, 1329227995784915872903807060280344576, -1, 2⟩
theorem x1_ok : x1.ok := ⟨⟨top_0, by decide, by decide⟩, top_0, by decide, ⟨by decide, by decide⟩, ⟨by decide, by decide⟩⟩
theorem y1_ok : y1.ok := ⟨⟨top_0, by decide, by decide⟩, top_0, by decide, ⟨by decide, by decide⟩, ⟨by decide, by decide⟩⟩
theorem ris1 : Ris [x1] := by simp [Ris]
theorem splice16 : splice (enA x1) 16 #[.int .i64 2] = enA y1 := by kernel_rfl
theorem si2 : (Try.prog.info? 2).map (·.size) = some 1 := by kernel_rfl
set_option maxRecDepth 100000 in
set_option maxHeartbeats 4000000 in
theorem fixed_any (w : World) : Calls Try.prog 11 #[] w (fun e w' => e = .returned (.bool true) ∧ Gro w w') := by
  refine s_enter Try.func11 rfl Try.ntmps11 [] [undef, undef, undef, undef, undef, undef, undef, undef, undef, undef, undef, undef, undef, undef, undef, undef, undef, undef, undef, undef, undef, undef, undef, undef, undef, undef, undef, undef, undef, undef, undef, undef, undef, undef, undef, undef, undef, undef, undef, undef, undef, undef, undef, undef, undef, undef, undef, undef, undef] rfl ?_
  have GG := Gro.refl w
  refine wp_seq ?_
  refine wp_region_lit ?_
  refine s_val 0 rfl rfl (.bool false) (rfl) ?_
  refine nr ?_; intro U h; simp only [z0] at h; subst h
  refine wpList_nil ?_
  refine then_n ?_
  refine wp_seq ?_
  refine wp_region_lit ?_
  refine s_callx 4 rfl rfl _ 9 Try.call9 rfl rfl _ rfl [.int .i64 1] rfl (new_any 1 _) (by rintro _ _ ⟨_, _, he, _⟩; exact ⟨_, he⟩) ?_
  rintro v w1 ⟨t, b, he, G, kt, HTt, h1t, h2t⟩
  cases he
  have bt := Nat.le_trans GG.size h1t
  have bb := Nat.le_trans GG.size h2t
  clear h1t h2t
  replace GG := GG.trans G
  clear G
  refine nr ?_; intro U h; simp only [z0, z1] at h; subst h
  refine s_val 1 rfl rfl (.pointer (some ⟨t, 0, none⟩)) (rfl) ?_
  refine nr ?_; intro U h; simp only [z0, z1] at h; subst h
  refine wpList_nil ?_
  refine then_n ?_
  refine wp_seq ?_
  refine wp_region_lit ?_
  refine s_val 5 rfl rfl (.agg (paA (⟨0, 1⟩))) (run_bd 31 _ rfl [(1, .int .i64 1)] rfl _ (by kernel_rfl)) ?_
  refine nr ?_; intro U h; simp only [z0, z1] at h; subst h
  refine s_val 6 rfl rfl (.agg (idA 1329227995784915872903807060280344576)) (run_bd 29 _ rfl [(0, .int .u8 1)] rfl _ (by kernel_rfl)) ?_
  refine nr ?_; intro U h; simp only [z0, z1] at h; subst h
  refine s_val 7 rfl rfl (.agg (enA x1)) (run_bd 33 _ rfl [(0, .agg (paA ⟨0, 1⟩)), (2, .agg (idA 1329227995784915872903807060280344576)), (3, .int .i64 (-1)), (4, .int .i64 2)] rfl _ (by kernel_rfl)) ?_
  refine nr ?_; intro U h; simp only [z0, z1] at h; subst h
  refine s_alloc 2 rfl rfl 33 rfl _ zero33 (enA zE) rfl ?_
  intro w2 g1 G eg1 kg1
  have bg1 := size_base GG eg1
  have dtg1 := lt_new kt eg1
  have dHTtg1 := HTt.ne eg1
  replace kt := G.has kt
  replace HTt := HTt.gro G
  replace GG := GG.trans G
  clear G
  clear eg1
  refine nr ?_; intro U h; simp only [z0, z1] at h; subst h
  refine s_store rfl rfl 33 _ _ rfl g1 0 rfl (.agg (enA x1)) rfl 33 _ kg1 (enA x1) rfl (si33' _) (enA_fit _ _) (enA_one _) (enA x1) (splice_whole _ _ (enA_sz _ _)) ?_
  intro w3 St
  have kS := kg1
  replace kt := St.has (by omega) kt
  replace HTt := HTt.st St dHTtg1
  replace GG := GG.store St bg1
  replace kg1 := St.new
  clear St
  refine wpList_nil ?_
  refine then_n ?_
  refine wp_seq ?_
  refine wp_region_lit ?_
  refine s_val 8 rfl rfl (.agg (enA x1)) (ldE0 _ rfl g1 rfl (kg1)) ?_
  refine nr ?_; intro U h; simp only [z0, z1] at h; subst h
  refine s_alloc 3 rfl rfl 33 rfl _ zero33 (enA zE) rfl ?_
  intro w4 g2 G eg2 kg2
  have bg2 := size_base GG eg2
  have dtg2 := lt_new kt eg2
  have dg1g2 := lt_new kg1 eg2
  have dHTtg2 := HTt.ne eg2
  replace kt := G.has kt
  replace kg1 := G.has kg1
  replace HTt := HTt.gro G
  replace GG := GG.trans G
  clear G
  clear eg2
  refine nr ?_; intro U h; simp only [z0, z1] at h; subst h
  refine s_store rfl rfl 33 _ _ rfl g2 0 rfl (.agg (enA x1)) rfl 33 _ kg2 (enA x1) rfl (si33' _) (enA_fit _ _) (enA_one _) (enA x1) (splice_whole _ _ (enA_sz _ _)) ?_
  intro w5 St
  have kS := kg2
  replace kt := St.has (by omega) kt
  replace kg1 := St.has (by omega) kg1
  replace HTt := HTt.st St dHTtg2
  replace GG := GG.store St bg2
  replace kg2 := St.new
  clear St
  refine wpList_nil ?_
  refine then_n ?_
  refine wp_seq ?_
  refine wp_region_lit ?_
  refine s_val 9 rfl rfl (.pointer (some ⟨g2, 0, none⟩)) (run_fld 33 _ 0 rfl g2 0 rfl 0 (by kernel_rfl)) ?_
  refine nr ?_; intro U h; simp only [z0, z1] at h; subst h
  refine s_val 10 rfl rfl (.pointer (some ⟨g2, 16, none⟩)) (run_fld 31 _ 1 rfl g2 0 rfl 16 (by kernel_rfl)) ?_
  refine nr ?_; intro U h; simp only [z0, z1] at h; subst h
  refine s_store rfl rfl 2 _ _ rfl g2 16 rfl (.int .i64 2) rfl 33 _ kg2 #[.int .i64 2] rfl si2 (by rw [enA_size]; decide) (i_one _) (enA y1) splice16 ?_
  intro w6 St
  have kS := kg2
  replace kt := St.has (by omega) kt
  replace kg1 := St.has (by omega) kg1
  replace HTt := HTt.st St dHTtg2
  replace GG := GG.store St bg2
  replace kg2 := St.new
  clear St
  refine wpList_nil ?_
  refine then_n ?_
  refine wp_seq ?_
  refine wp_region_opq ?_
  intro OPS hY
  have y2 := hY 2 13 rfl
  have y8 := hY 8 19 rfl
  have y14 := hY 14 25 rfl
  have y20 := hY 20 31 rfl
  have y26 := hY 26 37 rfl
  have y32 := hY 32 43 rfl
  clear hY
  refine s_val 11 rfl rfl (.pointer (some ⟨t, 0, none⟩)) (rfl) ?_
  refine nr ?_; intro U h; simp only [z0, z1] at h; subst h
  refine s_val 12 rfl rfl (.bool true) (run_nenp 23 _ _ _ rfl _ rfl rfl Try.underlying23 _) ?_
  refine nr ?_; intro U h; simp only [z0, z1] at h; subst h
  refine s_val 13 rfl rfl (.bool true) (rfl) ?_
  refine nr ?_; intro U h; simp only [z0, z1] at h; subst h
  refine s_gvalY 14 rfl rfl y2 rfl (.pointer (some ⟨t, 0, none⟩)) (rfl) ?_
  refine nr ?_; intro U h; simp only [z0, z1] at h; subst h
  refine s_gvalY 15 rfl rfl y2 rfl (.agg (enA x1)) (ldE0 _ rfl g1 rfl (kg1)) ?_
  refine nr ?_; intro U h; simp only [z0, z1] at h; subst h
  refine s_gcallxY 16 rfl rfl y2 rfl _ 12 Try.call12 rfl rfl _ rfl [.pointer (some ⟨t, 0, none⟩), .agg (enA x1)] rfl (add_any _ t b 1 [] kt HTt x1 x1_ok) (by rintro _ _ ⟨he, _⟩; exact ⟨_, he⟩) ?_
  rintro v w7 ⟨he, HT2, G2⟩
  cases he
  replace kt := G2.has kt (by simpa using HTt.nec kt)
  replace kg1 := G2.has kg1 (by simpa using HTt.nec kg1)
  replace kg2 := G2.has kg2 (by simpa using HTt.nec kg2)
  replace GG := G2.gro GG (by simpa using bb)
  clear HTt G2
  have HTt := HT2
  clear HT2
  refine nr ?_; intro U h; simp only [z0, z1] at h; subst h
  refine s_gvalY 17 rfl rfl y2 rfl (.bool true) (run_eq_k 36 .i64 _ _ _ rfl Try.underlying36 0 0 rfl rfl true (decide_eq_true rfl) _) ?_
  refine nr ?_; intro U h; simp only [z0, z1] at h; subst h
  refine s_val 18 rfl rfl (.bool true) (rfl) ?_
  refine nr ?_; intro U h; simp only [z0, z1] at h; subst h
  refine s_val 19 rfl rfl (.bool true) (rfl) ?_
  refine nr ?_; intro U h; simp only [z0, z1] at h; subst h
  refine s_gvalY 20 rfl rfl y8 rfl (.pointer (some ⟨t, 0, none⟩)) (rfl) ?_
  refine nr ?_; intro U h; simp only [z0, z1] at h; subst h
  refine s_gvalY 21 rfl rfl y8 rfl (.agg (enA x1)) (ldE0 _ rfl g1 rfl (kg1)) ?_
  refine nr ?_; intro U h; simp only [z0, z1] at h; subst h
  refine s_gcallxY 22 rfl rfl y8 rfl _ 12 Try.call12 rfl rfl _ rfl [.pointer (some ⟨t, 0, none⟩), .agg (enA x1)] rfl (add_any _ t b 1 [x1] kt HTt x1 x1_ok) (by rintro _ _ ⟨he, _⟩; exact ⟨_, he⟩) ?_
  rintro v w8 ⟨he, HT2, G2⟩
  cases he
  replace kt := G2.has kt (by simpa using HTt.nec kt)
  replace kg1 := G2.has kg1 (by simpa using HTt.nec kg1)
  replace kg2 := G2.has kg2 (by simpa using HTt.nec kg2)
  replace GG := G2.gro GG (by simpa using bb)
  clear HTt G2
  have HTt := HT2
  clear HT2
  refine nr ?_; intro U h; simp only [z0, z1] at h; subst h
  refine s_gvalY 23 rfl rfl y8 rfl (.bool true) (run_eq_k 36 .i64 _ _ _ rfl Try.underlying36 7 7 rfl rfl true (decide_eq_true rfl) _) ?_
  refine nr ?_; intro U h; simp only [z0, z1] at h; subst h
  refine s_val 24 rfl rfl (.bool true) (rfl) ?_
  refine nr ?_; intro U h; simp only [z0, z1] at h; subst h
  refine s_val 25 rfl rfl (.bool true) (rfl) ?_
  refine nr ?_; intro U h; simp only [z0, z1] at h; subst h
  refine s_gvalY 26 rfl rfl y14 rfl (.pointer (some ⟨t, 0, none⟩)) (rfl) ?_
  refine nr ?_; intro U h; simp only [z0, z1] at h; subst h
  refine s_gvalY 27 rfl rfl y14 rfl (.agg (enA y1)) (ldE0 _ rfl g2 rfl (kg2)) ?_
  refine nr ?_; intro U h; simp only [z0, z1] at h; subst h
  refine s_gcallxY 28 rfl rfl y14 rfl _ 12 Try.call12 rfl rfl _ rfl [.pointer (some ⟨t, 0, none⟩), .agg (enA y1)] rfl (add_any _ t b 1 [x1] kt HTt y1 y1_ok) (by rintro _ _ ⟨he, _⟩; exact ⟨_, he⟩) ?_
  rintro v w9 ⟨he, HT2, G2⟩
  cases he
  replace kt := G2.has kt (by simpa using HTt.nec kt)
  replace kg1 := G2.has kg1 (by simpa using HTt.nec kg1)
  replace kg2 := G2.has kg2 (by simpa using HTt.nec kg2)
  replace GG := G2.gro GG (by simpa using bb)
  clear HTt G2
  have HTt := HT2
  clear HT2
  refine nr ?_; intro U h; simp only [z0, z1] at h; subst h
  refine s_gvalY 29 rfl rfl y14 rfl (.bool true) (run_eq_k 36 .i64 _ _ _ rfl Try.underlying36 5 5 rfl rfl true (decide_eq_true rfl) _) ?_
  refine nr ?_; intro U h; simp only [z0, z1] at h; subst h
  refine s_val 30 rfl rfl (.bool true) (rfl) ?_
  refine nr ?_; intro U h; simp only [z0, z1] at h; subst h
  refine s_val 31 rfl rfl (.bool true) (rfl) ?_
  refine nr ?_; intro U h; simp only [z0, z1] at h; subst h
  refine s_gvalY 32 rfl rfl y20 rfl (.pointer (some ⟨t, 0, none⟩)) (rfl) ?_
  refine nr ?_; intro U h; simp only [z0, z1] at h; subst h
  refine s_gcallxY 33 rfl rfl y20 rfl _ 19 Try.call19 rfl rfl _ rfl [.pointer (some ⟨t, 0, none⟩), .int .i64 2] rfl (via_any _ t b 1 [x1] kt HTt 2 ris1 (by decide)) (by rintro _ _ ⟨_, _, he, _⟩; exact ⟨_, he⟩) ?_
  rintro v w10 ⟨ao5, cap5, he, G, HO5⟩
  cases he
  replace HO5 := HO5.mono GG.size
  replace kt := G.has kt
  replace kg1 := G.has kg1
  replace kg2 := G.has kg2
  replace HTt := HTt.gro G
  replace GG := GG.trans G
  clear G
  have HR5 := HO5.re
  refine nr ?_; intro U h; simp only [z0, z1] at h; subst h
  refine s_gvalY 34 rfl rfl y20 rfl (.int .i64 1) (Eq.trans (run_len Try.underlying41 _ rfl _ _ _ rfl _) (congrArg (fun n : Nat => Result.ok (Next.value (.int .i64 (n : Int))) _) (by decide))) ?_
  refine nr ?_; intro U h; simp only [z0, z1] at h; subst h
  refine s_gvalY 35 rfl rfl y20 rfl (.bool true) (run_eq_k 3 .i64 _ _ _ rfl Try.underlying3 1 1 rfl rfl true (decide_eq_true rfl) _) ?_
  refine nr ?_; intro U h; simp only [z0, z1] at h; subst h
  refine s_val 36 rfl rfl (.bool true) (rfl) ?_
  refine nr ?_; intro U h; simp only [z0, z1] at h; subst h
  refine s_val 37 rfl rfl (.bool true) (rfl) ?_
  refine nr ?_; intro U h; simp only [z0, z1] at h; subst h
  refine s_gvalY 38 rfl rfl y26 rfl (.pointer (some ⟨t, 0, none⟩)) (rfl) ?_
  refine nr ?_; intro U h; simp only [z0, z1] at h; subst h
  refine s_gcallxY 39 rfl rfl y26 rfl _ 19 Try.call19 rfl rfl _ rfl [.pointer (some ⟨t, 0, none⟩), .int .i64 (-1)] rfl (via_any _ t b 1 [x1] kt HTt (-1) ris1 (by decide)) (by rintro _ _ ⟨_, _, he, _⟩; exact ⟨_, he⟩) ?_
  rintro v w11 ⟨ao6, cap6, he, G, HO6⟩
  cases he
  replace HO6 := HO6.mono GG.size
  replace kt := G.has kt
  replace kg1 := G.has kg1
  replace kg2 := G.has kg2
  replace HTt := HTt.gro G
  replace HR5 := HR5.gro G
  replace HO5 := HO5.gro G
  replace GG := GG.trans G
  clear G
  have HR6 := HO6.re
  refine nr ?_; intro U h; simp only [z0, z1] at h; subst h
  refine s_gvalY 40 rfl rfl y26 rfl (.int .i64 0) (Eq.trans (run_len Try.underlying41 _ rfl _ _ _ rfl _) (congrArg (fun n : Nat => Result.ok (Next.value (.int .i64 (n : Int))) _) (by decide))) ?_
  refine nr ?_; intro U h; simp only [z0, z1] at h; subst h
  refine s_gvalY 41 rfl rfl y26 rfl (.bool true) (run_eq_k 3 .i64 _ _ _ rfl Try.underlying3 0 0 rfl rfl true (decide_eq_true rfl) _) ?_
  refine nr ?_; intro U h; simp only [z0, z1] at h; subst h
  refine s_val 42 rfl rfl (.bool true) (rfl) ?_
  refine nr ?_; intro U h; simp only [z0, z1] at h; subst h
  refine s_val 43 rfl rfl (.bool true) (rfl) ?_
  refine nr ?_; intro U h; simp only [z0, z1] at h; subst h
  refine s_gvalY 44 rfl rfl y32 rfl (.pointer (some ⟨t, 0, none⟩)) (rfl) ?_
  refine nr ?_; intro U h; simp only [z0, z1] at h; subst h
  refine s_gcallxY 45 rfl rfl y32 rfl _ 23 Try.call23 rfl rfl _ rfl [.pointer (some ⟨t, 0, none⟩)] rfl (own_any _ t b 1 [x1] kt HTt ris1 (by decide)) (by rintro _ _ ⟨_, _, he, _⟩; exact ⟨_, he⟩) ?_
  rintro v w12 ⟨ao7, cap7, he, G, HO7⟩
  cases he
  replace HO7 := HO7.mono GG.size
  replace kt := G.has kt
  replace kg1 := G.has kg1
  replace kg2 := G.has kg2
  replace HTt := HTt.gro G
  replace HR5 := HR5.gro G
  replace HO5 := HO5.gro G
  replace HR6 := HR6.gro G
  replace HO6 := HO6.gro G
  replace GG := GG.trans G
  clear G
  have HR7 := HO7.re
  refine nr ?_; intro U h; simp only [z0, z1] at h; subst h
  refine s_gvalY 46 rfl rfl y32 rfl (.int .i64 1) (Eq.trans (run_len Try.underlying41 _ rfl _ _ _ rfl _) (congrArg (fun n : Nat => Result.ok (Next.value (.int .i64 (n : Int))) _) (by decide))) ?_
  refine nr ?_; intro U h; simp only [z0, z1] at h; subst h
  refine s_gvalY 47 rfl rfl y32 rfl (.bool true) (run_eq_k 3 .i64 _ _ _ rfl Try.underlying3 1 1 rfl rfl true (decide_eq_true rfl) _) ?_
  refine nr ?_; intro U h; simp only [z0, z1] at h; subst h
  refine s_val 48 rfl rfl (.bool true) (rfl) ?_
  refine nr ?_; intro U h; simp only [z0, z1] at h; subst h
  refine s_val 0 rfl rfl (.bool true) (rfl) ?_
  refine nr ?_; intro U h; simp only [z0] at h; subst h
  refine wpList_nil ?_
  refine then_n ?_
  refine wp_ret ?_
  refine bodyPost_ret (results_tmp Try.results11 _ _ _) rfl ?_
  exact ⟨rfl, GG⟩
set_option maxRecDepth 100000 in
set_option maxHeartbeats 4000000 in
theorem tableNil_any (x : En) (n : Int) (hx : x.ok) (w : World) : Calls Try.prog 8 #[.agg (enA x), .int .i64 n] w (fun e w' => e = .returned (.bool true) ∧ Gro w w') := by
  refine s_enter Try.func8 rfl Try.ntmps8 [.agg (enA x), .int .i64 n] [.agg (enA x), .int .i64 n, undef, undef, undef, undef, undef, undef, undef, undef, undef, undef, undef, undef, undef, undef, undef, undef, undef, undef, undef, undef, undef, undef, undef, undef, undef, undef, undef, undef, undef, undef, undef, undef, undef, undef, undef, undef, undef, undef, undef, undef, undef, undef, undef, undef, undef, undef, undef, undef, undef, undef, undef, undef, undef, undef, undef, undef, undef, undef, undef, undef, undef, undef, undef] rfl ?_
  have GG := Gro.refl w
  refine wp_seq ?_
  refine wp_region_lit ?_
  refine s_box 2 rfl rfl 33 _ rfl _ rfl (enA x) rfl ?_
  intro w1 g1 G eg1 kg1
  have bg1 := size_base GG eg1
  replace GG := GG.trans G
  clear G
  clear eg1
  refine nr ?_; intro U h; simp only [z0, z1] at h; subst h
  refine s_val 4 rfl rfl (.bool false) (rfl) ?_
  refine nr ?_; intro U h; simp only [z0, z1] at h; subst h
  refine wpList_nil ?_
  refine then_n ?_
  refine wp_seq ?_
  refine wp_region_lit ?_
  refine s_val 5 rfl rfl (.pointer none) (rfl) ?_
  refine nr ?_; intro U h; simp only [z0, z1] at h; subst h
  refine wpList_nil ?_
  refine then_n ?_
  refine wp_seq ?_
  refine wp_region_lit ?_
  refine s_val 11 rfl rfl (.pointer none) (rfl) ?_
  refine nr ?_; intro U h; simp only [z0, z1] at h; subst h
  refine s_val 12 rfl rfl (.pointer (some ⟨g1, 0, none⟩)) (run_fld 33 _ 0 rfl g1 0 rfl 0 (by kernel_rfl)) ?_
  refine nr ?_; intro U h; simp only [z0, z1] at h; subst h
  refine s_val 13 rfl rfl (.agg (paA x.p)) (ldEp _ rfl g1 rfl (kg1)) ?_
  refine nr ?_; intro U h; simp only [z0, z1] at h; subst h
  refine s_callv 14 rfl rfl _ 16 Try.call16 rfl rfl _ rfl [.pointer none, .agg (paA x.p)] rfl (get_nil _ x.p hx.p) ?_
  intro w2 G
  replace kg1 := G.has kg1
  replace GG := GG.trans G
  clear G
  refine nr ?_; intro U h; simp only [z0, z1] at h; subst h
  refine s_val 10 rfl rfl (.tuple #[.agg (enA zE), .bool false]) (rfl) ?_
  refine nr ?_; intro U h; simp only [z0, z1] at h; subst h
  refine s_val 15 rfl rfl (.agg (enA zE)) (rfl) ?_
  refine nr ?_; intro U h; simp only [z0, z1] at h; subst h
  refine s_val 16 rfl rfl (.bool false) (rfl) ?_
  refine nr ?_; intro U h; simp only [z0, z1] at h; subst h
  refine s_alloc 6 rfl rfl 33 rfl _ zero33 (enA zE) rfl ?_
  intro w3 g2 G eg2 kg2
  have bg2 := size_base GG eg2
  have dg1g2 := lt_new kg1 eg2
  replace kg1 := G.has kg1
  replace GG := GG.trans G
  clear G
  clear eg2
  refine nr ?_; intro U h; simp only [z0, z1] at h; subst h
  refine s_store rfl rfl 33 _ _ rfl g2 0 rfl (.agg (enA zE)) rfl 33 _ kg2 (enA zE) rfl (si33' _) (enA_fit _ _) (enA_one _) (enA zE) (splice_whole _ _ (enA_sz _ _)) ?_
  intro w4 St
  have kS := kg2
  replace kg1 := St.has (by omega) kg1
  replace GG := GG.store St bg2
  replace kg2 := St.new
  clear St
  refine s_val 7 rfl rfl (.bool false) (rfl) ?_
  refine nr ?_; intro U h; simp only [z0, z1] at h; subst h
  refine wpList_nil ?_
  refine then_n ?_
  refine wp_seq ?_
  refine wp_region_lit ?_
  refine s_val 18 rfl rfl (.pointer none) (rfl) ?_
  refine nr ?_; intro U h; simp only [z0, z1] at h; subst h
  refine s_val 19 rfl rfl (.pointer (some ⟨g1, 0, none⟩)) (run_fld 33 _ 0 rfl g1 0 rfl 0 (by kernel_rfl)) ?_
  refine nr ?_; intro U h; simp only [z0, z1] at h; subst h
  refine s_val 20 rfl rfl (.agg (paA x.p)) (ldEp _ rfl g1 rfl (kg1)) ?_
  refine nr ?_; intro U h; simp only [z0, z1] at h; subst h
  refine s_callv 21 rfl rfl _ 14 Try.call14 rfl rfl _ rfl [.pointer none, .agg (paA x.p)] rfl (rem_nil _ x.p hx.p) ?_
  intro w5 G
  replace kg1 := G.has kg1
  replace kg2 := G.has kg2
  replace GG := GG.trans G
  clear G
  refine nr ?_; intro U h; simp only [z0, z1] at h; subst h
  refine s_val 17 rfl rfl (.tuple #[.agg (enA zE), .bool false]) (rfl) ?_
  refine nr ?_; intro U h; simp only [z0, z1] at h; subst h
  refine s_val 22 rfl rfl (.agg (enA zE)) (rfl) ?_
  refine nr ?_; intro U h; simp only [z0, z1] at h; subst h
  refine s_val 23 rfl rfl (.bool false) (rfl) ?_
  refine nr ?_; intro U h; simp only [z0, z1] at h; subst h
  refine s_alloc 8 rfl rfl 33 rfl _ zero33 (enA zE) rfl ?_
  intro w6 g3 G eg3 kg3
  have bg3 := size_base GG eg3
  have dg1g3 := lt_new kg1 eg3
  have dg2g3 := lt_new kg2 eg3
  replace kg1 := G.has kg1
  replace kg2 := G.has kg2
  replace GG := GG.trans G
  clear G
  clear eg3
  refine nr ?_; intro U h; simp only [z0, z1] at h; subst h
  refine s_store rfl rfl 33 _ _ rfl g3 0 rfl (.agg (enA zE)) rfl 33 _ kg3 (enA zE) rfl (si33' _) (enA_fit _ _) (enA_one _) (enA zE) (splice_whole _ _ (enA_sz _ _)) ?_
  intro w7 St
  have kS := kg3
  replace kg1 := St.has (by omega) kg1
  replace kg2 := St.has (by omega) kg2
  replace GG := GG.store St bg3
  replace kg3 := St.new
  clear St
  refine s_val 9 rfl rfl (.bool false) (rfl) ?_
  refine nr ?_; intro U h; simp only [z0, z1] at h; subst h
  refine wpList_nil ?_
  refine then_n ?_
  refine wp_seq ?_
  refine wp_region_exA (A := ?Ax1) 40 [(0, 24), (1, 25), (2, 26), (3, 27), (4, 28), (5, 29), (6, 30), (7, 31), (8, 32), (9, 33), (10, 34), (11, 35), (12, 36), (13, 37), (14, 38), (15, 39), (16, 40), (17, 41), (18, 42), (19, 43), (20, 44), (21, 45), (22, 46), (23, 47), (24, 48), (25, 49), (26, 50), (27, 51), (28, 52), (29, 53), (30, 54), (31, 55), (32, 56), (33, 57), (34, 58), (35, 59), (36, 60), (37, 61), (38, 62), (39, 63)] [.val (.bool true), .val (.bool true), .val (.pointer none), .val (.agg (enA x)), .val (.int .i64 1), .val (.bool true), .val (.bool true), .val (.bool true), .val (.bool false), .val (.bool true), .val (.bool true), .val (.bool true), .val (.bool false), .val (.bool true), .val (.bool true), .val (.bool true), .val (.pointer none), .val (.int .i64 0), .val (.bool true), .val (.bool true), .val (.bool true), .val (.pointer none), .val (.slice none 0 0), .val (.int .i64 0), .val (.pointer none), .val (.int .i64 n), .val (.slice none 0 0), .val (.int .i64 0), .val (.int .i64 0), .val (.pointer none), .val (.pointer (some ⟨g1, 17, none⟩)), .val (.agg (idA x.a)), .val (.slice none 0 0), .val (.int .i64 0), .val (.int .i64 0), .val (.pointer none), .val (.slice none 0 0), .val (.int .i64 0), .val (.int .i64 0), .val (.bool true)] follows (by kernel_rfl) rfl ?hAx1 (opsA_cons ?o0x1 (opsA_cons ?o1x1 (opsA_cons ?o2x1 (opsA_cons ?o3x1 (opsA_cons ?o4x1 (opsA_cons ?o5x1 (opsA_cons ?o6x1 (opsA_cons ?o7x1 (opsA_cons ?o8x1 (opsA_cons ?o9x1 (opsA_cons ?o10x1 (opsA_cons ?o11x1 (opsA_cons ?o12x1 (opsA_cons ?o13x1 (opsA_cons ?o14x1 (opsA_cons ?o15x1 (opsA_cons ?o16x1 (opsA_cons ?o17x1 (opsA_cons ?o18x1 (opsA_cons ?o19x1 (opsA_cons ?o20x1 (opsA_cons ?o21x1 (opsA_cons ?o22x1 (opsA_cons ?o23x1 (opsA_cons ?o24x1 (opsA_cons ?o25x1 (opsA_cons ?o26x1 (opsA_cons ?o27x1 (opsA_cons ?o28x1 (opsA_cons ?o29x1 (opsA_cons ?o30x1 (opsA_cons ?o31x1 (opsA_cons ?o32x1 (opsA_cons ?o33x1 (opsA_cons ?o34x1 (opsA_cons ?o35x1 (opsA_cons ?o36x1 (opsA_cons ?o37x1 (opsA_cons ?o38x1 (opsA_cons ?o39x1 opsA_nil)))))))))))))))))))))))))))))))))))))))) ?restx1
  case hAx1 =>
    intro ptrs
    simp only [full, foldSlots, filledE, postE, List.foldl_cons, List.foldl_nil, List.getD_cons_zero, List.getD_cons_succ, fill_val, List.set_cons_zero, List.set_cons_succ]
    exact rfl
  case o0x1 =>
    intro ptrs w' hw hE
    exact opE_call (.val (.bool true)) rfl _ 11 Try.call11 rfl rfl _ rfl [] rfl ((fixed_any _).mono fun e w' ⟨he, hg⟩ => ⟨_, he, hg, rfl⟩)
  case o1x1 => exact fun _ _ _ _ => opE_move (v := .bool true) _ rfl rfl rfl
  case o2x1 => exact fun _ _ _ _ => opE_move (v := .pointer none) _ rfl rfl rfl
  case o3x1 => exact fun _ _ hw _ => opE_value (v := .agg (enA x)) rfl (ldE0 _ rfl g1 rfl (hw.has kg1))
  case o4x1 =>
    intro ptrs w' hw hE
    exact opE_call (.val (.int .i64 1)) rfl _ 12 Try.call12 rfl rfl _ rfl [.pointer none, .agg (enA x)] rfl ((add_nil _ x hx).mono fun e w' ⟨he, hg⟩ => ⟨_, he, hg, rfl⟩)
  case o5x1 => exact fun _ _ _ _ => opE_value (v := .bool true) rfl (run_eq_k 36 .i64 _ _ _ rfl Try.underlying36 1 1 rfl rfl true (decide_eq_true rfl) _)
  case o6x1 => exact fun _ _ _ _ => opE_pick (v := .bool true) _ _ _ rfl rfl true rfl rfl
  case o7x1 => exact fun _ _ _ _ => opE_move (v := .bool true) _ rfl rfl rfl
  case o8x1 => exact fun _ _ _ _ => opE_move (v := .bool false) _ rfl rfl rfl
  case o9x1 => exact fun _ _ _ _ => opE_value (v := .bool true) rfl (run_nt _ _ rfl false rfl)
  case o10x1 => exact fun _ _ _ _ => opE_pick (v := .bool true) _ _ _ rfl rfl true rfl rfl
  case o11x1 => exact fun _ _ _ _ => opE_move (v := .bool true) _ rfl rfl rfl
  case o12x1 => exact fun _ _ _ _ => opE_move (v := .bool false) _ rfl rfl rfl
  case o13x1 => exact fun _ _ _ _ => opE_value (v := .bool true) rfl (run_nt _ _ rfl false rfl)
  case o14x1 => exact fun _ _ _ _ => opE_pick (v := .bool true) _ _ _ rfl rfl true rfl rfl
  case o15x1 => exact fun _ _ _ _ => opE_move (v := .bool true) _ rfl rfl rfl
  case o16x1 => exact fun _ _ _ _ => opE_move (v := .pointer none) _ rfl rfl rfl
  case o17x1 =>
    intro ptrs w' hw hE
    exact opE_call (.val (.int .i64 0)) rfl _ 25 Try.call25 rfl rfl _ rfl [.pointer none] rfl ((len_nil _).mono fun e w' ⟨he, hg⟩ => ⟨_, he, hg, rfl⟩)
  case o18x1 => exact fun _ _ _ _ => opE_value (v := .bool true) rfl (run_eq_k 3 .i64 _ _ _ rfl Try.underlying3 0 0 rfl rfl true (decide_eq_true rfl) _)
  case o19x1 => exact fun _ _ _ _ => opE_pick (v := .bool true) _ _ _ rfl rfl true rfl rfl
  case o20x1 => exact fun _ _ _ _ => opE_move (v := .bool true) _ rfl rfl rfl
  case o21x1 => exact fun _ _ _ _ => opE_move (v := .pointer none) _ rfl rfl rfl
  case o22x1 =>
    intro ptrs w' hw hE
    exact opE_call (.val (.slice none 0 0)) rfl _ 26 Try.call26 rfl rfl _ rfl [.pointer none] rfl ((all_nil _).mono fun e w' ⟨he, hg⟩ => ⟨_, he, hg, rfl⟩)
  case o23x1 => exact fun _ _ _ _ => opE_value (v := .int .i64 0) rfl (run_len Try.underlying41 _ rfl _ _ _ rfl _)
  case o24x1 => exact fun _ _ _ _ => opE_move (v := .pointer none) _ rfl rfl rfl
  case o25x1 => exact fun _ _ _ _ => opE_move (v := .int .i64 n) _ rfl rfl rfl
  case o26x1 =>
    intro ptrs w' hw hE
    exact opE_call (.val (.slice none 0 0)) rfl _ 19 Try.call19 rfl rfl _ rfl [.pointer none, .int .i64 n] rfl ((via_nil _ n).mono fun e w' ⟨he, hg⟩ => ⟨_, he, hg, rfl⟩)
  case o27x1 => exact fun _ _ _ _ => opE_value (v := .int .i64 0) rfl (run_len Try.underlying41 _ rfl _ _ _ rfl _)
  case o28x1 => exact fun _ _ _ _ => opE_value (v := .int .i64 0) rfl (run_addI 3 _ _ _ rfl 0 0 0 rfl rfl (by omega) (by omega) (by omega) _)
  case o29x1 => exact fun _ _ _ _ => opE_move (v := .pointer none) _ rfl rfl rfl
  case o30x1 => exact fun _ _ _ _ => opE_value (v := .pointer (some ⟨g1, 17, none⟩)) rfl (run_fld 33 _ 1 rfl g1 0 rfl 17 (by kernel_rfl))
  case o31x1 => exact fun _ _ hw _ => opE_value (v := .agg (idA x.a)) rfl (ldEa _ rfl g1 rfl (hw.has kg1))
  case o32x1 =>
    intro ptrs w' hw hE
    exact opE_call (.val (.slice none 0 0)) rfl _ 21 Try.call21 rfl rfl _ rfl [.pointer none, .agg (idA x.a)] rfl ((to_nil _ x.a hx.a).mono fun e w' ⟨he, hg⟩ => ⟨_, he, hg, rfl⟩)
  case o33x1 => exact fun _ _ _ _ => opE_value (v := .int .i64 0) rfl (run_len Try.underlying41 _ rfl _ _ _ rfl _)
  case o34x1 => exact fun _ _ _ _ => opE_value (v := .int .i64 0) rfl (run_addI 3 _ _ _ rfl 0 0 0 rfl rfl (by omega) (by omega) (by omega) _)
  case o35x1 => exact fun _ _ _ _ => opE_move (v := .pointer none) _ rfl rfl rfl
  case o36x1 =>
    intro ptrs w' hw hE
    exact opE_call (.val (.slice none 0 0)) rfl _ 23 Try.call23 rfl rfl _ rfl [.pointer none] rfl ((own_nil _).mono fun e w' ⟨he, hg⟩ => ⟨_, he, hg, rfl⟩)
  case o37x1 => exact fun _ _ _ _ => opE_value (v := .int .i64 0) rfl (run_len Try.underlying41 _ rfl _ _ _ rfl _)
  case o38x1 => exact fun _ _ _ _ => opE_value (v := .int .i64 0) rfl (run_addI 3 _ _ _ rfl 0 0 0 rfl rfl (by omega) (by omega) (by omega) _)
  case o39x1 => exact fun _ _ _ _ => opE_value (v := .bool true) rfl (run_eq_k 3 .i64 _ _ _ rfl Try.underlying3 0 0 rfl rfl true (decide_eq_true rfl) _)
  intro ptrs w8 GD hxE
  simp only [List.drop_succ_cons, List.drop_zero]
  replace kg1 := GD.has kg1
  replace kg2 := GD.has kg2
  replace kg3 := GD.has kg3
  replace GG := GG.drew.trans GD
  clear GD
  refine s_val 64 rfl rfl (.bool true) (rfl) ?_
  refine nr ?_; intro U h; simp only [z0, z1] at h; subst h
  refine s_val 4 rfl rfl (.bool true) (rfl) ?_
  refine nr ?_; intro U h; simp only [z0, z1] at h; subst h
  refine wpList_nil ?_
  refine then_n ?_
  refine wp_ret ?_
  refine bodyPost_ret (results_tmp Try.results8 _ _ _) rfl ?_
  exact ⟨rfl, GG⟩
set_option maxRecDepth 100000 in
set_option maxHeartbeats 4000000 in
theorem tableAsks_any (p q : Pa) (x : En) (hp : p.ok) (hq : q.ok) (hx : x.ok) (w : World) : Calls Try.prog 4 #[.agg (paA p), .agg (paA q), .agg (enA x)] w (fun e w' => e = .returned (.bool true) ∧ Gro w w') := by
  refine s_enter Try.func4 rfl Try.ntmps4 [.agg (paA p), .agg (paA q), .agg (enA x)] [.agg (paA p), .agg (paA q), .agg (enA x), undef, undef, undef, undef, undef, undef, undef, undef, undef, undef, undef, undef, undef, undef, undef, undef, undef, undef, undef, undef, undef, undef, undef, undef, undef, undef, undef, undef, undef, undef, undef, undef, undef, undef, undef, undef, undef, undef, undef, undef, undef, undef, undef, undef, undef, undef, undef, undef, undef, undef, undef, undef, undef, undef] rfl ?_
  have GG := Gro.refl w
  refine wp_seq ?_
  refine wp_region_lit ?_
  refine s_box 3 rfl rfl 31 _ rfl _ rfl (paA p) rfl ?_
  intro w1 g1 G eg1 kg1
  have bg1 := size_base GG eg1
  replace GG := GG.trans G
  clear G
  clear eg1
  refine nr ?_; intro U h; simp only [z0, z1] at h; subst h
  refine s_box 4 rfl rfl 31 _ rfl _ rfl (paA q) rfl ?_
  intro w2 g2 G eg2 kg2
  have bg2 := size_base GG eg2
  have dg1g2 := lt_new kg1 eg2
  replace kg1 := G.has kg1
  replace GG := GG.trans G
  clear G
  clear eg2
  refine nr ?_; intro U h; simp only [z0, z1] at h; subst h
  refine s_box 5 rfl rfl 33 _ rfl _ rfl (enA x) rfl ?_
  intro w3 g3 G eg3 kg3
  have bg3 := size_base GG eg3
  have dg1g3 := lt_new kg1 eg3
  have dg2g3 := lt_new kg2 eg3
  replace kg1 := G.has kg1
  replace kg2 := G.has kg2
  replace GG := GG.trans G
  clear G
  clear eg3
  refine nr ?_; intro U h; simp only [z0, z1] at h; subst h
  refine s_val 6 rfl rfl (.bool false) (rfl) ?_
  refine nr ?_; intro U h; simp only [z0, z1] at h; subst h
  refine wpList_nil ?_
  refine then_n ?_
  refine wp_seq ?_
  refine wp_region_lit ?_
  refine s_val 14 rfl rfl (.agg (enA x)) (ldE0 _ rfl g3 rfl (kg3)) ?_
  refine nr ?_; intro U h; simp only [z0, z1] at h; subst h
  refine s_callv 15 rfl rfl _ 27 Try.call27 rfl rfl _ rfl [.agg (enA x)] rfl (other_any x hx _) ?_
  intro w4 G
  replace kg1 := G.has kg1
  replace kg2 := G.has kg2
  replace kg3 := G.has kg3
  replace GG := GG.trans G
  clear G
  refine nr ?_; intro U h; simp only [z0, z1] at h; subst h
  refine s_val 13 rfl rfl (.tuple #[.agg (idA (othI x)), .int .i64 (othN x), .bool (othB x)]) (rfl) ?_
  refine nr ?_; intro U h; simp only [z0, z1] at h; subst h
  refine s_val 16 rfl rfl (.agg (idA (othI x))) (rfl) ?_
  refine nr ?_; intro U h; simp only [z0, z1] at h; subst h
  refine s_val 17 rfl rfl (.int .i64 (othN x)) (rfl) ?_
  refine nr ?_; intro U h; simp only [z0, z1] at h; subst h
  refine s_val 18 rfl rfl (.bool (othB x)) (rfl) ?_
  refine nr ?_; intro U h; simp only [z0, z1] at h; subst h
  refine s_alloc 7 rfl rfl 29 rfl _ zero23 (idA 0) rfl ?_
  intro w5 g4 G eg4 kg4
  have bg4 := size_base GG eg4
  have dg1g4 := lt_new kg1 eg4
  have dg2g4 := lt_new kg2 eg4
  have dg3g4 := lt_new kg3 eg4
  replace kg1 := G.has kg1
  replace kg2 := G.has kg2
  replace kg3 := G.has kg3
  replace GG := GG.trans G
  clear G
  clear eg4
  refine nr ?_; intro U h; simp only [z0, z1] at h; subst h
  refine s_store rfl rfl 29 _ _ rfl g4 0 rfl (.agg (idA (othI x))) rfl 29 _ kg4 (idA (othI x)) rfl (size23' _) (idA_fit _ _) (idA_one _) (idA (othI x)) (splice_whole _ _ (idA_sz _ _)) ?_
  intro w6 St
  have kS := kg4
  replace kg1 := St.has (by omega) kg1
  replace kg2 := St.has (by omega) kg2
  replace kg3 := St.has (by omega) kg3
  replace GG := GG.store St bg4
  replace kg4 := St.new
  clear St
  refine s_val 8 rfl rfl (.int .i64 (othN x)) (rfl) ?_
  refine nr ?_; intro U h; simp only [z0, z1] at h; subst h
  refine s_val 9 rfl rfl (.bool (othB x)) (rfl) ?_
  refine nr ?_; intro U h; simp only [z0, z1] at h; subst h
  refine wpList_nil ?_
  refine then_n ?_
  refine wp_seq ?_
  refine wp_region_lit ?_
  refine s_val 20 rfl rfl (.agg (enA x)) (ldE0 _ rfl g3 rfl (kg3)) ?_
  refine nr ?_; intro U h; simp only [z0, z1] at h; subst h
  refine s_callv 21 rfl rfl _ 28 Try.call28 rfl rfl _ rfl [.agg (enA x)] rfl (rother_any x hx _) ?_
  intro w7 G
  replace kg1 := G.has kg1
  replace kg2 := G.has kg2
  replace kg3 := G.has kg3
  replace kg4 := G.has kg4
  replace GG := GG.trans G
  clear G
  refine nr ?_; intro U h; simp only [z0, z1] at h; subst h
  refine s_val 19 rfl rfl (.tuple #[.agg (idA (othI x)), .int .i64 (othN x), .bool (othB x)]) (rfl) ?_
  refine nr ?_; intro U h; simp only [z0, z1] at h; subst h
  refine s_val 22 rfl rfl (.agg (idA (othI x))) (rfl) ?_
  refine nr ?_; intro U h; simp only [z0, z1] at h; subst h
  refine s_val 23 rfl rfl (.int .i64 (othN x)) (rfl) ?_
  refine nr ?_; intro U h; simp only [z0, z1] at h; subst h
  refine s_val 24 rfl rfl (.bool (othB x)) (rfl) ?_
  refine nr ?_; intro U h; simp only [z0, z1] at h; subst h
  refine s_alloc 10 rfl rfl 29 rfl _ zero23 (idA 0) rfl ?_
  intro w8 g5 G eg5 kg5
  have bg5 := size_base GG eg5
  have dg1g5 := lt_new kg1 eg5
  have dg2g5 := lt_new kg2 eg5
  have dg3g5 := lt_new kg3 eg5
  have dg4g5 := lt_new kg4 eg5
  replace kg1 := G.has kg1
  replace kg2 := G.has kg2
  replace kg3 := G.has kg3
  replace kg4 := G.has kg4
  replace GG := GG.trans G
  clear G
  clear eg5
  refine nr ?_; intro U h; simp only [z0, z1] at h; subst h
  refine s_store rfl rfl 29 _ _ rfl g5 0 rfl (.agg (idA (othI x))) rfl 29 _ kg5 (idA (othI x)) rfl (size23' _) (idA_fit _ _) (idA_one _) (idA (othI x)) (splice_whole _ _ (idA_sz _ _)) ?_
  intro w9 St
  have kS := kg5
  replace kg1 := St.has (by omega) kg1
  replace kg2 := St.has (by omega) kg2
  replace kg3 := St.has (by omega) kg3
  replace kg4 := St.has (by omega) kg4
  replace GG := GG.store St bg5
  replace kg5 := St.new
  clear St
  refine s_val 11 rfl rfl (.int .i64 (othN x)) (rfl) ?_
  refine nr ?_; intro U h; simp only [z0, z1] at h; subst h
  refine s_val 12 rfl rfl (.bool (othB x)) (rfl) ?_
  refine nr ?_; intro U h; simp only [z0, z1] at h; subst h
  refine wpList_nil ?_
  refine then_n ?_
  refine wp_seq ?_
  refine wp_region_exA (A := ?Ax2) 31 [(0, 25), (1, 26), (2, 27), (3, 28), (4, 29), (5, 30), (6, 31), (7, 32), (8, 33), (9, 34), (10, 35), (11, 36), (12, 37), (13, 38), (14, 39), (15, 40), (16, 41), (17, 42), (18, 43), (19, 44), (20, 45), (21, 46), (22, 47), (23, 48), (24, 49), (25, 50), (26, 51), (27, 52), (28, 53), (29, 54), (30, 55)] [.val (.bool true), .val (.bool true), .val (.agg (paA p)), .val (.agg (paA q)), .val (.bool (lessB p q)), .val (.agg (paA p)), .val (.agg (paA q)), .val (.bool (lessB p q)), .val (.bool true), .val (.bool true), .val (.bool true), .val (.agg (enA x)), .val (.bool (rgt x)), .val (.agg (enA x)), .val (.bool (rgt x)), .val (.bool true), .val (.bool true), .val (.bool true), .val (.agg (idA (othI x))), .val (.agg (idA (othI x))), .val (.bool true), .val (.bool true), .val (.bool true), .val (.int .i64 (othN x)), .val (.int .i64 (othN x)), .val (.bool true), .val (.bool true), .val (.bool true), .val (.bool (othB x)), .val (.bool (othB x)), .val (.bool true)] follows (by kernel_rfl) rfl ?hAx2 (opsA_cons ?o0x2 (opsA_cons ?o1x2 (opsA_cons ?o2x2 (opsA_cons ?o3x2 (opsA_cons ?o4x2 (opsA_cons ?o5x2 (opsA_cons ?o6x2 (opsA_cons ?o7x2 (opsA_cons ?o8x2 (opsA_cons ?o9x2 (opsA_cons ?o10x2 (opsA_cons ?o11x2 (opsA_cons ?o12x2 (opsA_cons ?o13x2 (opsA_cons ?o14x2 (opsA_cons ?o15x2 (opsA_cons ?o16x2 (opsA_cons ?o17x2 (opsA_cons ?o18x2 (opsA_cons ?o19x2 (opsA_cons ?o20x2 (opsA_cons ?o21x2 (opsA_cons ?o22x2 (opsA_cons ?o23x2 (opsA_cons ?o24x2 (opsA_cons ?o25x2 (opsA_cons ?o26x2 (opsA_cons ?o27x2 (opsA_cons ?o28x2 (opsA_cons ?o29x2 (opsA_cons ?o30x2 opsA_nil))))))))))))))))))))))))))))))) ?restx2
  case hAx2 =>
    intro ptrs
    simp only [full, foldSlots, filledE, postE, List.foldl_cons, List.foldl_nil, List.getD_cons_zero, List.getD_cons_succ, fill_val, List.set_cons_zero, List.set_cons_succ]
    exact rfl
  case o0x2 =>
    intro ptrs w' hw hE
    exact opE_call (.val (.bool true)) rfl _ 11 Try.call11 rfl rfl _ rfl [] rfl ((fixed_any _).mono fun e w' ⟨he, hg⟩ => ⟨_, he, hg, rfl⟩)
  case o1x2 => exact fun _ _ _ _ => opE_move (v := .bool true) _ rfl rfl rfl
  case o2x2 => exact fun _ _ hw _ => opE_value (v := .agg (paA p)) rfl (ldP0 _ rfl g1 rfl (hw.has kg1))
  case o3x2 => exact fun _ _ hw _ => opE_value (v := .agg (paA q)) rfl (ldP0 _ rfl g2 rfl (hw.has kg2))
  case o4x2 =>
    intro ptrs w' hw hE
    exact opE_call (.val (.bool (lessB p q))) rfl _ 29 Try.call29 rfl rfl _ rfl [.agg (paA p), .agg (paA q)] rfl ((less_t p q hp hq _).mono fun e w' ⟨he, hg⟩ => ⟨_, he, hg, rfl⟩)
  case o5x2 => exact fun _ _ hw _ => opE_value (v := .agg (paA p)) rfl (ldP0 _ rfl g1 rfl (hw.has kg1))
  case o6x2 => exact fun _ _ hw _ => opE_value (v := .agg (paA q)) rfl (ldP0 _ rfl g2 rfl (hw.has kg2))
  case o7x2 =>
    intro ptrs w' hw hE
    exact opE_call (.val (.bool (lessB p q))) rfl _ 30 Try.call30 rfl rfl _ rfl [.agg (paA p), .agg (paA q)] rfl ((rless_any p q hp hq _).mono fun e w' ⟨he, hg⟩ => ⟨_, he, hg, rfl⟩)
  case o8x2 => exact fun _ _ _ _ => opE_value (v := .bool true) rfl (run_eqB 4 _ _ _ rfl (lessB p q) (lessB p q) rfl rfl Try.underlying4 true (decide_eq_true rfl) _)
  case o9x2 => exact fun _ _ _ _ => opE_pick (v := .bool true) _ _ _ rfl rfl true rfl rfl
  case o10x2 => exact fun _ _ _ _ => opE_move (v := .bool true) _ rfl rfl rfl
  case o11x2 => exact fun _ _ hw _ => opE_value (v := .agg (enA x)) rfl (ldE0 _ rfl g3 rfl (hw.has kg3))
  case o12x2 =>
    intro ptrs w' hw hE
    exact opE_call (.val (.bool (rgt x))) rfl _ 31 Try.call31 rfl rfl _ rfl [.agg (enA x)] rfl ((right_any x hx _).mono fun e w' ⟨he, hg⟩ => ⟨_, he, hg, rfl⟩)
  case o13x2 => exact fun _ _ hw _ => opE_value (v := .agg (enA x)) rfl (ldE0 _ rfl g3 rfl (hw.has kg3))
  case o14x2 =>
    intro ptrs w' hw hE
    exact opE_call (.val (.bool (rgt x))) rfl _ 32 Try.call32 rfl rfl _ rfl [.agg (enA x)] rfl ((rright_any x hx _).mono fun e w' ⟨he, hg⟩ => ⟨_, he, hg, rfl⟩)
  case o15x2 => exact fun _ _ _ _ => opE_value (v := .bool true) rfl (run_eqB 4 _ _ _ rfl (rgt x) (rgt x) rfl rfl Try.underlying4 true (decide_eq_true rfl) _)
  case o16x2 => exact fun _ _ _ _ => opE_pick (v := .bool true) _ _ _ rfl rfl true rfl rfl
  case o17x2 => exact fun _ _ _ _ => opE_move (v := .bool true) _ rfl rfl rfl
  case o18x2 => exact fun _ _ hw _ => opE_value (v := .agg (idA (othI x))) rfl (ldI0 _ rfl g4 rfl (hw.has kg4))
  case o19x2 => exact fun _ _ hw _ => opE_value (v := .agg (idA (othI x))) rfl (ldI0 _ rfl g5 rfl (hw.has kg5))
  case o20x2 => exact fun _ _ _ _ => opE_value (v := .bool true) rfl (run_eqI _ _ _ rfl _ _ rfl rfl (othI_ok hx) (othI_ok hx) true (decide_eq_true rfl))
  case o21x2 => exact fun _ _ _ _ => opE_pick (v := .bool true) _ _ _ rfl rfl true rfl rfl
  case o22x2 => exact fun _ _ _ _ => opE_move (v := .bool true) _ rfl rfl rfl
  case o23x2 => exact fun _ _ _ _ => opE_move (v := .int .i64 (othN x)) _ rfl rfl rfl
  case o24x2 => exact fun _ _ _ _ => opE_move (v := .int .i64 (othN x)) _ rfl rfl rfl
  case o25x2 => exact fun _ _ _ _ => opE_value (v := .bool true) rfl (run_eq_k 3 .i64 _ _ _ rfl Try.underlying3 (othN x) (othN x) rfl rfl true (decide_eq_true rfl) _)
  case o26x2 => exact fun _ _ _ _ => opE_pick (v := .bool true) _ _ _ rfl rfl true rfl rfl
  case o27x2 => exact fun _ _ _ _ => opE_move (v := .bool true) _ rfl rfl rfl
  case o28x2 => exact fun _ _ _ _ => opE_move (v := .bool (othB x)) _ rfl rfl rfl
  case o29x2 => exact fun _ _ _ _ => opE_move (v := .bool (othB x)) _ rfl rfl rfl
  case o30x2 => exact fun _ _ _ _ => opE_value (v := .bool true) rfl (run_eqB 4 _ _ _ rfl (othB x) (othB x) rfl rfl Try.underlying4 true (decide_eq_true rfl) _)
  intro ptrs w10 GD hxE
  simp only [List.drop_succ_cons, List.drop_zero]
  replace kg1 := GD.has kg1
  replace kg2 := GD.has kg2
  replace kg3 := GD.has kg3
  replace kg4 := GD.has kg4
  replace kg5 := GD.has kg5
  replace GG := GG.drew.trans GD
  clear GD
  refine s_val 56 rfl rfl (.bool true) (rfl) ?_
  refine nr ?_; intro U h; simp only [z0, z1] at h; subst h
  refine s_val 6 rfl rfl (.bool true) (rfl) ?_
  refine nr ?_; intro U h; simp only [z0, z1] at h; subst h
  refine wpList_nil ?_
  refine then_n ?_
  refine wp_ret ?_
  refine bodyPost_ret (results_tmp Try.results4 _ _ _) rfl ?_
  exact ⟨rfl, GG⟩
end Go.Proofs.Ytgfjclcnolnioaa
