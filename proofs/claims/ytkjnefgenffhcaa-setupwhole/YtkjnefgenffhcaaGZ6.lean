/- The chapter's example. -/
import Derived.Test.YtkjnefgenffhcaaGZ5
namespace Go.Proofs.Ytkjnefgenffhcaa
open Go.RowKit Go.Maps
def tabZ (B room : Nat) : PostE := PostE.ex (fun v x => ∃ t b, v = .pointer (some ⟨t, 0, none⟩) ∧ B ≤ t ∧ B ≤ b ∧ x.heap[t]? = some (.cells (tbA room b) 99 (0, 0)) ∧ TM x b []) (fun _ _ _ G ⟨t, b, h1, h2, h3, h4, h5⟩ => ⟨t, b, h1, h2, h3, G.has h4, h5.gro G⟩)
theorem fill_tabZ (B room : Nat) (v : Value) : (tabZ B room).fill v = v := rfl
def outZ (B : Nat) (E : Ed) : PostE := PostE.ex (fun v x => ∃ ao n, v = .agg (edA ao n E.mine E.full) ∧ OutP x B E.out ao n) (fun _ _ _ G ⟨ao, n, h1, h2⟩ => ⟨ao, n, h1, h2.gro G⟩)
theorem fill_outZ (B : Nat) (E : Ed) (v : Value) : (outZ B E).fill v = v := rfl
def outC (B : Nat) (E : Ed) (c : Int) : PostE := PostE.ex (fun v x => ∃ ao n, v = .tuple #[.agg (edA ao n E.mine E.full), .int .i64 c] ∧ OutP x B E.out ao n) (fun _ _ _ G ⟨ao, n, h1, h2⟩ => ⟨ao, n, h1, h2.gro G⟩)
theorem fill_outC (B : Nat) (E : Ed) (c : Int) (v : Value) : (outC B E c).fill v = v := rfl
theorem start_eq (w : World) (t b room : Nat) (L : List En) (kt : w.heap[t]? = some (.cells (tbA room b) 99 (0, 0))) (HT : TM w b L) (N : Int) (i : Nat) (hi : i < top) (p : Pa) (hp : p.ok) (c : Nat) (hcc : c < top) (ao : Option Addr) (cap : Nat) (way : List Int) (HI : RC w ao cap way) (ap : Option Addr) (cq : Nat) (o : List Bool) (HB : RK kB w ap cq o) (E : Ed) (n : Int) (L2 : List En) (hE : stE room L N i p c way o = E) (hC : stC room L N i p c way o = n) (hL : stL room L N i p c way o = L2) :
    Calls Try.prog 9 #[.pointer (some ⟨t, 0, none⟩), .agg (seA N i), .agg (paA p), .agg (idA c), .slice ao way.length cap, .slice ap o.length cq] w (StaP w b E n L2) := by
  subst hE hC hL
  exact start_any w t b room L kt HT N i hi p hp c hcc ao cap way HI ap cq o HB
theorem take_eq (w : World) (t b room : Nat) (L : List En) (kt : w.heap[t]? = some (.cells (tbA room b) 99 (0, 0))) (HT : TM w b L) (N : Int) (i : Nat) (hi : i < top) (fr : Int) (hfr : I64 fr) (M : Msg) (hM : M.ok) (ao : Option Addr) (cap : Nat) (g : Fr) (d : FD) (HW : FrW w (frY M ao cap g) d) (hd : d.tr = M.l) (hI : ∀ x ∈ M.l, I64t x) (hl : M.l.length ≤ 17592186044416) (HS : FrS (frY M ao cap g)) (ap : Option Addr) (cq : Nat) (o : List Bool) (HB : RK kB w ap cq o) (E : Ed) (L2 : List En) (hE : tkE room L N i fr M o = E) (hL : tkL room L N i fr M o = L2) :
    Calls Try.prog 16 #[.pointer (some ⟨t, 0, none⟩), .agg (seA N i), .int .i64 fr, .agg (frA (frY M ao cap g)), .slice ap o.length cq] w (TakP w b E L2) := by
  subst hE hL
  exact take_any w t b room L kt HT N i hi fr hfr M hM ao cap g d HW hd hI hl HS ap cq o HB
theorem new4 (w : World) : Calls Try.prog 23 #[.int .i64 4] w (NewP w 4) := by
  have h := new_any 4 w
  rwa [show rmF 4 = 4 from by decide] at h
def pF : Pa := ⟨0, 1⟩
def mF : Msg := mSet pF (i1 1) (i1 2) [0, 2, 1]
theorem pF_ok : pF.ok := ⟨by decide, ⟨by decide, by decide⟩⟩
theorem mF_ok : mF.ok := ⟨pF_ok, by decide, by decide⟩
theorem mF_i : ∀ x ∈ mF.l, I64t x := fun x hx => by
  simp only [mF, mSet, List.mem_cons, List.not_mem_nil, or_false] at hx
  rcases hx with rfl | rfl | rfl <;> exact ⟨by decide, by decide⟩
set_option maxRecDepth 100000 in
set_option maxHeartbeats 4000000 in
theorem fixed_any (w : World) : Calls Try.prog 11 #[] w (fun e w' => e = .returned (.bool true) ∧ Gro w w') := by
  refine s_enter Try.func11 rfl Try.ntmps11 [] [undef, undef, undef, undef, undef, undef, undef, undef, undef, undef, undef, undef, undef, undef, undef, undef, undef, undef, undef, undef, undef, undef, undef, undef, undef, undef, undef, undef, undef, undef, undef, undef, undef, undef, undef, undef, undef, undef, undef, undef, undef, undef, undef, undef, undef, undef, undef, undef, undef, undef, undef, undef, undef, undef, undef, undef, undef, undef, undef, undef, undef, undef, undef, undef, undef, undef, undef, undef, undef, undef, undef, undef, undef, undef, undef, undef, undef, undef, undef, undef, undef, undef, undef, undef, undef, undef, undef, undef, undef, undef, undef, undef, undef, undef, undef, undef, undef, undef, undef, undef, undef, undef, undef, undef, undef, undef, undef, undef, undef, undef, undef, undef, undef, undef, undef, undef, undef, undef, undef, undef, undef, undef, undef, undef] rfl ?_
  have GG := Gro.refl w
  refine wp_seq ?_
  refine wp_region_lit ?_
  refine s_val 0 rfl rfl (.bool false) (rfl) ?_
  refine nr ?_; intro U h; simp only [z0] at h; subst h
  refine wpList_nil ?_
  refine then_n ?_
  refine wp_seq ?_
  refine wp_region_lit ?_
  refine s_bsl 9 rfl rfl 27 3 _ rfl [(0, .bool true), (1, .bool true), (2, .bool true)] rfl (([true, true, true] : List Bool).flatMap kB.E).toArray 4 (by kernel_rfl) ?_
  intro w1 q1 G eq1 kq1
  replace GG := GG.trans G
  clear G
  have HB1 : RK kB _ (some ⟨q1, 0, none⟩) 3 [true, true, true] := RK.blk kq1 (fun _ _ => trivial) (Nat.le_refl _)
  clear eq1 kq1
  refine nr ?_; intro U h; simp only [z0, z1] at h; subst h
  refine s_val 1 rfl rfl (.slice (some ⟨q1, 0, none⟩) 3 3) (rfl) ?_
  refine nr ?_; intro U h; simp only [z0, z1] at h; subst h
  refine wpList_nil ?_
  refine then_n ?_
  refine wp_seq ?_
  refine wp_region_lit ?_
  refine s_callx 10 rfl rfl _ 23 Try.call23 rfl rfl _ rfl [.int .i64 4] rfl (new4 _) (by rintro _ _ ⟨_, _, he, _⟩; exact ⟨_, he⟩) ?_
  rintro v w2 ⟨t, bt_, he, G, kt, HTt, h1t, h2t⟩
  cases he
  have bt := Nat.le_trans GG.size h1t
  have bbt_ := Nat.le_trans GG.size h2t
  clear h1t h2t
  replace HB1 := HB1.gro G
  replace GG := GG.trans G
  clear G
  refine nr ?_; intro U h; simp only [z0, z1] at h; subst h
  refine s_val 2 rfl rfl (.pointer (some ⟨t, 0, none⟩)) (rfl) ?_
  refine nr ?_; intro U h; simp only [z0, z1] at h; subst h
  refine wpList_nil ?_
  refine then_n ?_
  refine wp_seq ?_
  refine wp_region_lit ?_
  refine s_val 12 rfl rfl (.pointer (some ⟨t, 0, none⟩)) (rfl) ?_
  refine nr ?_; intro U h; simp only [z0, z1] at h; subst h
  refine s_val 13 rfl rfl (.agg (idA (i1 1))) (run_bd 24 _ rfl [(0, .int .u8 1)] rfl _ (by kernel_rfl)) ?_
  refine nr ?_; intro U h; simp only [z0, z1] at h; subst h
  refine s_val 14 rfl rfl (.agg (seA 0 (i1 1))) (run_bd 26 _ rfl [(0, .int .i64 0), (1, .agg (idA (i1 1)))] rfl _ (bdS2 _ _ _)) ?_
  refine nr ?_; intro U h; simp only [z0, z1] at h; subst h
  refine s_val 15 rfl rfl (.agg (paA pF)) (run_bd 31 _ rfl [(1, .int .i64 1)] rfl _ (bdP1 _ _)) ?_
  refine nr ?_; intro U h; simp only [z0, z1] at h; subst h
  refine s_val 16 rfl rfl (.agg (idA (i1 2))) (run_bd 24 _ rfl [(0, .int .u8 2)] rfl _ (by kernel_rfl)) ?_
  refine nr ?_; intro U h; simp only [z0, z1] at h; subst h
  refine s_bsl 17 rfl rfl 32 3 _ rfl [(0, .int .i64 0), (1, .int .i64 2), (2, .int .i64 1)] rfl (ci ([0, 2, 1] : List Int)).toArray 3 (by kernel_rfl) ?_
  intro w3 q3 G eq3 kq3
  have bq3 := size_base GG eq3
  have dHI3t := ne_blk (n := (ci ([0, 2, 1] : List Int)).length) (lt_new kt eq3)
  replace kt := G.has kt
  replace HB1 := HB1.gro G
  replace HTt := HTt.gro G
  replace GG := GG.trans G
  clear G
  have HI3 : RC _ (some ⟨q3, 0, none⟩) 3 ([0, 2, 1] : List Int) := RC.blk kq3 (fun x hx => by simp only [List.mem_cons, List.not_mem_nil, or_false] at hx; rcases hx with rfl | rfl | rfl <;> exact ⟨by decide, by decide⟩) (Nat.le_refl _)
  clear kq3 eq3
  refine nr ?_; intro U h; simp only [z0, z1] at h; subst h
  refine s_val 18 rfl rfl (.slice (some ⟨q1, 0, none⟩) 3 3) (rfl) ?_
  refine nr ?_; intro U h; simp only [z0, z1] at h; subst h
  refine s_callx 19 rfl rfl _ 9 Try.call9 rfl rfl _ rfl [.pointer (some ⟨t, 0, none⟩), .agg (seA 0 (i1 1)), .agg (paA pF), .agg (idA (i1 2)), .slice (some ⟨q3, 0, none⟩) 3 3, .slice (some ⟨q1, 0, none⟩) 3 3] rfl (start_eq _ t bt_ 4 ([]) kt (HTt) 0 (i1 1) (by decide) pF pF_ok (i1 2) (by decide) (some ⟨q3, 0, none⟩) 3 [0, 2, 1] HI3 (some ⟨q1, 0, none⟩) 3 [true, true, true] HB1 ⟨some (2, mF), true, false⟩ 0 [(⟨pF, i1 1, i1 2, -1, 2⟩ : En)] (by kernel_rfl) (by kernel_rfl) (by kernel_rfl)) (by rintro _ _ ⟨_, _, he, _⟩; exact ⟨_, he⟩) ?_
  rintro v w4 ⟨ao4, n4, he, HO4, HT2, G2⟩
  cases he
  obtain ⟨q4, qa4, qc4, qs4, qt4, qu4, rfl, rfl, kq4, bq4, HQ4⟩ := HO4
  have dtq4 : t < q4 := Nat.lt_of_lt_of_le (lt_of_heap kt) bq4
  replace bq4 := Nat.le_trans GG.size bq4
  replace HQ4 := HQ4.mono GG.size
  replace kt := G2.has kt (by simpa using HTt.nec kt)
  replace HB1 := HB1.mapw HTt G2
  replace HI3 := HI3.mapw HTt G2
  replace GG := G2.gro GG (by simpa using bbt_)
  clear HTt G2
  have HTt := HT2
  clear HT2
  refine nr ?_; intro U h; simp only [z0, z1] at h; subst h
  refine s_val 11 rfl rfl (.tuple #[.agg (edA (some ⟨q4, 0, none⟩) 1 true false), .int .i64 0]) (rfl) ?_
  refine nr ?_; intro U h; simp only [z0, z1] at h; subst h
  refine s_val 20 rfl rfl (.agg (edA (some ⟨q4, 0, none⟩) 1 true false)) (rfl) ?_
  refine nr ?_; intro U h; simp only [z0, z1] at h; subst h
  refine s_val 21 rfl rfl (.int .i64 0) (rfl) ?_
  refine nr ?_; intro U h; simp only [z0, z1] at h; subst h
  refine s_alloc 3 rfl rfl 41 rfl _ zvD (edA none 0 false false) rfl ?_
  intro w5 g1 G eg1 kg1
  have bg1 := size_base GG eg1
  have dtg1 := lt_new kt eg1
  have dq4g1 := lt_new kq4 eg1
  have dHB1g1 := HB1.ne eg1
  have dHTtg1 := HTt.ne eg1
  have dHI3g1 := HI3.ne eg1
  replace kt := G.has kt
  replace kq4 := G.has kq4
  replace HB1 := HB1.gro G
  replace HTt := HTt.gro G
  replace HI3 := HI3.gro G
  replace HQ4 := HQ4.gro G
  replace GG := GG.trans G
  clear G
  clear eg1
  refine nr ?_; intro U h; simp only [z0, z1] at h; subst h
  refine s_store rfl rfl 41 _ _ rfl g1 0 rfl (.agg (edA (some ⟨q4, 0, none⟩) 1 true false)) rfl 41 _ kg1 (edA (some ⟨q4, 0, none⟩) 1 true false) rfl (siD' _ _ _ _) (Nat.le_refl _) (oneD _ _ _ _) (edA (some ⟨q4, 0, none⟩) 1 true false) (splice_whole _ _ (rfl)) ?_
  intro w6 St
  have kS := kg1
  replace kt := St.has (by omega) kt
  replace kq4 := St.has (by omega) kq4
  replace HB1 := HB1.st St dHB1g1
  replace HTt := HTt.st St dHTtg1
  replace HI3 := HI3.st St dHI3g1
  replace HQ4 := HQ4.st St kS (by decide)
  replace GG := GG.store St bg1
  replace kg1 := St.new
  clear St
  refine s_val 4 rfl rfl (.int .i64 0) (rfl) ?_
  refine nr ?_; intro U h; simp only [z0, z1] at h; subst h
  refine wpList_nil ?_
  refine then_n ?_
  refine wp_seq ?_
  refine wp_seq ?_
  refine wp_region_opq ?_
  intro OPS hY
  have y2 := hY 2 24 rfl
  have y6 := hY 6 28 rfl
  have y12 := hY 12 34 rfl
  have y20 := hY 20 42 rfl
  clear hY
  refine s_val 22 rfl rfl (.pointer (some ⟨t, 0, none⟩)) (rfl) ?_
  refine nr ?_; intro U h; simp only [z0, z1] at h; subst h
  refine s_val 23 rfl rfl (.bool false) (run_eqnp 35 _ _ _ rfl _ rfl rfl Try.underlying35 _) ?_
  refine nr ?_; intro U h; simp only [z0, z1] at h; subst h
  refine s_val 24 rfl rfl (.bool false) (rfl) ?_
  refine nr ?_; intro U h; simp only [z0, z1] at h; subst h
  refine s_gvalY 25 rfl rfl y2 rfl (.int .i64 0) (rfl) ?_
  refine nr ?_; intro U h; simp only [z0, z1] at h; subst h
  refine s_gvalY 26 rfl rfl y2 rfl (.bool false) (run_neq_k 42 .i64 _ _ _ rfl Try.underlying42 0 0 rfl rfl false (by decide) _) ?_
  refine nr ?_; intro U h; simp only [z0, z1] at h; subst h
  refine s_val 27 rfl rfl (.bool false) (rfl) ?_
  refine nr ?_; intro U h; simp only [z0, z1] at h; subst h
  refine s_val 28 rfl rfl (.bool false) (rfl) ?_
  refine nr ?_; intro U h; simp only [z0, z1] at h; subst h
  refine s_gvalY 29 rfl rfl y6 rfl (.pointer (some ⟨g1, 0, none⟩)) (run_fld 41 _ 0 rfl g1 0 rfl 0 (by kernel_rfl)) ?_
  refine nr ?_; intro U h; simp only [z0, z1] at h; subst h
  refine s_gvalY 30 rfl rfl y6 rfl (.slice (some ⟨q4, 0, none⟩) 1 1) (ldD_o _ rfl g1 rfl (kg1)) ?_
  refine nr ?_; intro U h; simp only [z0, z1] at h; subst h
  refine s_gvalY 31 rfl rfl y6 rfl (.int .i64 1) (run_len Try.underlying39 _ rfl _ _ _ rfl _) ?_
  refine nr ?_; intro U h; simp only [z0, z1] at h; subst h
  refine s_gvalY 32 rfl rfl y6 rfl (.bool false) (run_neq_k 3 .i64 _ _ _ rfl Try.underlying3 1 1 rfl rfl false (by decide) _) ?_
  refine nr ?_; intro U h; simp only [z0, z1] at h; subst h
  refine s_val 33 rfl rfl (.bool false) (rfl) ?_
  refine nr ?_; intro U h; simp only [z0, z1] at h; subst h
  refine s_val 34 rfl rfl (.bool false) (rfl) ?_
  refine nr ?_; intro U h; simp only [z0, z1] at h; subst h
  refine s_gvalY 35 rfl rfl y12 rfl (.pointer (some ⟨g1, 0, none⟩)) (run_fld 41 _ 0 rfl g1 0 rfl 0 (by kernel_rfl)) ?_
  refine nr ?_; intro U h; simp only [z0, z1] at h; subst h
  refine s_gvalY 36 rfl rfl y12 rfl (.slice (some ⟨q4, 0, none⟩) 1 1) (ldD_o _ rfl g1 rfl (kg1)) ?_
  refine nr ?_; intro U h; simp only [z0, z1] at h; subst h
  refine s_gvalY 37 rfl rfl y12 rfl (.pointer (some ⟨q4, 0, none⟩)) (run_ixH q4 _ _ rfl rfl rfl) ?_
  refine nr ?_; intro U h; simp only [z0, z1] at h; subst h
  refine s_gvalY 38 rfl rfl y12 rfl (.pointer (some ⟨q4, 0, none⟩)) (run_fld 71 _ 0 rfl q4 0 rfl 0 (by kernel_rfl)) ?_
  refine nr ?_; intro U h; simp only [z0, z1] at h; subst h
  refine s_gvalY 39 rfl rfl y12 rfl (.int .i64 2) (ldH_n _ rfl q4 rfl (kq4)) ?_
  refine nr ?_; intro U h; simp only [z0, z1] at h; subst h
  refine s_gvalY 40 rfl rfl y12 rfl (.bool false) (run_neq_k 3 .i64 _ _ _ rfl Try.underlying3 2 2 rfl rfl false (by decide) _) ?_
  refine nr ?_; intro U h; simp only [z0, z1] at h; subst h
  refine s_val 41 rfl rfl (.bool false) (rfl) ?_
  refine nr ?_; intro U h; simp only [z0, z1] at h; subst h
  refine s_val 42 rfl rfl (.bool false) (rfl) ?_
  refine nr ?_; intro U h; simp only [z0, z1] at h; subst h
  refine s_gvalY 43 rfl rfl y20 rfl (.pointer (some ⟨g1, 1, none⟩)) (run_fld 41 _ 1 rfl g1 0 rfl 1 (by kernel_rfl)) ?_
  refine nr ?_; intro U h; simp only [z0, z1] at h; subst h
  refine s_gvalY 44 rfl rfl y20 rfl (.bool true) (ldD_m _ rfl g1 rfl (kg1)) ?_
  refine nr ?_; intro U h; simp only [z0, z1] at h; subst h
  refine s_gvalY 45 rfl rfl y20 rfl (.bool false) (run_nt _ _ rfl true rfl) ?_
  refine nr ?_; intro U h; simp only [z0, z1] at h; subst h
  refine s_val 46 rfl rfl (.bool false) (rfl) ?_
  refine nr ?_; intro U h; simp only [z0, z1] at h; subst h
  refine wpList_nil ?_
  refine then_n ?_
  refine wp_cond_false rfl ?_
  refine wp_skip ?_
  refine then_n ?_
  refine wp_seq ?_
  refine wp_region_lit ?_
  refine s_callx 47 rfl rfl _ 23 Try.call23 rfl rfl _ rfl [.int .i64 4] rfl (new4 _) (by rintro _ _ ⟨_, _, he, _⟩; exact ⟨_, he⟩) ?_
  rintro v w7 ⟨u, bu_, he, G, ku, HTu, h1u, h2u⟩
  cases he
  have bu := Nat.le_trans GG.size h1u
  have bbu_ := Nat.le_trans GG.size h2u
  clear h1u h2u
  replace kt := G.has kt
  replace kq4 := G.has kq4
  replace kg1 := G.has kg1
  replace HB1 := HB1.gro G
  replace HI3 := HI3.gro G
  replace HQ4 := HQ4.gro G
  replace GG := GG.trans G
  clear G
  refine nr ?_; intro U h; simp only [z0, z1] at h; subst h
  refine s_val 5 rfl rfl (.pointer (some ⟨u, 0, none⟩)) (rfl) ?_
  refine nr ?_; intro U h; simp only [z0, z1] at h; subst h
  refine wpList_nil ?_
  refine then_n ?_
  refine wp_seq ?_
  refine wp_region_lit ?_
  refine s_val 48 rfl rfl (.pointer (some ⟨u, 0, none⟩)) (rfl) ?_
  refine nr ?_; intro U h; simp only [z0, z1] at h; subst h
  refine s_val 49 rfl rfl (.agg (idA (i1 3))) (run_bd 24 _ rfl [(0, .int .u8 3)] rfl _ (by kernel_rfl)) ?_
  refine nr ?_; intro U h; simp only [z0, z1] at h; subst h
  refine s_val 50 rfl rfl (.agg (seA 2 (i1 3))) (run_bd 26 _ rfl [(0, .int .i64 2), (1, .agg (idA (i1 3)))] rfl _ (bdS2 _ _ _)) ?_
  refine nr ?_; intro U h; simp only [z0, z1] at h; subst h
  refine s_val 51 rfl rfl (.pointer (some ⟨g1, 0, none⟩)) (run_fld 41 _ 0 rfl g1 0 rfl 0 (by kernel_rfl)) ?_
  refine nr ?_; intro U h; simp only [z0, z1] at h; subst h
  refine s_val 52 rfl rfl (.slice (some ⟨q4, 0, none⟩) 1 1) (ldD_o _ rfl g1 rfl (kg1)) ?_
  refine nr ?_; intro U h; simp only [z0, z1] at h; subst h
  refine s_val 53 rfl rfl (.pointer (some ⟨q4, 0, none⟩)) (run_ixH q4 _ _ rfl rfl rfl) ?_
  refine nr ?_; intro U h; simp only [z0, z1] at h; subst h
  refine s_val 54 rfl rfl (.pointer (some ⟨q4, 1, none⟩)) (run_fld 71 _ 1 rfl q4 0 rfl 1 (by kernel_rfl)) ?_
  refine nr ?_; intro U h; simp only [z0, z1] at h; subst h
  refine s_val 55 rfl rfl (.agg (frA (frY mF qa4 qc4 (gz qs4 qt4 qu4)))) (ldH_f _ rfl q4 rfl (kq4)) ?_
  refine nr ?_; intro U h; simp only [z0, z1] at h; subst h
  refine s_val 56 rfl rfl (.slice (some ⟨q1, 0, none⟩) 3 3) (rfl) ?_
  refine nr ?_; intro U h; simp only [z0, z1] at h; subst h
  refine s_callx 57 rfl rfl _ 16 Try.call16 rfl rfl _ rfl [.pointer (some ⟨u, 0, none⟩), .agg (seA 2 (i1 3)), .int .i64 0, .agg (frA (frY mF qa4 qc4 (gz qs4 qt4 qu4))), .slice (some ⟨q1, 0, none⟩) 3 3] rfl (take_eq _ u bu_ 4 ([]) ku (HTu) 2 (i1 3) (by decide) 0 ⟨by decide, by decide⟩ mF mF_ok qa4 qc4 (gz qs4 qt4 qu4) (dM mF) HQ4.w rfl mF_i (by decide) (HQ4.s (by decide)) (some ⟨q1, 0, none⟩) 3 [true, true, true] HB1 ⟨some (1, mF), false, false⟩ [(⟨pF, i1 1, i1 2, 0, 1⟩ : En)] (by kernel_rfl) (by kernel_rfl)) (by rintro _ _ ⟨_, _, he, _⟩; exact ⟨_, he⟩) ?_
  rintro v w8 ⟨ao6, n6, he, HO6, HT2, G2⟩
  cases he
  obtain ⟨q6, qa6, qc6, qs6, qt6, qu6, rfl, rfl, kq6, bq6, HQ6⟩ := HO6
  have dtq6 : t < q6 := Nat.lt_of_lt_of_le (lt_of_heap kt) bq6
  have dq4q6 : q4 < q6 := Nat.lt_of_lt_of_le (lt_of_heap kq4) bq6
  have dg1q6 : g1 < q6 := Nat.lt_of_lt_of_le (lt_of_heap kg1) bq6
  have duq6 : u < q6 := Nat.lt_of_lt_of_le (lt_of_heap ku) bq6
  replace bq6 := Nat.le_trans GG.size bq6
  replace HQ6 := HQ6.mono GG.size
  replace kt := G2.has kt (by simpa using HTu.nec kt)
  replace kq4 := G2.has kq4 (by simpa using HTu.nec kq4)
  replace kg1 := G2.has kg1 (by simpa using HTu.nec kg1)
  replace ku := G2.has ku (by simpa using HTu.nec ku)
  replace HB1 := HB1.mapw HTu G2
  replace HI3 := HI3.mapw HTu G2
  replace HQ4 := HQ4.mapw HTu G2
  replace GG := G2.gro GG (by simpa using bbu_)
  clear HTu G2
  have HTu := HT2
  clear HT2
  refine nr ?_; intro U h; simp only [z0, z1] at h; subst h
  refine s_alloc 6 rfl rfl 41 rfl _ zvD (edA none 0 false false) rfl ?_
  intro w9 g2 G eg2 kg2
  have bg2 := size_base GG eg2
  have dtg2 := lt_new kt eg2
  have dq4g2 := lt_new kq4 eg2
  have dg1g2 := lt_new kg1 eg2
  have dug2 := lt_new ku eg2
  have dq6g2 := lt_new kq6 eg2
  have dHB1g2 := HB1.ne eg2
  have dHI3g2 := HI3.ne eg2
  have dHTug2 := HTu.ne eg2
  replace kt := G.has kt
  replace kq4 := G.has kq4
  replace kg1 := G.has kg1
  replace ku := G.has ku
  replace kq6 := G.has kq6
  replace HB1 := HB1.gro G
  replace HI3 := HI3.gro G
  replace HQ4 := HQ4.gro G
  replace HTu := HTu.gro G
  replace HQ6 := HQ6.gro G
  replace GG := GG.trans G
  clear G
  clear eg2
  refine nr ?_; intro U h; simp only [z0, z1] at h; subst h
  refine s_store rfl rfl 41 _ _ rfl g2 0 rfl (.agg (edA (some ⟨q6, 0, none⟩) 1 false false)) rfl 41 _ kg2 (edA (some ⟨q6, 0, none⟩) 1 false false) rfl (siD' _ _ _ _) (Nat.le_refl _) (oneD _ _ _ _) (edA (some ⟨q6, 0, none⟩) 1 false false) (splice_whole _ _ (rfl)) ?_
  intro w10 St
  have kS := kg2
  replace kt := St.has (by omega) kt
  replace kq4 := St.has (by omega) kq4
  replace kg1 := St.has (by omega) kg1
  replace ku := St.has (by omega) ku
  replace kq6 := St.has (by omega) kq6
  replace HB1 := HB1.st St dHB1g2
  replace HI3 := HI3.st St dHI3g2
  replace HQ4 := HQ4.st St kS (by decide)
  replace HTu := HTu.st St dHTug2
  replace HQ6 := HQ6.st St kS (by decide)
  replace GG := GG.store St bg2
  replace kg2 := St.new
  clear St
  refine wpList_nil ?_
  refine then_n ?_
  refine wp_seq ?_
  refine wp_seq ?_
  refine wp_region_opq ?_
  intro OPS hY
  have y4 := hY 4 62 rfl
  have y12 := hY 12 70 rfl
  clear hY
  refine s_val 58 rfl rfl (.pointer (some ⟨g2, 0, none⟩)) (run_fld 41 _ 0 rfl g2 0 rfl 0 (by kernel_rfl)) ?_
  refine nr ?_; intro U h; simp only [z0, z1] at h; subst h
  refine s_val 59 rfl rfl (.slice (some ⟨q6, 0, none⟩) 1 1) (ldD_o _ rfl g2 rfl (kg2)) ?_
  refine nr ?_; intro U h; simp only [z0, z1] at h; subst h
  refine s_val 60 rfl rfl (.int .i64 1) (run_len Try.underlying39 _ rfl _ _ _ rfl _) ?_
  refine nr ?_; intro U h; simp only [z0, z1] at h; subst h
  refine s_val 61 rfl rfl (.bool false) (run_neq_k 3 .i64 _ _ _ rfl Try.underlying3 1 1 rfl rfl false (by decide) _) ?_
  refine nr ?_; intro U h; simp only [z0, z1] at h; subst h
  refine s_val 62 rfl rfl (.bool false) (rfl) ?_
  refine nr ?_; intro U h; simp only [z0, z1] at h; subst h
  refine s_gvalY 63 rfl rfl y4 rfl (.pointer (some ⟨g2, 0, none⟩)) (run_fld 41 _ 0 rfl g2 0 rfl 0 (by kernel_rfl)) ?_
  refine nr ?_; intro U h; simp only [z0, z1] at h; subst h
  refine s_gvalY 64 rfl rfl y4 rfl (.slice (some ⟨q6, 0, none⟩) 1 1) (ldD_o _ rfl g2 rfl (kg2)) ?_
  refine nr ?_; intro U h; simp only [z0, z1] at h; subst h
  refine s_gvalY 65 rfl rfl y4 rfl (.pointer (some ⟨q6, 0, none⟩)) (run_ixH q6 _ _ rfl rfl rfl) ?_
  refine nr ?_; intro U h; simp only [z0, z1] at h; subst h
  refine s_gvalY 66 rfl rfl y4 rfl (.pointer (some ⟨q6, 0, none⟩)) (run_fld 71 _ 0 rfl q6 0 rfl 0 (by kernel_rfl)) ?_
  refine nr ?_; intro U h; simp only [z0, z1] at h; subst h
  refine s_gvalY 67 rfl rfl y4 rfl (.int .i64 1) (ldH_n _ rfl q6 rfl (kq6)) ?_
  refine nr ?_; intro U h; simp only [z0, z1] at h; subst h
  refine s_gvalY 68 rfl rfl y4 rfl (.bool false) (run_neq_k 3 .i64 _ _ _ rfl Try.underlying3 1 1 rfl rfl false (by decide) _) ?_
  refine nr ?_; intro U h; simp only [z0, z1] at h; subst h
  refine s_val 69 rfl rfl (.bool false) (rfl) ?_
  refine nr ?_; intro U h; simp only [z0, z1] at h; subst h
  refine s_val 70 rfl rfl (.bool false) (rfl) ?_
  refine nr ?_; intro U h; simp only [z0, z1] at h; subst h
  refine s_gvalY 71 rfl rfl y12 rfl (.pointer (some ⟨g2, 1, none⟩)) (run_fld 41 _ 1 rfl g2 0 rfl 1 (by kernel_rfl)) ?_
  refine nr ?_; intro U h; simp only [z0, z1] at h; subst h
  refine s_gvalY 72 rfl rfl y12 rfl (.bool false) (ldD_m _ rfl g2 rfl (kg2)) ?_
  refine nr ?_; intro U h; simp only [z0, z1] at h; subst h
  refine s_val 73 rfl rfl (.bool false) (rfl) ?_
  refine nr ?_; intro U h; simp only [z0, z1] at h; subst h
  refine wpList_nil ?_
  refine then_n ?_
  refine wp_cond_false rfl ?_
  refine wp_skip ?_
  refine then_n ?_
  refine wp_seq ?_
  obtain ⟨BB, hBB⟩ : ∃ B, w10.heap.size = B := ⟨_, rfl⟩
  refine wp_region_pm (A := ?Ax1) (fun _ x => Gro w10.drew x) 11 [(0, 74), (1, 75), (2, 76), (3, 77), (4, 78), (5, 79), (6, 80), (7, 81), (8, 82), (9, 83), (10, 7)] [tabZ BB 4, .val (.agg (idA (i1 2))), .val (.agg (seA 1 (i1 2))), .val (.pointer (some ⟨g2, 0, none⟩)), .val (.slice (some ⟨q6, 0, none⟩) 1 1), .val (.pointer (some ⟨q6, 0, none⟩)), .val (.pointer (some ⟨q6, 1, none⟩)), .val (.agg (frA (frY mF qa6 qc6 (gz qs6 qt6 qu6)))), .val (.slice (some ⟨q1, 0, none⟩) 3 3), outZ BB ⟨none, true, false⟩, boxZ BB 41 (edA none 0 false false)] [(9, 0)] [9, 10] follows (by kernel_rfl) rfl (by kernel_rfl) (by decide) (Gro.refl _) ?hAx1 (opsM_g (fun _ _ _ h _ g => h.trans g) ?o0x1 (opsM_g (fun _ _ _ h _ g => h.trans g) ?o1x1 (opsM_g (fun _ _ _ h _ g => h.trans g) ?o2x1 (opsM_g (fun _ _ _ h _ g => h.trans g) ?o3x1 (opsM_g (fun _ _ _ h _ g => h.trans g) ?o4x1 (opsM_g (fun _ _ _ h _ g => h.trans g) ?o5x1 (opsM_g (fun _ _ _ h _ g => h.trans g) ?o6x1 (opsM_g (fun _ _ _ h _ g => h.trans g) ?o7x1 (opsM_g (fun _ _ _ h _ g => h.trans g) ?o8x1 (opsM_w ?o9x1 (opsM_g (fun _ _ _ h _ g => h.trans g) ?o10x1 opsM_nil))))))))))) ?restx1
  case hAx1 =>
    intro ptrs
    simp only [full, foldSlots, filledE, postE, List.foldl_cons, List.foldl_nil, List.getD_cons_zero, List.getD_cons_succ, fill_val, fill_tabZ, fill_outZ, fill_boxZ, List.set_cons_zero, List.set_cons_succ]
    exact rfl
  case o0x1 => exact fun _ _ x hw _ _ _ _ => opE_call (tabZ BB 4) rfl _ 23 Try.call23 rfl rfl _ rfl [.int .i64 4] rfl ((new4 _).mono fun e w' ⟨t, b, he, G, k, HT, h1, h2⟩ => ⟨_, he, G, t, b, rfl, Nat.le_trans (Nat.le_trans (Nat.le_of_eq hBB.symm) hw.size) h1, Nat.le_trans (Nat.le_trans (Nat.le_of_eq hBB.symm) hw.size) h2, k, HT⟩)
  case o1x1 => exact fun _ _ _ _ _ _ _ _ => opE_value (v := .agg (idA (i1 2))) rfl (run_bd 24 _ rfl [(0, .int .u8 2)] rfl _ (by kernel_rfl))
  case o2x1 => exact fun _ _ _ _ _ _ _ _ => opE_value (v := .agg (seA 1 (i1 2))) rfl (run_bd 26 _ rfl [(0, .int .i64 1), (1, .agg (idA (i1 2)))] rfl _ (bdS2 _ _ _))
  case o3x1 => exact fun _ _ _ _ _ _ _ _ => opE_value (v := .pointer (some ⟨g2, 0, none⟩)) rfl (run_fld 41 _ 0 rfl g2 0 rfl 0 (by kernel_rfl))
  case o4x1 => exact fun _ _ _ hw _ _ _ _ => opE_value (v := .slice (some ⟨q6, 0, none⟩) 1 1) rfl (ldD_o _ rfl g2 rfl (hw.has kg2))
  case o5x1 => exact fun _ _ _ _ _ _ _ _ => opE_value (v := .pointer (some ⟨q6, 0, none⟩)) rfl (run_ixH q6 _ _ rfl rfl rfl)
  case o6x1 => exact fun _ _ _ _ _ _ _ _ => opE_value (v := .pointer (some ⟨q6, 1, none⟩)) rfl (run_fld 71 _ 1 rfl q6 0 rfl 1 (by kernel_rfl))
  case o7x1 => exact fun _ _ _ hw _ _ _ _ => opE_value (v := .agg (frA (frY mF qa6 qc6 (gz qs6 qt6 qu6)))) rfl (ldH_f _ rfl q6 rfl (hw.has kq6))
  case o8x1 => exact fun _ _ _ _ _ _ _ _ => opE_move (v := .slice (some ⟨q1, 0, none⟩) 3 3) _ rfl rfl rfl
  case o9x1 =>
    intro L9 ptrs x hw _ _ _ hE
    obtain ⟨⟨tt, bb, h0, b1, b2, kt9, HT9⟩, _⟩ := hE
    refine opX_call (outZ BB ⟨none, true, false⟩) rfl _ 16 Try.call16 rfl rfl _ rfl [.pointer (some ⟨tt, 0, none⟩), .agg (seA 1 (i1 2)), .int .i64 2, .agg (frA (frY mF qa6 qc6 (gz qs6 qt6 qu6))), .slice (some ⟨q1, 0, none⟩) 3 3] (by show [ptrs 0, .agg (seA 1 (i1 2)), .int .i64 2, .agg (frA (frY mF qa6 qc6 (gz qs6 qt6 qu6))), .slice (some ⟨q1, 0, none⟩) 3 3] = _; rw [h0]) ((take_eq _ tt bb 4 [] kt9 HT9 1 (i1 2) (by decide) 2 ⟨by decide, by decide⟩ mF mF_ok qa6 qc6 (gz qs6 qt6 qu6) (dM mF) (HQ6.gro ((Gro.refl _).drew.trans hw)).w rfl mF_i (by decide) ((HQ6.gro ((Gro.refl _).drew.trans hw)).s (by decide)) (some ⟨q1, 0, none⟩) 3 [true, true, true] (HB1.gro ((Gro.refl _).drew.trans hw)) ⟨none, true, false⟩ [(⟨pF, i1 1, i1 2, 2, -1⟩ : En)] (by kernel_rfl) (by kernel_rfl)).mono ?_)
    rintro e w' ⟨ao, n, he, HO, HT2, G2⟩
    refine ⟨_, he, ⟨G2.gro hw (by simpa using Nat.le_trans (Nat.le_of_eq hBB) b2), StM.valsX [1, 2, 3, 4, 5, 6, 7, 8] [10] (by kernel_rfl) ⟨⟨_, rfl⟩, ⟨_, rfl⟩, ⟨_, rfl⟩, ⟨_, rfl⟩, ⟨_, rfl⟩, ⟨_, rfl⟩, ⟨_, rfl⟩, ⟨_, rfl⟩, trivial⟩ (fun j hj v hp => ?_)⟩, ao, n, rfl, HO.mono (Nat.le_trans (Nat.le_of_eq hBB.symm) hw.size)⟩
    rw [List.mem_singleton] at hj
    subst hj
    obtain ⟨g, h1, h2, h3⟩ := hp
    exact ⟨g, h1, h2, G2.has h3 (by simpa using HT9.nec h3)⟩
  case o10x1 => exact fun _ _ x hw _ _ _ _ => opE_new (boxZ BB 41 (edA none 0 false false)) rfl (run_alloc_op 41 rfl _ zvD) (gro_alloc _ _) ⟨_, rfl, Nat.le_trans (Nat.le_of_eq hBB.symm) hw.size, heap_alloc_new _ _⟩
  intro ptrs w11 GD hxE
  simp only [List.drop_succ_cons, List.drop_zero]
  obtain ⟨⟨ao7, n7, hx1, HO7⟩, ⟨gC, hx2, bgC, kgC⟩, _⟩ := hxE
  simp only [hx1, hx2]
  clear hx1 hx2
  obtain ⟨rfl, rfl⟩ := HO7
  have dtgC : t < gC := Nat.lt_of_lt_of_le (hBB ▸ lt_of_heap kt) bgC
  have dq4gC : q4 < gC := Nat.lt_of_lt_of_le (hBB ▸ lt_of_heap kq4) bgC
  have dg1gC : g1 < gC := Nat.lt_of_lt_of_le (hBB ▸ lt_of_heap kg1) bgC
  have dugC : u < gC := Nat.lt_of_lt_of_le (hBB ▸ lt_of_heap ku) bgC
  have dq6gC : q6 < gC := Nat.lt_of_lt_of_le (hBB ▸ lt_of_heap kq6) bgC
  have dg2gC : g2 < gC := Nat.lt_of_lt_of_le (hBB ▸ lt_of_heap kg2) bgC
  have dHB1gC := HB1.neG (g := gC) (Nat.le_trans (Nat.le_of_eq hBB) bgC)
  have dHI3gC := HI3.neG (g := gC) (Nat.le_trans (Nat.le_of_eq hBB) bgC)
  have dHTugC := HTu.neG (g := gC) (Nat.le_trans (Nat.le_of_eq hBB) bgC)
  replace bgC := Nat.le_trans (Nat.le_trans GG.size (Nat.le_of_eq hBB)) bgC
  clear hBB
  replace kt := GD.has kt
  replace kq4 := GD.has kq4
  replace kg1 := GD.has kg1
  replace ku := GD.has ku
  replace kq6 := GD.has kq6
  replace kg2 := GD.has kg2
  replace HB1 := HB1.gro ((Gro.refl _).drew.trans GD)
  replace HI3 := HI3.gro ((Gro.refl _).drew.trans GD)
  replace HQ4 := HQ4.gro ((Gro.refl _).drew.trans GD)
  replace HTu := HTu.gro ((Gro.refl _).drew.trans GD)
  replace HQ6 := HQ6.gro ((Gro.refl _).drew.trans GD)
  replace GG := GG.drew.trans GD
  clear GD
  refine s_store rfl rfl 41 _ _ rfl gC 0 rfl (.agg (edA none 0 true false)) rfl 41 _ kgC (edA none 0 true false) rfl (siD' _ _ _ _) (Nat.le_refl _) (oneD _ _ _ _) (edA none 0 true false) (splice_whole _ _ (rfl)) ?_
  intro w12 St
  have kS := kgC
  replace kt := St.has (by omega) kt
  replace kq4 := St.has (by omega) kq4
  replace kg1 := St.has (by omega) kg1
  replace ku := St.has (by omega) ku
  replace kq6 := St.has (by omega) kq6
  replace kg2 := St.has (by omega) kg2
  replace HB1 := HB1.st St dHB1gC
  replace HI3 := HI3.st St dHI3gC
  replace HQ4 := HQ4.st St kS (by decide)
  replace HTu := HTu.st St dHTugC
  replace HQ6 := HQ6.st St kS (by decide)
  replace GG := GG.store St bgC
  replace kgC := St.new
  clear St
  refine wpList_nil ?_
  refine then_n ?_
  refine wp_seq ?_
  obtain ⟨BB, hBB⟩ : ∃ B, w12.heap.size = B := ⟨_, rfl⟩
  refine wp_region_pm (A := ?Ax2) (fun _ x => Gro w12.drew x) 10 [(0, 84), (1, 85), (2, 86), (3, 87), (4, 88), (5, 89), (6, 90), (7, 91), (8, 92), (9, 8)] [tabZ BB 4, .val (.agg (idA (i1 3))), .val (.agg (seA 2 (i1 3))), .val (.pointer (some ⟨g1, 0, none⟩)), .val (.slice (some ⟨q4, 0, none⟩) 1 1), .val (.pointer (some ⟨q4, 0, none⟩)), .val (.pointer (some ⟨q4, 1, none⟩)), .val (.agg (frA (frY mF qa4 qc4 (gz qs4 qt4 qu4)))), outZ BB ⟨some (0, mDrop pF), false, false⟩, boxZ BB 41 (edA none 0 false false)] [(8, 0)] [8, 9] follows (by kernel_rfl) rfl (by kernel_rfl) (by decide) (Gro.refl _) ?hAx2 (opsM_g (fun _ _ _ h _ g => h.trans g) ?o0x2 (opsM_g (fun _ _ _ h _ g => h.trans g) ?o1x2 (opsM_g (fun _ _ _ h _ g => h.trans g) ?o2x2 (opsM_g (fun _ _ _ h _ g => h.trans g) ?o3x2 (opsM_g (fun _ _ _ h _ g => h.trans g) ?o4x2 (opsM_g (fun _ _ _ h _ g => h.trans g) ?o5x2 (opsM_g (fun _ _ _ h _ g => h.trans g) ?o6x2 (opsM_g (fun _ _ _ h _ g => h.trans g) ?o7x2 (opsM_w ?o8x2 (opsM_g (fun _ _ _ h _ g => h.trans g) ?o9x2 opsM_nil)))))))))) ?restx2
  case hAx2 =>
    intro ptrs
    simp only [full, foldSlots, filledE, postE, List.foldl_cons, List.foldl_nil, List.getD_cons_zero, List.getD_cons_succ, fill_val, fill_tabZ, fill_outZ, fill_boxZ, List.set_cons_zero, List.set_cons_succ]
    exact rfl
  case o0x2 => exact fun _ _ x hw _ _ _ _ => opE_call (tabZ BB 4) rfl _ 23 Try.call23 rfl rfl _ rfl [.int .i64 4] rfl ((new4 _).mono fun e w' ⟨t, b, he, G, k, HT, h1, h2⟩ => ⟨_, he, G, t, b, rfl, Nat.le_trans (Nat.le_trans (Nat.le_of_eq hBB.symm) hw.size) h1, Nat.le_trans (Nat.le_trans (Nat.le_of_eq hBB.symm) hw.size) h2, k, HT⟩)
  case o1x2 => exact fun _ _ _ _ _ _ _ _ => opE_value (v := .agg (idA (i1 3))) rfl (run_bd 24 _ rfl [(0, .int .u8 3)] rfl _ (by kernel_rfl))
  case o2x2 => exact fun _ _ _ _ _ _ _ _ => opE_value (v := .agg (seA 2 (i1 3))) rfl (run_bd 26 _ rfl [(0, .int .i64 2), (1, .agg (idA (i1 3)))] rfl _ (bdS2 _ _ _))
  case o3x2 => exact fun _ _ _ _ _ _ _ _ => opE_value (v := .pointer (some ⟨g1, 0, none⟩)) rfl (run_fld 41 _ 0 rfl g1 0 rfl 0 (by kernel_rfl))
  case o4x2 => exact fun _ _ _ hw _ _ _ _ => opE_value (v := .slice (some ⟨q4, 0, none⟩) 1 1) rfl (ldD_o _ rfl g1 rfl (hw.has kg1))
  case o5x2 => exact fun _ _ _ _ _ _ _ _ => opE_value (v := .pointer (some ⟨q4, 0, none⟩)) rfl (run_ixH q4 _ _ rfl rfl rfl)
  case o6x2 => exact fun _ _ _ _ _ _ _ _ => opE_value (v := .pointer (some ⟨q4, 1, none⟩)) rfl (run_fld 71 _ 1 rfl q4 0 rfl 1 (by kernel_rfl))
  case o7x2 => exact fun _ _ _ hw _ _ _ _ => opE_value (v := .agg (frA (frY mF qa4 qc4 (gz qs4 qt4 qu4)))) rfl (ldH_f _ rfl q4 rfl (hw.has kq4))
  case o8x2 =>
    intro L9 ptrs x hw _ _ _ hE
    obtain ⟨⟨tt, bb, h0, b1, b2, kt9, HT9⟩, _⟩ := hE
    refine opX_call (outZ BB ⟨some (0, mDrop pF), false, false⟩) rfl _ 16 Try.call16 rfl rfl _ rfl [.pointer (some ⟨tt, 0, none⟩), .agg (seA 2 (i1 3)), .int .i64 0, .agg (frA (frY mF qa4 qc4 (gz qs4 qt4 qu4))), .slice none 0 0] (by show [ptrs 0, .agg (seA 2 (i1 3)), .int .i64 0, .agg (frA (frY mF qa4 qc4 (gz qs4 qt4 qu4))), .slice none 0 0] = _; rw [h0]) ((take_eq _ tt bb 4 [] kt9 HT9 2 (i1 3) (by decide) 0 ⟨by decide, by decide⟩ mF mF_ok qa4 qc4 (gz qs4 qt4 qu4) (dM mF) (HQ4.gro ((Gro.refl _).drew.trans hw)).w rfl mF_i (by decide) ((HQ4.gro ((Gro.refl _).drew.trans hw)).s (by decide)) none 0 [] (RK.nil _) ⟨some (0, mDrop pF), false, false⟩ [] (by kernel_rfl) (by kernel_rfl)).mono ?_)
    rintro e w' ⟨ao, n, he, HO, HT2, G2⟩
    refine ⟨_, he, ⟨G2.gro hw (by simpa using Nat.le_trans (Nat.le_of_eq hBB) b2), StM.valsX [1, 2, 3, 4, 5, 6, 7] [9] (by kernel_rfl) ⟨⟨_, rfl⟩, ⟨_, rfl⟩, ⟨_, rfl⟩, ⟨_, rfl⟩, ⟨_, rfl⟩, ⟨_, rfl⟩, ⟨_, rfl⟩, trivial⟩ (fun j hj v hp => ?_)⟩, ao, n, rfl, HO.mono (Nat.le_trans (Nat.le_of_eq hBB.symm) hw.size)⟩
    rw [List.mem_singleton] at hj
    subst hj
    obtain ⟨g, h1, h2, h3⟩ := hp
    exact ⟨g, h1, h2, G2.has h3 (by simpa using HT9.nec h3)⟩
  case o9x2 => exact fun _ _ x hw _ _ _ _ => opE_new (boxZ BB 41 (edA none 0 false false)) rfl (run_alloc_op 41 rfl _ zvD) (gro_alloc _ _) ⟨_, rfl, Nat.le_trans (Nat.le_of_eq hBB.symm) hw.size, heap_alloc_new _ _⟩
  intro ptrs w13 GD hxE
  simp only [List.drop_succ_cons, List.drop_zero]
  obtain ⟨⟨ao8, n8, hx1, HO8⟩, ⟨gD, hx2, bgD, kgD⟩, _⟩ := hxE
  simp only [hx1, hx2]
  clear hx1 hx2
  obtain ⟨q8, qa8, qc8, qs8, qt8, qu8, rfl, rfl, kq8, bq8, HQ8⟩ := HO8
  have nq8gD : q8 ≠ gD := fun e => ne_cells kq8 kgD (by decide) (by simp [e])
  have dtgD : t < gD := Nat.lt_of_lt_of_le (hBB ▸ lt_of_heap kt) bgD
  have dtq8 : t < q8 := Nat.lt_of_lt_of_le (hBB ▸ lt_of_heap kt) bq8
  have dq4gD : q4 < gD := Nat.lt_of_lt_of_le (hBB ▸ lt_of_heap kq4) bgD
  have dq4q8 : q4 < q8 := Nat.lt_of_lt_of_le (hBB ▸ lt_of_heap kq4) bq8
  have dg1gD : g1 < gD := Nat.lt_of_lt_of_le (hBB ▸ lt_of_heap kg1) bgD
  have dg1q8 : g1 < q8 := Nat.lt_of_lt_of_le (hBB ▸ lt_of_heap kg1) bq8
  have dugD : u < gD := Nat.lt_of_lt_of_le (hBB ▸ lt_of_heap ku) bgD
  have duq8 : u < q8 := Nat.lt_of_lt_of_le (hBB ▸ lt_of_heap ku) bq8
  have dq6gD : q6 < gD := Nat.lt_of_lt_of_le (hBB ▸ lt_of_heap kq6) bgD
  have dq6q8 : q6 < q8 := Nat.lt_of_lt_of_le (hBB ▸ lt_of_heap kq6) bq8
  have dg2gD : g2 < gD := Nat.lt_of_lt_of_le (hBB ▸ lt_of_heap kg2) bgD
  have dg2q8 : g2 < q8 := Nat.lt_of_lt_of_le (hBB ▸ lt_of_heap kg2) bq8
  have dgCgD : gC < gD := Nat.lt_of_lt_of_le (hBB ▸ lt_of_heap kgC) bgD
  have dgCq8 : gC < q8 := Nat.lt_of_lt_of_le (hBB ▸ lt_of_heap kgC) bq8
  have dHB1gD := HB1.neG (g := gD) (Nat.le_trans (Nat.le_of_eq hBB) bgD)
  have dHI3gD := HI3.neG (g := gD) (Nat.le_trans (Nat.le_of_eq hBB) bgD)
  have dHTugD := HTu.neG (g := gD) (Nat.le_trans (Nat.le_of_eq hBB) bgD)
  replace bgD := Nat.le_trans (Nat.le_trans GG.size (Nat.le_of_eq hBB)) bgD
  replace bq8 := Nat.le_trans (Nat.le_trans GG.size (Nat.le_of_eq hBB)) bq8
  replace HQ8 := HQ8.mono (Nat.le_trans GG.size (Nat.le_of_eq hBB))
  clear hBB
  replace kt := GD.has kt
  replace kq4 := GD.has kq4
  replace kg1 := GD.has kg1
  replace ku := GD.has ku
  replace kq6 := GD.has kq6
  replace kg2 := GD.has kg2
  replace kgC := GD.has kgC
  replace HB1 := HB1.gro ((Gro.refl _).drew.trans GD)
  replace HI3 := HI3.gro ((Gro.refl _).drew.trans GD)
  replace HQ4 := HQ4.gro ((Gro.refl _).drew.trans GD)
  replace HTu := HTu.gro ((Gro.refl _).drew.trans GD)
  replace HQ6 := HQ6.gro ((Gro.refl _).drew.trans GD)
  replace GG := GG.drew.trans GD
  clear GD
  refine s_store rfl rfl 41 _ _ rfl gD 0 rfl (.agg (edA (some ⟨q8, 0, none⟩) 1 false false)) rfl 41 _ kgD (edA (some ⟨q8, 0, none⟩) 1 false false) rfl (siD' _ _ _ _) (Nat.le_refl _) (oneD _ _ _ _) (edA (some ⟨q8, 0, none⟩) 1 false false) (splice_whole _ _ (rfl)) ?_
  intro w14 St
  have kS := kgD
  replace kt := St.has (by omega) kt
  replace kq4 := St.has (by omega) kq4
  replace kg1 := St.has (by omega) kg1
  replace ku := St.has (by omega) ku
  replace kq6 := St.has (by omega) kq6
  replace kg2 := St.has (by omega) kg2
  replace kgC := St.has (by omega) kgC
  replace kq8 := St.has (by omega) kq8
  replace HB1 := HB1.st St dHB1gD
  replace HI3 := HI3.st St dHI3gD
  replace HQ4 := HQ4.st St kS (by decide)
  replace HTu := HTu.st St dHTugD
  replace HQ6 := HQ6.st St kS (by decide)
  replace HQ8 := HQ8.st St kS (by decide)
  replace GG := GG.store St bgD
  replace kgD := St.new
  clear St
  refine wpList_nil ?_
  refine then_n ?_
  refine wp_seq ?_
  refine wp_region_opq ?_
  intro OPS hY
  have y2 := hY 2 95 rfl
  have y8 := hY 8 101 rfl
  have y14 := hY 14 107 rfl
  have y22 := hY 22 115 rfl
  clear hY
  refine s_val 93 rfl rfl (.pointer (some ⟨gC, 1, none⟩)) (run_fld 41 _ 1 rfl gC 0 rfl 1 (by kernel_rfl)) ?_
  refine nr ?_; intro U h; simp only [z0, z1] at h; subst h
  refine s_val 94 rfl rfl (.bool true) (ldD_m _ rfl gC rfl (kgC)) ?_
  refine nr ?_; intro U h; simp only [z0, z1] at h; subst h
  refine s_val 95 rfl rfl (.bool true) (rfl) ?_
  refine nr ?_; intro U h; simp only [z0, z1] at h; subst h
  refine s_gvalY 96 rfl rfl y2 rfl (.pointer (some ⟨gC, 0, none⟩)) (run_fld 41 _ 0 rfl gC 0 rfl 0 (by kernel_rfl)) ?_
  refine nr ?_; intro U h; simp only [z0, z1] at h; subst h
  refine s_gvalY 97 rfl rfl y2 rfl (.slice none 0 0) (ldD_o _ rfl gC rfl (kgC)) ?_
  refine nr ?_; intro U h; simp only [z0, z1] at h; subst h
  refine s_gvalY 98 rfl rfl y2 rfl (.int .i64 0) (run_len Try.underlying39 _ rfl _ _ _ rfl _) ?_
  refine nr ?_; intro U h; simp only [z0, z1] at h; subst h
  refine s_gvalY 99 rfl rfl y2 rfl (.bool true) (run_eq_k 3 .i64 _ _ _ rfl Try.underlying3 0 0 rfl rfl true (by decide) _) ?_
  refine nr ?_; intro U h; simp only [z0, z1] at h; subst h
  refine s_val 100 rfl rfl (.bool true) (rfl) ?_
  refine nr ?_; intro U h; simp only [z0, z1] at h; subst h
  refine s_val 101 rfl rfl (.bool true) (rfl) ?_
  refine nr ?_; intro U h; simp only [z0, z1] at h; subst h
  refine s_gvalY 102 rfl rfl y8 rfl (.pointer (some ⟨gD, 0, none⟩)) (run_fld 41 _ 0 rfl gD 0 rfl 0 (by kernel_rfl)) ?_
  refine nr ?_; intro U h; simp only [z0, z1] at h; subst h
  refine s_gvalY 103 rfl rfl y8 rfl (.slice (some ⟨q8, 0, none⟩) 1 1) (ldD_o _ rfl gD rfl (kgD)) ?_
  refine nr ?_; intro U h; simp only [z0, z1] at h; subst h
  refine s_gvalY 104 rfl rfl y8 rfl (.int .i64 1) (run_len Try.underlying39 _ rfl _ _ _ rfl _) ?_
  refine nr ?_; intro U h; simp only [z0, z1] at h; subst h
  refine s_gvalY 105 rfl rfl y8 rfl (.bool true) (run_eq_k 3 .i64 _ _ _ rfl Try.underlying3 1 1 rfl rfl true (by decide) _) ?_
  refine nr ?_; intro U h; simp only [z0, z1] at h; subst h
  refine s_val 106 rfl rfl (.bool true) (rfl) ?_
  refine nr ?_; intro U h; simp only [z0, z1] at h; subst h
  refine s_val 107 rfl rfl (.bool true) (rfl) ?_
  refine nr ?_; intro U h; simp only [z0, z1] at h; subst h
  refine s_gvalY 108 rfl rfl y14 rfl (.pointer (some ⟨gD, 0, none⟩)) (run_fld 41 _ 0 rfl gD 0 rfl 0 (by kernel_rfl)) ?_
  refine nr ?_; intro U h; simp only [z0, z1] at h; subst h
  refine s_gvalY 109 rfl rfl y14 rfl (.slice (some ⟨q8, 0, none⟩) 1 1) (ldD_o _ rfl gD rfl (kgD)) ?_
  refine nr ?_; intro U h; simp only [z0, z1] at h; subst h
  refine s_gvalY 110 rfl rfl y14 rfl (.pointer (some ⟨q8, 0, none⟩)) (run_ixH q8 _ _ rfl rfl rfl) ?_
  refine nr ?_; intro U h; simp only [z0, z1] at h; subst h
  refine s_gvalY 111 rfl rfl y14 rfl (.pointer (some ⟨q8, 0, none⟩)) (run_fld 71 _ 0 rfl q8 0 rfl 0 (by kernel_rfl)) ?_
  refine nr ?_; intro U h; simp only [z0, z1] at h; subst h
  refine s_gvalY 112 rfl rfl y14 rfl (.int .i64 0) (ldH_n _ rfl q8 rfl (kq8)) ?_
  refine nr ?_; intro U h; simp only [z0, z1] at h; subst h
  refine s_gvalY 113 rfl rfl y14 rfl (.bool true) (run_eq_k 3 .i64 _ _ _ rfl Try.underlying3 0 0 rfl rfl true (by decide) _) ?_
  refine nr ?_; intro U h; simp only [z0, z1] at h; subst h
  refine s_val 114 rfl rfl (.bool true) (rfl) ?_
  refine nr ?_; intro U h; simp only [z0, z1] at h; subst h
  refine s_val 115 rfl rfl (.bool true) (rfl) ?_
  refine nr ?_; intro U h; simp only [z0, z1] at h; subst h
  refine s_gvalY 116 rfl rfl y22 rfl (.pointer (some ⟨gD, 0, none⟩)) (run_fld 41 _ 0 rfl gD 0 rfl 0 (by kernel_rfl)) ?_
  refine nr ?_; intro U h; simp only [z0, z1] at h; subst h
  refine s_gvalY 117 rfl rfl y22 rfl (.slice (some ⟨q8, 0, none⟩) 1 1) (ldD_o _ rfl gD rfl (kgD)) ?_
  refine nr ?_; intro U h; simp only [z0, z1] at h; subst h
  refine s_gvalY 118 rfl rfl y22 rfl (.pointer (some ⟨q8, 0, none⟩)) (run_ixH q8 _ _ rfl rfl rfl) ?_
  refine nr ?_; intro U h; simp only [z0, z1] at h; subst h
  refine s_gvalY 119 rfl rfl y22 rfl (.pointer (some ⟨q8, 1, none⟩)) (run_fld 71 _ 1 rfl q8 0 rfl 1 (by kernel_rfl)) ?_
  refine nr ?_; intro U h; simp only [z0, z1] at h; subst h
  refine s_gvalY 120 rfl rfl y22 rfl (.pointer (some ⟨q8, 1, none⟩)) (run_fld 64 _ 0 rfl q8 1 rfl 1 (by kernel_rfl)) ?_
  refine nr ?_; intro U h; simp only [z0, z1] at h; subst h
  refine s_gvalY 121 rfl rfl y22 rfl (.int .i64 5) (ldH_k _ rfl q8 rfl (kq8)) ?_
  refine nr ?_; intro U h; simp only [z0, z1] at h; subst h
  refine s_gvalY 122 rfl rfl y22 rfl (.bool true) (run_eq_k 3 .i64 _ _ _ rfl Try.underlying3 5 5 rfl rfl true (by decide) _) ?_
  refine nr ?_; intro U h; simp only [z0, z1] at h; subst h
  refine s_val 123 rfl rfl (.bool true) (rfl) ?_
  refine nr ?_; intro U h; simp only [z0, z1] at h; subst h
  refine s_val 0 rfl rfl (.bool true) (rfl) ?_
  refine nr ?_; intro U h; simp only [z0] at h; subst h
  refine wpList_nil ?_
  refine then_n ?_
  refine wp_ret ?_
  refine bodyPost_ret (results_tmp Try.results11 _ _ _) rfl ?_
  exact ⟨rfl, GG⟩
end Go.Proofs.Ytkjnefgenffhcaa
