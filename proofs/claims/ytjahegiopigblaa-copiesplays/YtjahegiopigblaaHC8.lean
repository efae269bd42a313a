/- The program's Retain. -/
import Derived.Test.YtjahegiopigblaaHC6
import Derived.Test.YtjahegiopigblaaHBS
import Derived.Test.YtjahegiopigblaaHSP
namespace Go.Proofs.Ytjahegiopigblaa
open Go.RowKit
/-- What is left while others are taken away: what has come and is left stays. -/
structure RtI (L0 L R : List ((Nat × Nat) × VM)) (l : List Nat) : Prop where
  kn : KNM L
  sub : ∀ x ∈ L, x ∈ L0
  keep : ∀ x ∈ L0, x.1.1 ∈ l → x ∈ L
  come : ∀ x ∈ L, x ∈ R ∨ x.1.1 ∈ l
theorem RtI.start {L : List ((Nat × Nat) × VM)} {l : List Nat} (h : KNM L) : RtI L L L l := ⟨h, fun _ h => h, fun _ h _ => h, fun _ h => .inl h⟩
theorem RtI.stay {L0 L R : List ((Nat × Nat) × VM)} {l : List Nat} (h : RtI L0 L R l) {x : (Nat × Nat) × VM} (hx : x.1.1 ∈ l) : RtI L0 L (delM R x.1) l :=
  ⟨h.kn, h.sub, h.keep, fun y hy => by
    rcases h.come y hy with h1 | h1
    · by_cases e : y.1 = x.1
      · exact .inr (e ▸ hx)
      · exact .inl (List.mem_filter.2 ⟨h1, decide_eq_true e⟩)
    · exact .inr h1⟩
theorem RtI.gone {L0 L R : List ((Nat × Nat) × VM)} {l : List Nat} (h : RtI L0 L R l) {x : (Nat × Nat) × VM} (hx : x.1.1 ∉ l) : RtI L0 (delM L x.1) (delM R x.1) l :=
  ⟨delM_kn h.kn _, fun y hy => h.sub y (List.mem_filter.1 hy).1, fun y hy hl => List.mem_filter.2 ⟨h.keep y hy hl, decide_eq_true fun e => hx (e ▸ hl)⟩, fun y hy => by
    obtain ⟨h1, h2⟩ := List.mem_filter.1 hy
    exact (h.come y h1).imp (fun h3 => List.mem_filter.2 ⟨h3, h2⟩) id⟩
theorem RtI.get {L0 L : List ((Nat × Nat) × VM)} {l : List Nat} (h : RtI L0 L [] l) (_h0 : KNM L0) (p : Nat × Nat) : getM L p = if p.1 ∈ l then getM L0 p else none := by
  by_cases c : p.1 ∈ l
  · rw [if_pos c]
    cases e : getM L0 p with
    | some v => exact (getM_iff h.kn).2 (h.keep _ (getM_some e) c)
    | none =>
      cases e2 : getM L p with
      | none => rfl
      | some v => exact absurd rfl (getM_none e _ (h.sub _ (getM_some e2)))
  · rw [if_neg c]
    cases e2 : getM L p with
    | none => rfl
    | some v =>
      rcases h.come _ (getM_some e2) with h1 | h1
      · cases h1
      · exact absurd h1 c
theorem delM_none {R : List ((Nat × Nat) × VM)} (p : Nat × Nat) : ∀ y ∈ delM R p, y.1 ≠ p := fun _y hy => of_decide_eq_true (List.mem_filter.1 hy).2
theorem bsS {co : Option Addr} {cc n i : Nat} {S : List Nat} {v : Value} {w : World} {R : Ending → World → Prop} (h : S.length = n) (H : Calls Try.prog 39 #[.slice co S.length cc, .agg (idA i), v] w R) : Calls Try.prog 39 #[.slice co n cc, .agg (idA i), v] w R := h ▸ H
set_option maxRecDepth 100000 in
set_option maxHeartbeats 4000000 in
theorem retain_any (g mb : Nat) (ao : Option Addr) (cap : Nat) (l : List Nat) (L : List ((Nat × Nat) × VM)) (w : World) (kg : w.heap[g]? = some (.cells (bkA mb) 75 (0, 0))) (HM : TB w mb L) (HL : RK kI w ao cap l) (hll : l.length ≤ 1000000) : Calls Try.prog 21 #[.pointer (some ⟨g, 0, none⟩), .slice ao l.length cap] w (fun e w' => e = .returned (.tuple #[]) ∧ GroS [mb] w w' ∧ ∃ L2, TB w' mb L2 ∧ (∀ p, getM L2 p = if p.1 ∈ l then getM L p else none) ∧ ∀ x ∈ L2, x ∈ L) := by
  refine s_enter Try.func21 rfl Try.ntmps21 [.pointer (some ⟨g, 0, none⟩), .slice ao l.length cap] [.pointer (some ⟨g, 0, none⟩), .slice ao l.length cap, undef, undef, undef, undef, undef, undef, undef, undef, undef, undef, undef, undef, undef, undef, undef, undef, undef, undef, undef, undef, undef, undef, undef, undef, undef, undef, undef, undef, undef, undef, undef, undef, undef, undef, undef] rfl ?_
  have GG := GroS.refl [mb] w
  refine wp_seq ?_
  refine wp_seq ?_
  refine wp_region_lit ?_
  refine s_val 8 rfl rfl (.pointer (some ⟨g, 0, none⟩)) (rfl) ?_
  refine nr ?_; intro U h; simp only [z0, z1] at h; subst h
  refine s_val 9 rfl rfl (.bool false) (run_eqnp 32 _ _ _ rfl _ rfl rfl Try.underlying32 _) ?_
  refine nr ?_; intro U h; simp only [z0, z1] at h; subst h
  refine wpList_nil ?_
  refine then_n ?_
  refine wp_cond_false rfl ?_
  refine wp_skip ?_
  refine then_n ?_
  refine wp_seq ?_
  refine wp_region_lit ?_
  refine s_val 10 rfl rfl (.slice ao l.length cap) (rfl) ?_
  refine nr ?_; intro U h; simp only [z0, z1] at h; subst h
  refine s_callx 11 rfl rfl _ 36 Try.call36 rfl rfl _ rfl [.slice ao l.length cap] rfl (cloneI_any ao cap l _ HL hll) (by rintro _ _ ⟨_, _, he, _, _⟩; exact ⟨_, he⟩) ?_
  rintro v w1 ⟨co, cc, he, G, HO⟩
  cases he
  replace kg := G.has kg
  replace HM := HM.gro G
  replace GG := GG.tg G
  clear G
  refine nr ?_; intro U h; simp only [z0, z1] at h; subst h
  refine s_val 4 rfl rfl (.slice co l.length cc) (rfl) ?_
  refine nr ?_; intro U h; simp only [z0, z1] at h; subst h
  refine wpList_nil ?_
  refine then_n ?_
  refine wp_seq ?_
  refine wp_region_lit ?_
  refine s_val 12 rfl rfl (.slice co l.length cc) (rfl) ?_
  refine nr ?_; intro U h; simp only [z0, z1] at h; subst h
  refine s_callx 13 rfl rfl _ 37 Try.call37 rfl rfl _ rfl [.slice co l.length cc, .func (.func 38) #[] #[]] rfl (sortO_any _ _ co cc l HO hll) (by rintro _ _ ⟨he, _, _, _, _, _⟩; exact ⟨_, he⟩) ?_
  rintro v w2 ⟨he, S, hS, hP, G, HS⟩
  cases he
  have hkg := HO.own.ne kg (by decide)
  replace kg := G.has kg hkg
  have hmb : mb ∉ Go.Proofs.Ytjahegiopigblaa.blk co := fun hm => by obtain ⟨cur, hc⟩ := (HO.own.at _ hm).2; exact HM.nec hc rfl
  replace HM := HM.gros G hmb
  replace GG := G.gros GG (fun k hk => .inr (HO.own.base k hk))
  have hSl := hS.length_eq
  clear HO G hkg hmb
  refine nr ?_; intro U h; simp only [z0, z1] at h; subst h
  refine wpList_nil ?_
  refine then_n ?_
  refine wp_seq ?_
  refine wp_region_lit ?_
  refine s_val 14 rfl rfl (.pointer (some ⟨g, 0, none⟩)) (rfl) ?_
  refine nr ?_; intro U h; simp only [z0, z1] at h; subst h
  refine s_val 15 rfl rfl (.pointer (some ⟨g, 0, none⟩)) (run_nc _ rfl _ rfl) ?_
  refine nr ?_; intro U h; simp only [z0, z1] at h; subst h
  refine s_val 16 rfl rfl (.pointer (some ⟨g, 0, none⟩)) (run_fld 75 _ 0 rfl g 0 rfl 0 (by kernel_rfl)) ?_
  refine nr ?_; intro U h; simp only [z0, z1] at h; subst h
  refine s_val 17 rfl rfl (.map (some mb)) (ldBk _ rfl g rfl (kg)) ?_
  refine nr ?_; intro U h; simp only [z0, z1] at h; subst h
  have hkn := HM.kn
  refine s_rangeM mB 18 rfl rfl _ rfl HM rfl ?_
  intro w3 r HR0 G er es
  have br := size_basS GG er
  have HR := HR0.all0
  clear HR0 HM er es
  replace kg := G.has kg
  replace HS := HS.gro G
  replace GG := GG.tg G
  clear G
  refine nr ?_; intro U h; simp only [z0, z1] at h; subst h
  refine wpList_nil ?_
  refine then_n ?_
  refine wp_block ?_
  refine wp_loopN (fun mz az wv => ∃ (Lc : List ((Nat × Nat) × VM)) (R : List ((Nat × Nat) × VM)) (us1 : Nat → Value), mz = R.length ∧ az = ⟨[.pointer (some ⟨g, 0, none⟩), .slice ao l.length cap, undef, undef, .slice co l.length cc, us1 0, us1 1, us1 2, .pointer (some ⟨g, 0, none⟩), .bool false, .slice ao l.length cap, .slice co l.length cc, .slice co l.length cc, .tuple #[], .pointer (some ⟨g, 0, none⟩), .pointer (some ⟨g, 0, none⟩), .pointer (some ⟨g, 0, none⟩), .map (some mb), .pointer (some ⟨r, 0, none⟩), us1 3, us1 4, us1 5, us1 6, us1 7, us1 8, us1 9, us1 10, us1 11, us1 12, us1 13, us1 14, us1 15, us1 16, us1 17, us1 18, us1 19, us1 20].toArray, []⟩ ∧ GroS [mb] w wv ∧ wv.heap[g]? = some (.cells (bkA mb) 75 (0, 0)) ∧ OW kI 23 wv w.heap.size co cc S ∧ RgDM kvB okB evB wv mb r Lc R ∧ RtI L Lc R l) ?_ _ ⟨L, L, (fun kz => ([undef, undef, undef, undef, undef, undef, undef, undef, undef, undef, undef, undef, undef, undef, undef, undef, undef, undef, undef, undef, undef] : List Value).getD kz undef), rfl, rfl, GG, kg, HS, HR, RtI.start hkn⟩
  clear GG kg HS
  rintro mz az wv ⟨Lc, R, us1, rfl, rfl, GG, kg, HS, HR, HI⟩
  refine wp_seq ?_
  refine wp_region_lit ?_
  refine s_nextD 19 rfl rfl _ rfl HR rfl ?_ ?_
  · intro hR0
    refine nr ?_; intro U h; simp only at h; subst h
    refine s_val 20 rfl rfl (.bool false) (rfl) ?_
    refine nr ?_; intro U h; simp only [z0, z1] at h; subst h
    refine wpList_nil ?_
    refine then_n ?_
    refine wp_seq ?_
    refine wp_cond_false rfl ?_
    refine wp_exit ?_
    refine then_x ?_
    refine then_x ?_
    refine blk_x ?_
    refine post_n (results_none Try.results21 _ _ _) rfl ?_
    subst hR0
    exact ⟨rfl, GG, Lc, HR.tm, fun p => HI.get hkn p, HI.sub⟩
  · intro x w4 hxR HR1 G he
    have hxo := HR.tm.all x (HR.sub x hxR)
    have hri := HR.lt
    have hrb : r ∉ Go.Proofs.Ytjahegiopigblaa.blk co := fun hm => by obtain ⟨cur, hc⟩ := (HS.own.at _ hm).2; obtain ⟨_, _, _, _, h2, _⟩ := HR; rw [hc] at h2; cases h2
    replace kg := G.has kg (fun hm => by obtain ⟨_, _, _, _, h2, _⟩ := HR; rw [← List.mem_singleton.1 hm, kg] at h2; cases h2)
    replace HS := HS.gros G (fun k hk hm => hrb (List.mem_singleton.1 hm ▸ hk))
    replace GG := G.gros GG (fun k hk => .inr (by rw [List.mem_singleton.1 hk]; exact br))
    clear HR
    have HR := HR1
    clear HR1 G hri hrb
    refine nr ?_; intro U h; simp only [z0, z1] at h; subst h
    refine s_val 20 rfl rfl (.bool true) (rfl) ?_
    refine nr ?_; intro U h; simp only [z0, z1] at h; subst h
    refine wpList_nil ?_
    refine then_n ?_
    refine wp_seq ?_
    refine wp_cond_true rfl ?_
    refine wp_skip ?_
    refine then_n ?_
    refine wp_block ?_
    refine wp_seq ?_
    refine wp_region_lit ?_
    refine s_val 21 rfl rfl (.tuple #[.agg (abA x.1), evB x.2]) (run_entM _ rfl _ rfl he) ?_
    refine nr ?_; intro U h; simp only [z0, z1] at h; subst h
    refine s_val 22 rfl rfl (.agg (abA x.1)) (rfl) ?_
    refine nr ?_; intro U h; simp only [z0, z1] at h; subst h
    refine s_alloc 5 rfl rfl 77 rfl _ zeroab77 (abA (0, 0)) rfl ?_
    intro w5 g1 G eg1 kg1
    have bg1 := size_basS GG eg1
    have dgg1 := lt_new kg eg1
    have dHSg1 := HS.ne eg1
    have dHRg1 := HR.ne eg1
    replace kg := G.has kg
    replace HS := HS.gro G
    replace HR := HR.gro G
    replace GG := GG.tg G
    clear G
    clear eg1
    refine nr ?_; intro U h; simp only [z0, z1] at h; subst h
    refine s_store rfl rfl 77 _ _ rfl g1 0 rfl (.agg (abA x.1)) rfl 77 _ kg1 (abA x.1) rfl (siab77' _) (abA_fit _ _) (abA_one _) (abA x.1) (splice_whole _ _ (abA_sz _ _)) ?_
    intro w6 St
    replace kg := St.has (by omega) kg
    replace HS := HS.st St dHSg1
    replace HR := HR.st St dHRg1
    replace GG := GG.st St (.inl bg1)
    replace kg1 := St.new
    clear St
    refine wpList_nil ?_
    refine then_n ?_
    refine wp_seq ?_
    clear he
    cases k1 : decide (x.1.1 ∈ l)
    · refine wp_region_lit ?_
      refine s_val 24 rfl rfl (.slice co l.length cc) (rfl) ?_
      refine nr ?_; intro U h; simp only [z0, z1] at h; subst h
      refine s_val 25 rfl rfl (.pointer (some ⟨g1, 0, none⟩)) (run_fld 77 _ 0 rfl g1 0 rfl 0 (by kernel_rfl)) ?_
      refine nr ?_; intro U h; simp only [z0, z1] at h; subst h
      refine s_val 26 rfl rfl (.agg (idA x.1.1)) (ldAb1 _ rfl g1 rfl (kg1)) ?_
      refine nr ?_; intro U h; simp only [z0, z1] at h; subst h
      refine s_callx 27 rfl rfl _ 39 Try.call39 rfl rfl _ rfl [.slice co l.length cc, .agg (idA x.1.1), .func (.func 38) #[] #[]] rfl (bsS hSl (bsearch_any _ co cc S HS.re (by omega) hP x.1.1 hxo.1)) (by rintro _ _ ⟨_, he, _⟩; exact ⟨_, he⟩) ?_
      rintro v w7 ⟨bi, he, G⟩
      rw [show decide (x.1.1 ∈ S) = false from (decide_eq_decide.2 hS.mem_iff).trans k1] at he
      cases he
      replace kg := G.has kg
      replace kg1 := G.has kg1
      replace HS := HS.gro G
      replace HR := HR.gro G
      replace GG := GG.tg G
      clear G
      refine nr ?_; intro U h; simp only [z0, z1] at h; subst h
      refine s_val 23 rfl rfl (.tuple #[.int .i64 ((bi : Nat) : Int), .bool false]) (rfl) ?_
      refine nr ?_; intro U h; simp only [z0, z1] at h; subst h
      refine s_val 28 rfl rfl (.int .i64 ((bi : Nat) : Int)) (rfl) ?_
      refine nr ?_; intro U h; simp only [z0, z1] at h; subst h
      refine s_val 29 rfl rfl (.bool false) (rfl) ?_
      refine nr ?_; intro U h; simp only [z0, z1] at h; subst h
      refine s_val 6 rfl rfl (.int .i64 ((bi : Nat) : Int)) (rfl) ?_
      refine nr ?_; intro U h; simp only [z0, z1] at h; subst h
      refine s_val 7 rfl rfl (.bool false) (rfl) ?_
      refine nr ?_; intro U h; simp only [z0, z1] at h; subst h
      refine wpList_nil ?_
      refine then_n ?_
      refine wp_seq ?_
      refine wp_region_lit ?_
      refine s_val 30 rfl rfl (.bool false) (rfl) ?_
      refine nr ?_; intro U h; simp only [z0, z1] at h; subst h
      refine s_val 31 rfl rfl (.bool true) (run_nt _ _ rfl false rfl) ?_
      refine nr ?_; intro U h; simp only [z0, z1] at h; subst h
      refine wpList_nil ?_
      refine then_n ?_
      refine wp_cond_true rfl ?_
      refine wp_region_exA (A := ?Ax1) 5 [(0, 32), (1, 33), (2, 34), (3, 35), (4, 36)] [.val (.pointer (some ⟨g, 0, none⟩)), .val (.pointer (some ⟨g, 0, none⟩)), .val (.pointer (some ⟨g, 0, none⟩)), .val (.map (some mb)), .val (.agg (abA x.1))] follows (by kernel_rfl) rfl ?hAx1 (opsA_cons ?o0x1 (opsA_cons ?o1x1 (opsA_cons ?o2x1 (opsA_cons ?o3x1 (opsA_cons ?o4x1 opsA_nil))))) ?restx1
      case hAx1 =>
        intro ptrs
        simp only [full, foldSlots, filledE, postE, List.foldl_cons, List.foldl_nil, List.getD_cons_zero, List.getD_cons_succ, fill_val, List.set_cons_zero, List.set_cons_succ]
        exact rfl
      case o0x1 => exact fun _ _ _ _ => opE_move (v := .pointer (some ⟨g, 0, none⟩)) _ rfl rfl rfl
      case o1x1 => exact fun _ _ _ _ => opE_value (v := .pointer (some ⟨g, 0, none⟩)) rfl (run_nc _ rfl _ rfl)
      case o2x1 => exact fun _ _ _ _ => opE_value (v := .pointer (some ⟨g, 0, none⟩)) rfl (run_fld 75 _ 0 rfl g 0 rfl 0 (by kernel_rfl))
      case o3x1 => exact fun _ _ hw _ => opE_value (v := .map (some mb)) rfl (ldBk _ rfl g rfl (hw.has kg))
      case o4x1 => exact fun _ _ hw _ => opE_value (v := .agg (abA x.1)) rfl (ldAb0 _ rfl g1 rfl (hw.has kg1))
      intro ptrs w8 GD hxE
      simp only [List.drop_succ_cons, List.drop_zero]
      replace kg := GD.has kg
      replace kg1 := GD.has kg1
      replace HS := HS.gro ((Gro.refl _).drew.trans GD)
      replace HR := HR.gro ((Gro.refl _).drew.trans GD)
      replace GG := GG.drew.tg GD
      clear GD
      refine s_delD mB rfl rfl _ _ rfl HR rfl x.1 rfl hxo (delM_none x.1) ?_
      intro w9 HR1 G
      replace kg := G.has kg (fun hm => HR.tm.nec kg (List.mem_singleton.1 hm))
      replace HS := HS.gros G (fun k hk hm => by obtain ⟨cur, hc⟩ := (HS.own.at _ hk).2; exact HR.tm.nec hc (List.mem_singleton.1 hm))
      replace GG := GG.trans G
      clear HR
      have HR := HR1
      clear HR1 G
      refine wpList_nil ?_
      refine blk_n ?_
      refine then_n ?_
      exact ⟨_, RgDM.len_lt hxR, _, _, (fun kz => ([.pointer (some ⟨g1, 0, none⟩), .int .i64 ((bi : Nat) : Int), .bool false, .tuple #[.bool true, kvB x.1, evB x.2], .bool true, .tuple #[.agg (abA x.1), evB x.2], .agg (abA x.1), .tuple #[.int .i64 ((bi : Nat) : Int), .bool false], .slice co l.length cc, .pointer (some ⟨g1, 0, none⟩), .agg (idA x.1.1), .tuple #[.int .i64 ((bi : Nat) : Int), .bool false], .int .i64 ((bi : Nat) : Int), .bool false, .bool false, .bool true, .pointer (some ⟨g, 0, none⟩), .pointer (some ⟨g, 0, none⟩), .pointer (some ⟨g, 0, none⟩), .map (some mb), .agg (abA x.1)] : List Value).getD kz undef), rfl, rfl, GG, kg, HS, HR, HI.gone (of_decide_eq_false k1)⟩
    · refine wp_region_lit ?_
      refine s_val 24 rfl rfl (.slice co l.length cc) (rfl) ?_
      refine nr ?_; intro U h; simp only [z0, z1] at h; subst h
      refine s_val 25 rfl rfl (.pointer (some ⟨g1, 0, none⟩)) (run_fld 77 _ 0 rfl g1 0 rfl 0 (by kernel_rfl)) ?_
      refine nr ?_; intro U h; simp only [z0, z1] at h; subst h
      refine s_val 26 rfl rfl (.agg (idA x.1.1)) (ldAb1 _ rfl g1 rfl (kg1)) ?_
      refine nr ?_; intro U h; simp only [z0, z1] at h; subst h
      refine s_callx 27 rfl rfl _ 39 Try.call39 rfl rfl _ rfl [.slice co l.length cc, .agg (idA x.1.1), .func (.func 38) #[] #[]] rfl (bsS hSl (bsearch_any _ co cc S HS.re (by omega) hP x.1.1 hxo.1)) (by rintro _ _ ⟨_, he, _⟩; exact ⟨_, he⟩) ?_
      rintro v w7 ⟨bi, he, G⟩
      rw [show decide (x.1.1 ∈ S) = true from (decide_eq_decide.2 hS.mem_iff).trans k1] at he
      cases he
      replace kg := G.has kg
      replace kg1 := G.has kg1
      replace HS := HS.gro G
      replace HR := HR.gro G
      replace GG := GG.tg G
      clear G
      refine nr ?_; intro U h; simp only [z0, z1] at h; subst h
      refine s_val 23 rfl rfl (.tuple #[.int .i64 ((bi : Nat) : Int), .bool true]) (rfl) ?_
      refine nr ?_; intro U h; simp only [z0, z1] at h; subst h
      refine s_val 28 rfl rfl (.int .i64 ((bi : Nat) : Int)) (rfl) ?_
      refine nr ?_; intro U h; simp only [z0, z1] at h; subst h
      refine s_val 29 rfl rfl (.bool true) (rfl) ?_
      refine nr ?_; intro U h; simp only [z0, z1] at h; subst h
      refine s_val 6 rfl rfl (.int .i64 ((bi : Nat) : Int)) (rfl) ?_
      refine nr ?_; intro U h; simp only [z0, z1] at h; subst h
      refine s_val 7 rfl rfl (.bool true) (rfl) ?_
      refine nr ?_; intro U h; simp only [z0, z1] at h; subst h
      refine wpList_nil ?_
      refine then_n ?_
      refine wp_seq ?_
      refine wp_region_lit ?_
      refine s_val 30 rfl rfl (.bool true) (rfl) ?_
      refine nr ?_; intro U h; simp only [z0, z1] at h; subst h
      refine s_val 31 rfl rfl (.bool false) (run_nt _ _ rfl true rfl) ?_
      refine nr ?_; intro U h; simp only [z0, z1] at h; subst h
      refine wpList_nil ?_
      refine then_n ?_
      refine wp_cond_false rfl ?_
      refine wp_skip ?_
      refine blk_n ?_
      refine then_n ?_
      exact ⟨_, RgDM.len_lt hxR, Lc, _, (fun kz => ([.pointer (some ⟨g1, 0, none⟩), .int .i64 ((bi : Nat) : Int), .bool true, .tuple #[.bool true, kvB x.1, evB x.2], .bool true, .tuple #[.agg (abA x.1), evB x.2], .agg (abA x.1), .tuple #[.int .i64 ((bi : Nat) : Int), .bool true], .slice co l.length cc, .pointer (some ⟨g1, 0, none⟩), .agg (idA x.1.1), .tuple #[.int .i64 ((bi : Nat) : Int), .bool true], .int .i64 ((bi : Nat) : Int), .bool true, .bool true, .bool false, us1 16, us1 17, us1 18, us1 19, us1 20] : List Value).getD kz undef), rfl, rfl, GG, kg, HS, HR, HI.stay (of_decide_eq_true k1)⟩
end Go.Proofs.Ytjahegiopigblaa
