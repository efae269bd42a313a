/- A path begins, a Setup comes: the document's. -/
import Derived.Test.YtkjnefgenffhcaaCZ3
import Derived.Test.YtkjnefgenffhcaaCP16
namespace Go.Proofs.Ytkjnefgenffhcaa
open Go.RowKit Go.Maps
def RStaP (w : World) (r room : Nat) (E : Ed) (c : Int) (L : List En) (e : Ending) (w' : World) : Prop := ∃ ao n, e = .returned (.tuple #[.agg (edA ao n E.mine E.full), .int .i64 c]) ∧ OutP w' w.heap.size E.out ao n ∧ ∃ ra rc, w'.heap[r]? = some (.cells (rbA ra L.length rc room) 53 (0, 0)) ∧ OE w' 0 ra rc L ∧ GroS [r] w w'
def rowZ (B : Nat) : PostE := PostE.ex (fun v x => ∃ ao, v = .slice ao 0 0 ∧ OY x 3 1 B ao 0 0 []) (fun _ _ _ G ⟨a, h1, h2⟩ => ⟨a, h1, h2.gro G⟩)
theorem fill_rowZ (B : Nat) (v : Value) : (rowZ B).fill v = v := rfl
def ownZ (B : Nat) (L : List Int) : PostE := PostE.ex (fun v x => ∃ ao cap, v = .slice ao L.length cap ∧ OY x 3 1 B ao cap L.length (ci L)) (fun _ _ _ G ⟨a, c, h1, h2⟩ => ⟨a, c, h1, h2.gro G⟩)
theorem fill_ownZ (B : Nat) (L : List Int) (v : Value) : (ownZ B L).fill v = v := rfl
def frZ (B : Nat) (M : Msg) : PostE := PostE.ex (fun v x => ∃ ao cap, v = .agg (frA (frY M ao cap gN)) ∧ OY x 3 1 B ao cap M.l.length (ci M.l)) (fun _ _ _ G ⟨a, c, h1, h2⟩ => ⟨a, c, h1, h2.gro G⟩)
theorem fill_frZ (B : Nat) (M : Msg) (v : Value) : (frZ B M).fill v = v := rfl
def boxZ (B : Nat) (t : TypeId) (cs : Array Value) : PostE := PostE.ex (fun v x => ∃ g, v = .pointer (some ⟨g, 0, none⟩) ∧ B ≤ g ∧ x.heap[g]? = some (.cells cs t (0, 0))) (fun _ _ _ G ⟨g, h1, h2, h3⟩ => ⟨g, h1, h2, G.has h3⟩)
theorem fill_boxZ (B : Nat) (t : TypeId) (cs : Array Value) (v : Value) : (boxZ B t cs).fill v = v := rfl
theorem OY.stT {w w' : World} {sz B : Nat} {e : TypeId} {ao : Option Addr} {cap n g : Nat} {cs : List Value} {c c' : Array Value} {t : TypeId} (h : OY w e sz B ao cap n cs) (St : Stored w w' g (.cells c' t (0, 0))) (kg : w.heap[g]? = some (.cells c t (0, 0))) (ht : t ≠ e) : OY w' e sz B ao cap n cs :=
  h.gros St.gros fun k hk hm => by
    rw [List.mem_singleton] at hm
    subst hm
    exact h.ne kg ht hk
set_option maxRecDepth 100000 in
set_option maxHeartbeats 4000000 in
theorem rstart_any (w : World) (r room : Nat) (ra : Option Addr) (rc : Nat) (L : List En) (kr : w.heap[r]? = some (.cells (rbA ra L.length rc room) 53 (0, 0))) (HL : OE w 0 ra rc L) (hLb : L.length ≤ 1000) (hKn : KN L) (N : Int) (i : Nat) (hi : i < top) (p : Pa) (hp : p.ok) (c : Nat) (hcc : c < top) (ao : Option Addr) (cap : Nat) (way : List Int) (HI : RC w ao cap way) (dHIr : NE ao (ci way).length r) (hwl : way.length ≤ 17592186044416) (ap : Option Addr) (cq : Nat) (o : List Bool) (HB : RK kB w ap cq o) (dHBr : NE ap (o.flatMap kB.E).length r) : Calls Try.prog 10 #[.pointer (some ⟨r, 0, none⟩), .int .i64 N, .agg (idA i), .agg (paA p), .agg (idA c), .slice ao way.length cap, .slice ap o.length cq] w (RStaP w r room (stE room L N i p c way o) (stC room L N i p c way o) (stL room L N i p c way o)) := by
  refine s_enter Try.func10 rfl Try.ntmps10 [.pointer (some ⟨r, 0, none⟩), .int .i64 N, .agg (idA i), .agg (paA p), .agg (idA c), .slice ao way.length cap, .slice ap o.length cq] [.pointer (some ⟨r, 0, none⟩), .int .i64 N, .agg (idA i), .agg (paA p), .agg (idA c), .slice ao way.length cap, .slice ap o.length cq, undef, undef, undef, undef, undef, undef, undef, undef, undef, undef, undef, undef, undef, undef, undef, undef, undef, undef, undef, undef, undef, undef, undef, undef, undef, undef, undef, undef, undef, undef, undef, undef, undef, undef, undef, undef, undef, undef, undef, undef, undef, undef, undef, undef, undef, undef, undef, undef, undef, undef, undef, undef, undef, undef, undef, undef, undef, undef, undef, undef, undef, undef, undef, undef, undef, undef, undef, undef, undef, undef, undef, undef, undef] rfl ?_
  have GG := GroS.refl [r] w
  refine wp_seq ?_
  refine wp_region_lit ?_
  refine s_box 9 rfl rfl 24 _ rfl _ rfl (idA i) rfl ?_
  intro w1 g1 G eg1 kg1
  have bg1 := size_basS GG eg1
  have drg1 := lt_new kr eg1
  have dHLg1 := HL.ne eg1
  have dHIg1 := HI.ne eg1
  have dHBg1 := HB.ne eg1
  replace kr := G.has kr
  replace HL := HL.gro G
  replace HI := HI.gro G
  replace HB := HB.gro G
  replace GG := GG.tg G
  clear G
  clear eg1
  refine nr ?_; intro U h; simp only [z0, z1] at h; subst h
  refine s_box 10 rfl rfl 31 _ rfl _ rfl (paA p) rfl ?_
  intro w2 g2 G eg2 kg2
  have bg2 := size_basS GG eg2
  have drg2 := lt_new kr eg2
  have dg1g2 := lt_new kg1 eg2
  have dHLg2 := HL.ne eg2
  have dHIg2 := HI.ne eg2
  have dHBg2 := HB.ne eg2
  replace kr := G.has kr
  replace kg1 := G.has kg1
  replace HL := HL.gro G
  replace HI := HI.gro G
  replace HB := HB.gro G
  replace GG := GG.tg G
  clear G
  clear eg2
  refine nr ?_; intro U h; simp only [z0, z1] at h; subst h
  refine s_box 11 rfl rfl 24 _ rfl _ rfl (idA c) rfl ?_
  intro w3 g3 G eg3 kg3
  have bg3 := size_basS GG eg3
  have drg3 := lt_new kr eg3
  have dg1g3 := lt_new kg1 eg3
  have dg2g3 := lt_new kg2 eg3
  have dHLg3 := HL.ne eg3
  have dHIg3 := HI.ne eg3
  have dHBg3 := HB.ne eg3
  replace kr := G.has kr
  replace kg1 := G.has kg1
  replace kg2 := G.has kg2
  replace HL := HL.gro G
  replace HI := HI.gro G
  replace HB := HB.gro G
  replace GG := GG.tg G
  clear G
  clear eg3
  refine nr ?_; intro U h; simp only [z0, z1] at h; subst h
  refine s_alloc 14 rfl rfl 45 rfl _ zvQ (edA none 0 false false) rfl ?_
  intro w4 g4 G eg4 kg4
  have bg4 := size_basS GG eg4
  have drg4 := lt_new kr eg4
  have dg1g4 := lt_new kg1 eg4
  have dg2g4 := lt_new kg2 eg4
  have dg3g4 := lt_new kg3 eg4
  have dHLg4 := HL.ne eg4
  have dHIg4 := HI.ne eg4
  have dHBg4 := HB.ne eg4
  replace kr := G.has kr
  replace kg1 := G.has kg1
  replace kg2 := G.has kg2
  replace kg3 := G.has kg3
  replace HL := HL.gro G
  replace HI := HI.gro G
  replace HB := HB.gro G
  replace GG := GG.tg G
  clear G
  clear eg4
  refine nr ?_; intro U h; simp only [z0, z1] at h; subst h
  refine s_val 15 rfl rfl (.int .i64 0) (rfl) ?_
  refine nr ?_; intro U h; simp only [z0, z1] at h; subst h
  refine wpList_nil ?_
  refine then_n ?_
  refine wp_seq ?_
  refine wp_seq ?_
  cases hs : decide (way.Nodup)
  · refine wp_region_opq ?_
    intro OPS hY
    have y3 := hY 3 21 rfl
    have y8 := hY 8 26 rfl
    have y13 := hY 13 31 rfl
    have y20 := hY 20 38 rfl
    clear hY
    refine s_val 18 rfl rfl (.slice ao way.length cap) (rfl) ?_
    refine nr ?_; intro U h; simp only [z0, z1] at h; subst h
    refine s_val 19 rfl rfl (.int .i64 ((way.length : Nat) : Int)) (run_len Try.underlying32 _ rfl _ _ _ rfl _) ?_
    refine nr ?_; intro U h; simp only [z0, z1] at h; subst h
    cases h2 : decide (((way.length : Nat) : Int) < 2)
    · have h2b := of_decide_eq_false h2
      refine s_val 20 rfl rfl (.bool false) (run_lssT 3 _ _ _ rfl ((way.length : Nat) : Int) 2 rfl rfl false h2 _) ?_
      refine nr ?_; intro U h; simp only [z0, z1] at h; subst h
      refine s_val 21 rfl rfl (.bool false) (rfl) ?_
      refine nr ?_; intro U h; simp only [z0, z1] at h; subst h
      refine s_gvalY 22 rfl rfl y3 rfl (.slice ao way.length cap) (rfl) ?_
      refine nr ?_; intro U h; simp only [z0, z1] at h; subst h
      refine s_gvalY 23 rfl rfl y3 rfl (.int .i64 ((way.length : Nat) : Int)) (run_len Try.underlying32 _ rfl _ _ _ rfl _) ?_
      refine nr ?_; intro U h; simp only [z0, z1] at h; subst h
      cases h64 : decide ((64 : Int) < ((way.length : Nat) : Int))
      · have h64b := of_decide_eq_false h64
        refine s_gvalY 24 rfl rfl y3 rfl (.bool false) (run_gtrT 3 _ _ _ rfl ((way.length : Nat) : Int) 64 rfl rfl false h64 _) ?_
        refine nr ?_; intro U h; simp only [z0, z1] at h; subst h
        refine s_val 25 rfl rfl (.bool false) (rfl) ?_
        refine nr ?_; intro U h; simp only [z0, z1] at h; subst h
        refine s_val 26 rfl rfl (.bool false) (rfl) ?_
        refine nr ?_; intro U h; simp only [z0, z1] at h; subst h
        refine s_gvalY 27 rfl rfl y8 rfl (.slice ao way.length cap) (rfl) ?_
        refine nr ?_; intro U h; simp only [z0, z1] at h; subst h
        refine s_gcallvY 28 rfl rfl y8 rfl _ 30 Try.call30 rfl rfl _ rfl [.slice ao way.length cap] rfl (Calls.boolt (refsimple_any _ ao cap way (HI) hwl) hs) ?_
        intro w5 G
        replace kr := G.has kr
        replace kg1 := G.has kg1
        replace kg2 := G.has kg2
        replace kg3 := G.has kg3
        replace kg4 := G.has kg4
        replace HL := HL.gro G
        replace HI := HI.gro G
        replace HB := HB.gro G
        replace GG := GG.tg G
        clear G
        refine nr ?_; intro U h; simp only [z0, z1] at h; subst h
        refine s_gvalY 29 rfl rfl y8 rfl (.bool true) (run_nt _ _ rfl false rfl) ?_
        refine nr ?_; intro U h; simp only [z0, z1] at h; subst h
        refine s_val 30 rfl rfl (.bool true) (rfl) ?_
        refine nr ?_; intro U h; simp only [z0, z1] at h; subst h
        refine s_val 31 rfl rfl (.bool true) (rfl) ?_
        refine nr ?_; intro U h; simp only [z0, z1] at h; subst h
        refine s_skipY 32 rfl rfl y13 rfl ?_
        refine nr ?_; intro U h; simp only [z0, z1] at h; subst h
        refine s_skipY 33 rfl rfl y13 rfl ?_
        refine nr ?_; intro U h; simp only [z0, z1] at h; subst h
        refine s_skipY 34 rfl rfl y13 rfl ?_
        refine nr ?_; intro U h; simp only [z0, z1] at h; subst h
        refine s_skipY 35 rfl rfl y13 rfl ?_
        refine nr ?_; intro U h; simp only [z0, z1] at h; subst h
        refine s_skipY 36 rfl rfl y13 rfl ?_
        refine nr ?_; intro U h; simp only [z0, z1] at h; subst h
        refine s_val 37 rfl rfl (.bool true) (rfl) ?_
        refine nr ?_; intro U h; simp only [z0, z1] at h; subst h
        refine s_val 38 rfl rfl (.bool true) (rfl) ?_
        refine nr ?_; intro U h; simp only [z0, z1] at h; subst h
        refine s_skipY 39 rfl rfl y20 rfl ?_
        refine nr ?_; intro U h; simp only [z0, z1] at h; subst h
        refine s_skipY 40 rfl rfl y20 rfl ?_
        refine nr ?_; intro U h; simp only [z0, z1] at h; subst h
        refine s_skipY 41 rfl rfl y20 rfl ?_
        refine nr ?_; intro U h; simp only [z0, z1] at h; subst h
        refine s_val 42 rfl rfl (.bool true) (rfl) ?_
        refine nr ?_; intro U h; simp only [z0, z1] at h; subst h
        refine wpList_nil ?_
        refine then_n ?_
        refine wp_cond_true rfl ?_
        refine wp_seq ?_
        refine wp_region_lit ?_
        refine s_val 43 rfl rfl (.agg (edA none 0 false false)) (run_bd 45 _ rfl [] rfl _ (bdQ_ _)) ?_
        refine nr ?_; intro U h; simp only [z0, z1] at h; subst h
        refine s_store rfl rfl 45 _ _ rfl g4 0 rfl (.agg (edA none 0 false false)) rfl 45 _ kg4 (edA none 0 false false) rfl (siQ' _ _ _ _) (Nat.le_refl _) (oneD _ _ _ _) (edA none 0 false false) (splice_whole _ _ (rfl)) ?_
        intro w6 St
        have kS := kg4
        replace kr := St.has (by omega) kr
        replace kg1 := St.has (by omega) kg1
        replace kg2 := St.has (by omega) kg2
        replace kg3 := St.has (by omega) kg3
        replace HL := HL.st St dHLg4
        replace HI := HI.st St dHIg4
        replace HB := HB.st St dHBg4
        replace GG := GG.st St (.inl bg4)
        replace kg4 := St.new
        clear St
        refine s_val 15 rfl rfl (.int .i64 1) (rfl) ?_
        refine nr ?_; intro U h; simp only [z0, z1] at h; subst h
        refine wpList_nil ?_
        refine then_n ?_
        refine wp_ret ?_
        refine then_r ?_
        refine bodyPost_ret (results_cell_tmp Try.results10 _ _ g4 45 _ (0, 0) _ rfl (.int .i64 1) rfl kg4 Try.underlying45 rfl (siQ' _ _ _ _)) rfl ?_
        have hst := st_no (room := room) (L := L) (p := p) (o := o) (fun h => (by have h1 := h.1; simp only [lead, Bool.and_eq_true, decide_eq_true_eq] at h1; exact of_decide_eq_false hs h1.2.2.2) : ¬ (lead N way = true ∧ c ≠ i))
        rw [hst.1, hst.2.1, hst.2.2]
        exact ⟨_, _, rfl, ⟨rfl, rfl⟩, ra, rc, kr, HL, GG⟩
      · have h64b := of_decide_eq_true h64
        refine s_gvalY 24 rfl rfl y3 rfl (.bool true) (run_gtrT 3 _ _ _ rfl ((way.length : Nat) : Int) 64 rfl rfl true h64 _) ?_
        refine nr ?_; intro U h; simp only [z0, z1] at h; subst h
        refine s_val 25 rfl rfl (.bool true) (rfl) ?_
        refine nr ?_; intro U h; simp only [z0, z1] at h; subst h
        refine s_val 26 rfl rfl (.bool true) (rfl) ?_
        refine nr ?_; intro U h; simp only [z0, z1] at h; subst h
        refine s_skipY 27 rfl rfl y8 rfl ?_
        refine nr ?_; intro U h; simp only [z0, z1] at h; subst h
        refine s_skipY 28 rfl rfl y8 rfl ?_
        refine nr ?_; intro U h; simp only [z0, z1] at h; subst h
        refine s_skipY 29 rfl rfl y8 rfl ?_
        refine nr ?_; intro U h; simp only [z0, z1] at h; subst h
        refine s_val 30 rfl rfl (.bool true) (rfl) ?_
        refine nr ?_; intro U h; simp only [z0, z1] at h; subst h
        refine s_val 31 rfl rfl (.bool true) (rfl) ?_
        refine nr ?_; intro U h; simp only [z0, z1] at h; subst h
        refine s_skipY 32 rfl rfl y13 rfl ?_
        refine nr ?_; intro U h; simp only [z0, z1] at h; subst h
        refine s_skipY 33 rfl rfl y13 rfl ?_
        refine nr ?_; intro U h; simp only [z0, z1] at h; subst h
        refine s_skipY 34 rfl rfl y13 rfl ?_
        refine nr ?_; intro U h; simp only [z0, z1] at h; subst h
        refine s_skipY 35 rfl rfl y13 rfl ?_
        refine nr ?_; intro U h; simp only [z0, z1] at h; subst h
        refine s_skipY 36 rfl rfl y13 rfl ?_
        refine nr ?_; intro U h; simp only [z0, z1] at h; subst h
        refine s_val 37 rfl rfl (.bool true) (rfl) ?_
        refine nr ?_; intro U h; simp only [z0, z1] at h; subst h
        refine s_val 38 rfl rfl (.bool true) (rfl) ?_
        refine nr ?_; intro U h; simp only [z0, z1] at h; subst h
        refine s_skipY 39 rfl rfl y20 rfl ?_
        refine nr ?_; intro U h; simp only [z0, z1] at h; subst h
        refine s_skipY 40 rfl rfl y20 rfl ?_
        refine nr ?_; intro U h; simp only [z0, z1] at h; subst h
        refine s_skipY 41 rfl rfl y20 rfl ?_
        refine nr ?_; intro U h; simp only [z0, z1] at h; subst h
        refine s_val 42 rfl rfl (.bool true) (rfl) ?_
        refine nr ?_; intro U h; simp only [z0, z1] at h; subst h
        refine wpList_nil ?_
        refine then_n ?_
        refine wp_cond_true rfl ?_
        refine wp_seq ?_
        refine wp_region_lit ?_
        refine s_val 43 rfl rfl (.agg (edA none 0 false false)) (run_bd 45 _ rfl [] rfl _ (bdQ_ _)) ?_
        refine nr ?_; intro U h; simp only [z0, z1] at h; subst h
        refine s_store rfl rfl 45 _ _ rfl g4 0 rfl (.agg (edA none 0 false false)) rfl 45 _ kg4 (edA none 0 false false) rfl (siQ' _ _ _ _) (Nat.le_refl _) (oneD _ _ _ _) (edA none 0 false false) (splice_whole _ _ (rfl)) ?_
        intro w5 St
        have kS := kg4
        replace kr := St.has (by omega) kr
        replace kg1 := St.has (by omega) kg1
        replace kg2 := St.has (by omega) kg2
        replace kg3 := St.has (by omega) kg3
        replace HL := HL.st St dHLg4
        replace HI := HI.st St dHIg4
        replace HB := HB.st St dHBg4
        replace GG := GG.st St (.inl bg4)
        replace kg4 := St.new
        clear St
        refine s_val 15 rfl rfl (.int .i64 1) (rfl) ?_
        refine nr ?_; intro U h; simp only [z0, z1] at h; subst h
        refine wpList_nil ?_
        refine then_n ?_
        refine wp_ret ?_
        refine then_r ?_
        refine bodyPost_ret (results_cell_tmp Try.results10 _ _ g4 45 _ (0, 0) _ rfl (.int .i64 1) rfl kg4 Try.underlying45 rfl (siQ' _ _ _ _)) rfl ?_
        have hst := st_no (room := room) (L := L) (p := p) (o := o) (fun h => (by have h1 := h.1; simp only [lead, Bool.and_eq_true, decide_eq_true_eq] at h1; omega) : ¬ (lead N way = true ∧ c ≠ i))
        rw [hst.1, hst.2.1, hst.2.2]
        exact ⟨_, _, rfl, ⟨rfl, rfl⟩, ra, rc, kr, HL, GG⟩
    · have h2b := of_decide_eq_true h2
      refine s_val 20 rfl rfl (.bool true) (run_lssT 3 _ _ _ rfl ((way.length : Nat) : Int) 2 rfl rfl true h2 _) ?_
      refine nr ?_; intro U h; simp only [z0, z1] at h; subst h
      refine s_val 21 rfl rfl (.bool true) (rfl) ?_
      refine nr ?_; intro U h; simp only [z0, z1] at h; subst h
      refine s_skipY 22 rfl rfl y3 rfl ?_
      refine nr ?_; intro U h; simp only [z0, z1] at h; subst h
      refine s_skipY 23 rfl rfl y3 rfl ?_
      refine nr ?_; intro U h; simp only [z0, z1] at h; subst h
      refine s_skipY 24 rfl rfl y3 rfl ?_
      refine nr ?_; intro U h; simp only [z0, z1] at h; subst h
      refine s_val 25 rfl rfl (.bool true) (rfl) ?_
      refine nr ?_; intro U h; simp only [z0, z1] at h; subst h
      refine s_val 26 rfl rfl (.bool true) (rfl) ?_
      refine nr ?_; intro U h; simp only [z0, z1] at h; subst h
      refine s_skipY 27 rfl rfl y8 rfl ?_
      refine nr ?_; intro U h; simp only [z0, z1] at h; subst h
      refine s_skipY 28 rfl rfl y8 rfl ?_
      refine nr ?_; intro U h; simp only [z0, z1] at h; subst h
      refine s_skipY 29 rfl rfl y8 rfl ?_
      refine nr ?_; intro U h; simp only [z0, z1] at h; subst h
      refine s_val 30 rfl rfl (.bool true) (rfl) ?_
      refine nr ?_; intro U h; simp only [z0, z1] at h; subst h
      refine s_val 31 rfl rfl (.bool true) (rfl) ?_
      refine nr ?_; intro U h; simp only [z0, z1] at h; subst h
      refine s_skipY 32 rfl rfl y13 rfl ?_
      refine nr ?_; intro U h; simp only [z0, z1] at h; subst h
      refine s_skipY 33 rfl rfl y13 rfl ?_
      refine nr ?_; intro U h; simp only [z0, z1] at h; subst h
      refine s_skipY 34 rfl rfl y13 rfl ?_
      refine nr ?_; intro U h; simp only [z0, z1] at h; subst h
      refine s_skipY 35 rfl rfl y13 rfl ?_
      refine nr ?_; intro U h; simp only [z0, z1] at h; subst h
      refine s_skipY 36 rfl rfl y13 rfl ?_
      refine nr ?_; intro U h; simp only [z0, z1] at h; subst h
      refine s_val 37 rfl rfl (.bool true) (rfl) ?_
      refine nr ?_; intro U h; simp only [z0, z1] at h; subst h
      refine s_val 38 rfl rfl (.bool true) (rfl) ?_
      refine nr ?_; intro U h; simp only [z0, z1] at h; subst h
      refine s_skipY 39 rfl rfl y20 rfl ?_
      refine nr ?_; intro U h; simp only [z0, z1] at h; subst h
      refine s_skipY 40 rfl rfl y20 rfl ?_
      refine nr ?_; intro U h; simp only [z0, z1] at h; subst h
      refine s_skipY 41 rfl rfl y20 rfl ?_
      refine nr ?_; intro U h; simp only [z0, z1] at h; subst h
      refine s_val 42 rfl rfl (.bool true) (rfl) ?_
      refine nr ?_; intro U h; simp only [z0, z1] at h; subst h
      refine wpList_nil ?_
      refine then_n ?_
      refine wp_cond_true rfl ?_
      refine wp_seq ?_
      refine wp_region_lit ?_
      refine s_val 43 rfl rfl (.agg (edA none 0 false false)) (run_bd 45 _ rfl [] rfl _ (bdQ_ _)) ?_
      refine nr ?_; intro U h; simp only [z0, z1] at h; subst h
      refine s_store rfl rfl 45 _ _ rfl g4 0 rfl (.agg (edA none 0 false false)) rfl 45 _ kg4 (edA none 0 false false) rfl (siQ' _ _ _ _) (Nat.le_refl _) (oneD _ _ _ _) (edA none 0 false false) (splice_whole _ _ (rfl)) ?_
      intro w5 St
      have kS := kg4
      replace kr := St.has (by omega) kr
      replace kg1 := St.has (by omega) kg1
      replace kg2 := St.has (by omega) kg2
      replace kg3 := St.has (by omega) kg3
      replace HL := HL.st St dHLg4
      replace HI := HI.st St dHIg4
      replace HB := HB.st St dHBg4
      replace GG := GG.st St (.inl bg4)
      replace kg4 := St.new
      clear St
      refine s_val 15 rfl rfl (.int .i64 1) (rfl) ?_
      refine nr ?_; intro U h; simp only [z0, z1] at h; subst h
      refine wpList_nil ?_
      refine then_n ?_
      refine wp_ret ?_
      refine then_r ?_
      refine bodyPost_ret (results_cell_tmp Try.results10 _ _ g4 45 _ (0, 0) _ rfl (.int .i64 1) rfl kg4 Try.underlying45 rfl (siQ' _ _ _ _)) rfl ?_
      have hst := st_no (room := room) (L := L) (p := p) (o := o) (fun h => (by have h1 := h.1; simp only [lead, Bool.and_eq_true, decide_eq_true_eq] at h1; omega) : ¬ (lead N way = true ∧ c ≠ i))
      rw [hst.1, hst.2.1, hst.2.2]
      exact ⟨_, _, rfl, ⟨rfl, rfl⟩, ra, rc, kr, HL, GG⟩
  · refine wp_region_opq ?_
    intro OPS hY
    have y3 := hY 3 21 rfl
    have y8 := hY 8 26 rfl
    have y13 := hY 13 31 rfl
    have y20 := hY 20 38 rfl
    clear hY
    refine s_val 18 rfl rfl (.slice ao way.length cap) (rfl) ?_
    refine nr ?_; intro U h; simp only [z0, z1] at h; subst h
    refine s_val 19 rfl rfl (.int .i64 ((way.length : Nat) : Int)) (run_len Try.underlying32 _ rfl _ _ _ rfl _) ?_
    refine nr ?_; intro U h; simp only [z0, z1] at h; subst h
    cases h2 : decide (((way.length : Nat) : Int) < 2)
    · have h2b := of_decide_eq_false h2
      refine s_val 20 rfl rfl (.bool false) (run_lssT 3 _ _ _ rfl ((way.length : Nat) : Int) 2 rfl rfl false h2 _) ?_
      refine nr ?_; intro U h; simp only [z0, z1] at h; subst h
      refine s_val 21 rfl rfl (.bool false) (rfl) ?_
      refine nr ?_; intro U h; simp only [z0, z1] at h; subst h
      refine s_gvalY 22 rfl rfl y3 rfl (.slice ao way.length cap) (rfl) ?_
      refine nr ?_; intro U h; simp only [z0, z1] at h; subst h
      refine s_gvalY 23 rfl rfl y3 rfl (.int .i64 ((way.length : Nat) : Int)) (run_len Try.underlying32 _ rfl _ _ _ rfl _) ?_
      refine nr ?_; intro U h; simp only [z0, z1] at h; subst h
      cases h64 : decide ((64 : Int) < ((way.length : Nat) : Int))
      · have h64b := of_decide_eq_false h64
        refine s_gvalY 24 rfl rfl y3 rfl (.bool false) (run_gtrT 3 _ _ _ rfl ((way.length : Nat) : Int) 64 rfl rfl false h64 _) ?_
        refine nr ?_; intro U h; simp only [z0, z1] at h; subst h
        refine s_val 25 rfl rfl (.bool false) (rfl) ?_
        refine nr ?_; intro U h; simp only [z0, z1] at h; subst h
        refine s_val 26 rfl rfl (.bool false) (rfl) ?_
        refine nr ?_; intro U h; simp only [z0, z1] at h; subst h
        refine s_gvalY 27 rfl rfl y8 rfl (.slice ao way.length cap) (rfl) ?_
        refine nr ?_; intro U h; simp only [z0, z1] at h; subst h
        refine s_gcallvY 28 rfl rfl y8 rfl _ 30 Try.call30 rfl rfl _ rfl [.slice ao way.length cap] rfl (Calls.boolt (refsimple_any _ ao cap way (HI) hwl) hs) ?_
        intro w5 G
        replace kr := G.has kr
        replace kg1 := G.has kg1
        replace kg2 := G.has kg2
        replace kg3 := G.has kg3
        replace kg4 := G.has kg4
        replace HL := HL.gro G
        replace HI := HI.gro G
        replace HB := HB.gro G
        replace GG := GG.tg G
        clear G
        refine nr ?_; intro U h; simp only [z0, z1] at h; subst h
        refine s_gvalY 29 rfl rfl y8 rfl (.bool false) (run_nt _ _ rfl true rfl) ?_
        refine nr ?_; intro U h; simp only [z0, z1] at h; subst h
        refine s_val 30 rfl rfl (.bool false) (rfl) ?_
        refine nr ?_; intro U h; simp only [z0, z1] at h; subst h
        refine s_val 31 rfl rfl (.bool false) (rfl) ?_
        refine nr ?_; intro U h; simp only [z0, z1] at h; subst h
        refine s_gvalY 32 rfl rfl y13 rfl (.slice ao way.length cap) (rfl) ?_
        refine nr ?_; intro U h; simp only [z0, z1] at h; subst h
        refine s_gvalY 33 rfl rfl y13 rfl (.pointer (pA ao 0)) (run_ixI (HI) _ _ rfl rfl 0 rfl (by omega)) ?_
        refine nr ?_; intro U h; simp only [z0, z1] at h; subst h
        refine s_gvalY 34 rfl rfl y13 rfl (.int .i64 (way.getD 0 0)) (run_ldI (HI) _ rfl 0 rfl (by omega)) ?_
        refine nr ?_; intro U h; simp only [z0, z1] at h; subst h
        refine s_gvalY 35 rfl rfl y13 rfl (.int .i64 N) (rfl) ?_
        refine nr ?_; intro U h; simp only [z0, z1] at h; subst h
        cases h0 : decide (way.getD 0 0 = N)
        · refine s_gvalY 36 rfl rfl y13 rfl (.bool true) (run_neq_k 3 .i64 _ _ _ rfl Try.underlying3 (way.getD 0 0) N rfl rfl true h0 _) ?_
          refine nr ?_; intro U h; simp only [z0, z1] at h; subst h
          refine s_val 37 rfl rfl (.bool true) (rfl) ?_
          refine nr ?_; intro U h; simp only [z0, z1] at h; subst h
          refine s_val 38 rfl rfl (.bool true) (rfl) ?_
          refine nr ?_; intro U h; simp only [z0, z1] at h; subst h
          refine s_skipY 39 rfl rfl y20 rfl ?_
          refine nr ?_; intro U h; simp only [z0, z1] at h; subst h
          refine s_skipY 40 rfl rfl y20 rfl ?_
          refine nr ?_; intro U h; simp only [z0, z1] at h; subst h
          refine s_skipY 41 rfl rfl y20 rfl ?_
          refine nr ?_; intro U h; simp only [z0, z1] at h; subst h
          refine s_val 42 rfl rfl (.bool true) (rfl) ?_
          refine nr ?_; intro U h; simp only [z0, z1] at h; subst h
          refine wpList_nil ?_
          refine then_n ?_
          refine wp_cond_true rfl ?_
          refine wp_seq ?_
          refine wp_region_lit ?_
          refine s_val 43 rfl rfl (.agg (edA none 0 false false)) (run_bd 45 _ rfl [] rfl _ (bdQ_ _)) ?_
          refine nr ?_; intro U h; simp only [z0, z1] at h; subst h
          refine s_store rfl rfl 45 _ _ rfl g4 0 rfl (.agg (edA none 0 false false)) rfl 45 _ kg4 (edA none 0 false false) rfl (siQ' _ _ _ _) (Nat.le_refl _) (oneD _ _ _ _) (edA none 0 false false) (splice_whole _ _ (rfl)) ?_
          intro w6 St
          have kS := kg4
          replace kr := St.has (by omega) kr
          replace kg1 := St.has (by omega) kg1
          replace kg2 := St.has (by omega) kg2
          replace kg3 := St.has (by omega) kg3
          replace HL := HL.st St dHLg4
          replace HI := HI.st St dHIg4
          replace HB := HB.st St dHBg4
          replace GG := GG.st St (.inl bg4)
          replace kg4 := St.new
          clear St
          refine s_val 15 rfl rfl (.int .i64 1) (rfl) ?_
          refine nr ?_; intro U h; simp only [z0, z1] at h; subst h
          refine wpList_nil ?_
          refine then_n ?_
          refine wp_ret ?_
          refine then_r ?_
          refine bodyPost_ret (results_cell_tmp Try.results10 _ _ g4 45 _ (0, 0) _ rfl (.int .i64 1) rfl kg4 Try.underlying45 rfl (siQ' _ _ _ _)) rfl ?_
          have hst := st_no (room := room) (L := L) (p := p) (o := o) (fun h => (by have h1 := h.1; simp only [lead, Bool.and_eq_true, decide_eq_true_eq] at h1; exact of_decide_eq_false h0 h1.2.2.1) : ¬ (lead N way = true ∧ c ≠ i))
          rw [hst.1, hst.2.1, hst.2.2]
          exact ⟨_, _, rfl, ⟨rfl, rfl⟩, ra, rc, kr, HL, GG⟩
        · refine s_gvalY 36 rfl rfl y13 rfl (.bool false) (run_neq_k 3 .i64 _ _ _ rfl Try.underlying3 (way.getD 0 0) N rfl rfl false h0 _) ?_
          refine nr ?_; intro U h; simp only [z0, z1] at h; subst h
          refine s_val 37 rfl rfl (.bool false) (rfl) ?_
          refine nr ?_; intro U h; simp only [z0, z1] at h; subst h
          refine s_val 38 rfl rfl (.bool false) (rfl) ?_
          refine nr ?_; intro U h; simp only [z0, z1] at h; subst h
          refine s_gvalY 39 rfl rfl y20 rfl (.agg (idA c)) (ldI0 _ rfl g3 rfl (kg3)) ?_
          refine nr ?_; intro U h; simp only [z0, z1] at h; subst h
          refine s_gvalY 40 rfl rfl y20 rfl (.agg (idA i)) (ldI0 _ rfl g1 rfl (kg1)) ?_
          refine nr ?_; intro U h; simp only [z0, z1] at h; subst h
          cases hbi : decide (c = i)
          · refine s_gvalY 41 rfl rfl y20 rfl (.bool false) (run_eqI _ _ _ rfl _ _ rfl rfl hcc hi false hbi) ?_
            refine nr ?_; intro U h; simp only [z0, z1] at h; subst h
            refine s_val 42 rfl rfl (.bool false) (rfl) ?_
            refine nr ?_; intro U h; simp only [z0, z1] at h; subst h
            refine wpList_nil ?_
            refine then_n ?_
            refine wp_cond_false rfl ?_
            refine wp_skip ?_
            refine then_n ?_
            refine wp_seq ?_
            refine wp_seq ?_
            cases ho : decide (isO o (way.getD 1 0) = true)
            · refine wp_region_lit ?_
              refine s_val 44 rfl rfl (.slice ap o.length cq) (rfl) ?_
              refine nr ?_; intro U h; simp only [z0, z1] at h; subst h
              refine s_val 45 rfl rfl (.slice ao way.length cap) (rfl) ?_
              refine nr ?_; intro U h; simp only [z0, z1] at h; subst h
              refine s_val 46 rfl rfl (.pointer (pA ao 1)) (run_ixI (HI) _ _ rfl rfl 1 rfl (by omega)) ?_
              refine nr ?_; intro U h; simp only [z0, z1] at h; subst h
              refine s_val 47 rfl rfl (.int .i64 (way.getD 1 0)) (run_ldI (HI) _ rfl 1 rfl (by omega)) ?_
              refine nr ?_; intro U h; simp only [z0, z1] at h; subst h
              refine s_callv 48 rfl rfl _ 31 Try.call31 rfl rfl _ rfl [.slice ap o.length cq, .int .i64 (way.getD 1 0)] rfl (Calls.bool (ropen_any _ ap cq o (HB) (way.getD 1 0)) (Bool.eq_false_iff.2 (of_decide_eq_false ho))) ?_
              intro w6 G
              replace kr := G.has kr
              replace kg1 := G.has kg1
              replace kg2 := G.has kg2
              replace kg3 := G.has kg3
              replace kg4 := G.has kg4
              replace HL := HL.gro G
              replace HI := HI.gro G
              replace HB := HB.gro G
              replace GG := GG.tg G
              clear G
              refine nr ?_; intro U h; simp only [z0, z1] at h; subst h
              refine s_val 49 rfl rfl (.bool true) (run_nt _ _ rfl false rfl) ?_
              refine nr ?_; intro U h; simp only [z0, z1] at h; subst h
              refine wpList_nil ?_
              refine then_n ?_
              refine wp_cond_true rfl ?_
              refine wp_seq ?_
              refine wp_region_lit ?_
              refine s_val 50 rfl rfl (.agg (edA none 0 false false)) (run_bd 45 _ rfl [] rfl _ (bdQ_ _)) ?_
              refine nr ?_; intro U h; simp only [z0, z1] at h; subst h
              refine s_store rfl rfl 45 _ _ rfl g4 0 rfl (.agg (edA none 0 false false)) rfl 45 _ kg4 (edA none 0 false false) rfl (siQ' _ _ _ _) (Nat.le_refl _) (oneD _ _ _ _) (edA none 0 false false) (splice_whole _ _ (rfl)) ?_
              intro w7 St
              have kS := kg4
              replace kr := St.has (by omega) kr
              replace kg1 := St.has (by omega) kg1
              replace kg2 := St.has (by omega) kg2
              replace kg3 := St.has (by omega) kg3
              replace HL := HL.st St dHLg4
              replace HI := HI.st St dHIg4
              replace HB := HB.st St dHBg4
              replace GG := GG.st St (.inl bg4)
              replace kg4 := St.new
              clear St
              refine s_val 15 rfl rfl (.int .i64 10) (rfl) ?_
              refine nr ?_; intro U h; simp only [z0, z1] at h; subst h
              refine wpList_nil ?_
              refine then_n ?_
              refine wp_ret ?_
              refine then_r ?_
              refine bodyPost_ret (results_cell_tmp Try.results10 _ _ g4 45 _ (0, 0) _ rfl (.int .i64 10) rfl kg4 Try.underlying45 rfl (siQ' _ _ _ _)) rfl ?_
              have hst := st_shut (room := room) (L := L) (p := p) (o := o) (N := N) (b := c) (ID := i) (way := way) ⟨(by simp only [lead, Bool.and_eq_true, decide_eq_true_eq]; exact ⟨by omega, by omega, of_decide_eq_true h0, of_decide_eq_true hs⟩), of_decide_eq_false hbi⟩ (Bool.eq_false_iff.2 (of_decide_eq_false ho))
              rw [hst.1, hst.2.1, hst.2.2]
              exact ⟨_, _, rfl, ⟨rfl, rfl⟩, ra, rc, kr, HL, GG⟩
            · refine wp_region_lit ?_
              refine s_val 44 rfl rfl (.slice ap o.length cq) (rfl) ?_
              refine nr ?_; intro U h; simp only [z0, z1] at h; subst h
              refine s_val 45 rfl rfl (.slice ao way.length cap) (rfl) ?_
              refine nr ?_; intro U h; simp only [z0, z1] at h; subst h
              refine s_val 46 rfl rfl (.pointer (pA ao 1)) (run_ixI (HI) _ _ rfl rfl 1 rfl (by omega)) ?_
              refine nr ?_; intro U h; simp only [z0, z1] at h; subst h
              refine s_val 47 rfl rfl (.int .i64 (way.getD 1 0)) (run_ldI (HI) _ rfl 1 rfl (by omega)) ?_
              refine nr ?_; intro U h; simp only [z0, z1] at h; subst h
              refine s_callv 48 rfl rfl _ 31 Try.call31 rfl rfl _ rfl [.slice ap o.length cq, .int .i64 (way.getD 1 0)] rfl (Calls.bool (ropen_any _ ap cq o (HB) (way.getD 1 0)) (of_decide_eq_true ho)) ?_
              intro w6 G
              replace kr := G.has kr
              replace kg1 := G.has kg1
              replace kg2 := G.has kg2
              replace kg3 := G.has kg3
              replace kg4 := G.has kg4
              replace HL := HL.gro G
              replace HI := HI.gro G
              replace HB := HB.gro G
              replace GG := GG.tg G
              clear G
              refine nr ?_; intro U h; simp only [z0, z1] at h; subst h
              refine s_val 49 rfl rfl (.bool false) (run_nt _ _ rfl true rfl) ?_
              refine nr ?_; intro U h; simp only [z0, z1] at h; subst h
              refine wpList_nil ?_
              refine then_n ?_
              refine wp_cond_false rfl ?_
              refine wp_skip ?_
              refine then_n ?_
              refine wp_seq ?_
              have xok : (xS i p c way).ok := ⟨hp, hi, hcc, m1i, HI.at (by omega)⟩
              refine wp_region_exA (A := ?Ax1) 8 [(0, 51), (1, 52), (2, 53), (3, 54), (4, 55), (5, 56), (6, 57), (7, 58)] [.val (.pointer (some ⟨r, 0, none⟩)), .val (.agg (paA p)), .val (.agg (idA i)), .val (.agg (idA c)), .val (.slice ao way.length cap), .val (.pointer (pA ao 1)), .val (.int .i64 (way.getD 1 0)), .val (.agg (enA (xS i p c way)))] follows (by kernel_rfl) rfl ?hAx1 (opsA_cons ?o0x1 (opsA_cons ?o1x1 (opsA_cons ?o2x1 (opsA_cons ?o3x1 (opsA_cons ?o4x1 (opsA_cons ?o5x1 (opsA_cons ?o6x1 (opsA_cons ?o7x1 opsA_nil)))))))) ?restx1
              case hAx1 =>
                intro ptrs
                simp only [full, foldSlots, filledE, postE, List.foldl_cons, List.foldl_nil, List.getD_cons_zero, List.getD_cons_succ, fill_val, List.set_cons_zero, List.set_cons_succ]
                exact rfl
              case o0x1 => exact fun _ _ _ _ => opE_move (v := .pointer (some ⟨r, 0, none⟩)) _ rfl rfl rfl
              case o1x1 => exact fun _ _ hw _ => opE_value (v := .agg (paA p)) rfl (ldP0 _ rfl g2 rfl (hw.has kg2))
              case o2x1 => exact fun _ _ hw _ => opE_value (v := .agg (idA i)) rfl (ldI0 _ rfl g1 rfl (hw.has kg1))
              case o3x1 => exact fun _ _ hw _ => opE_value (v := .agg (idA c)) rfl (ldI0 _ rfl g3 rfl (hw.has kg3))
              case o4x1 => exact fun _ _ _ _ => opE_move (v := .slice ao way.length cap) _ rfl rfl rfl
              case o5x1 => exact fun _ _ hw _ => opE_value (v := .pointer (pA ao 1)) rfl (run_ixI (HI.gro ((Gro.refl _).drew.trans hw)) _ _ rfl rfl 1 rfl (by omega))
              case o6x1 => exact fun _ _ hw _ => opE_value (v := .int .i64 (way.getD 1 0)) rfl (run_ldI (HI.gro ((Gro.refl _).drew.trans hw)) _ rfl 1 rfl (by omega))
              case o7x1 => exact fun _ _ _ _ => opE_value (v := .agg (enA (xS i p c way))) rfl (run_bd 73 _ rfl [(0, .agg (paA p)), (1, .agg (idA i)), (2, .agg (idA c)), (3, .int .i64 (-1)), (4, .int .i64 (way.getD 1 0))] rfl _ (bdE5 _ _ _ _ _ _))
              intro ptrs w7 GD hxE
              simp only [List.drop_succ_cons, List.drop_zero]
              replace kr := GD.has kr
              replace kg1 := GD.has kg1
              replace kg2 := GD.has kg2
              replace kg3 := GD.has kg3
              replace kg4 := GD.has kg4
              replace HL := HL.gro ((Gro.refl _).drew.trans GD)
              replace HI := HI.gro ((Gro.refl _).drew.trans GD)
              replace HB := HB.gro ((Gro.refl _).drew.trans GD)
              replace GG := GG.drew.tg GD
              clear GD
              refine s_callx 59 rfl rfl _ 26 Try.call26 rfl rfl _ rfl [.pointer (some ⟨r, 0, none⟩), .agg (enA (xS i p c way))] rfl (radd_any _ r room ra rc L kr HL hLb hKn (xS i p c way) xok) (by rintro _ _ ⟨he, _⟩; exact ⟨_, he⟩) ?_
              rintro v w8 ⟨he, ra1, rc1, kr2, HL2, G2⟩
              cases he
              replace kg1 := G2.has kg1 (ne_cells kg1 kr (by decide))
              replace kg2 := G2.has kg2 (ne_cells kg2 kr (by decide))
              replace kg3 := G2.has kg3 (ne_cells kg3 kr (by decide))
              replace kg4 := G2.has kg4 (ne_cells kg4 kr (by decide))
              replace HI := HI.rtw G2 dHIr
              replace HB := HB.rtw G2 dHBr
              replace GG := GG.trans G2
              have dHLg1 := HL2.own.ne kg1 (by decide)
              have dHLg2 := HL2.own.ne kg2 (by decide)
              have dHLg3 := HL2.own.ne kg3 (by decide)
              have dHLg4 := HL2.own.ne kg4 (by decide)
              clear kr HL G2
              have kr := kr2
              have HL := HL2
              clear kr2 HL2
              refine nr ?_; intro U h; simp only [z0, z1] at h; subst h
              refine s_val 16 rfl rfl (.int .i64 (addC room L (xS i p c way))) (rfl) ?_
              refine nr ?_; intro U h; simp only [z0, z1] at h; subst h
              refine wpList_nil ?_
              refine then_n ?_
              refine wp_seq ?_
              refine wp_seq ?_
              refine wp_region_lit ?_
              refine s_val 60 rfl rfl (.int .i64 (addC room L (xS i p c way))) (rfl) ?_
              refine nr ?_; intro U h; simp only [z0, z1] at h; subst h
              cases hc : decide (addC room L (xS i p c way) = 0)
              · refine s_val 61 rfl rfl (.bool true) (run_neq_k 42 .i64 _ _ _ rfl Try.underlying42 (addC room L (xS i p c way)) 0 rfl rfl true hc _) ?_
                refine nr ?_; intro U h; simp only [z0, z1] at h; subst h
                refine wpList_nil ?_
                refine then_n ?_
                refine wp_cond_true rfl ?_
                refine wp_seq ?_
                refine wp_region_lit ?_
                refine s_val 62 rfl rfl (.int .i64 (addC room L (xS i p c way))) (rfl) ?_
                refine nr ?_; intro U h; simp only [z0, z1] at h; subst h
                refine s_val 63 rfl rfl (.bool (decide (addC room L (xS i p c way) = 5))) (run_eq_k 42 .i64 _ _ _ rfl Try.underlying42 (addC room L (xS i p c way)) 5 rfl rfl (decide (addC room L (xS i p c way) = 5)) rfl _) ?_
                refine nr ?_; intro U h; simp only [z0, z1] at h; subst h
                refine s_val 64 rfl rfl (.agg (edA none 0 false (decide (addC room L (xS i p c way) = 5)))) (run_bd 45 _ rfl [(2, .bool (decide (addC room L (xS i p c way) = 5)))] rfl _ (bdQ2 _ _)) ?_
                refine nr ?_; intro U h; simp only [z0, z1] at h; subst h
                refine s_val 65 rfl rfl (.int .i64 (addC room L (xS i p c way))) (rfl) ?_
                refine nr ?_; intro U h; simp only [z0, z1] at h; subst h
                refine s_store rfl rfl 45 _ _ rfl g4 0 rfl (.agg (edA none 0 false (decide (addC room L (xS i p c way) = 5)))) rfl 45 _ kg4 (edA none 0 false (decide (addC room L (xS i p c way) = 5))) rfl (siQ' _ _ _ _) (Nat.le_refl _) (oneD _ _ _ _) (edA none 0 false (decide (addC room L (xS i p c way) = 5))) (splice_whole _ _ (rfl)) ?_
                intro w9 St
                have kS := kg4
                replace kr := St.has (by omega) kr
                replace kg1 := St.has (by omega) kg1
                replace kg2 := St.has (by omega) kg2
                replace kg3 := St.has (by omega) kg3
                replace HL := HL.st St dHLg4
                replace HI := HI.st St dHIg4
                replace HB := HB.st St dHBg4
                replace GG := GG.st St (.inl bg4)
                replace kg4 := St.new
                clear St
                refine s_val 15 rfl rfl (.int .i64 (addC room L (xS i p c way))) (rfl) ?_
                refine nr ?_; intro U h; simp only [z0, z1] at h; subst h
                refine wpList_nil ?_
                refine then_n ?_
                refine wp_ret ?_
                refine then_r ?_
                refine bodyPost_ret (results_cell_tmp Try.results10 _ _ g4 45 _ (0, 0) _ rfl (.int .i64 (addC room L (xS i p c way))) rfl kg4 Try.underlying45 rfl (siQ' _ _ _ _)) rfl ?_
                have hst := st_full (room := room) (L := L) (p := p) (o := o) (N := N) (b := c) (ID := i) (way := way) ⟨(by simp only [lead, Bool.and_eq_true, decide_eq_true_eq]; exact ⟨by omega, by omega, of_decide_eq_true h0, of_decide_eq_true hs⟩), of_decide_eq_false hbi⟩ (of_decide_eq_true ho) (of_decide_eq_false hc)
                rw [hst.1, hst.2.1, hst.2.2]
                exact ⟨_, _, rfl, ⟨rfl, rfl⟩, ra1, rc1, kr, HL, GG⟩
              · refine s_val 61 rfl rfl (.bool false) (run_neq_k 42 .i64 _ _ _ rfl Try.underlying42 (addC room L (xS i p c way)) 0 rfl rfl false hc _) ?_
                refine nr ?_; intro U h; simp only [z0, z1] at h; subst h
                refine wpList_nil ?_
                refine then_n ?_
                refine wp_cond_false rfl ?_
                refine wp_skip ?_
                refine then_n ?_
                refine wp_seq ?_
                obtain ⟨BB, hBB⟩ : ∃ B, w8.heap.size = B := ⟨_, rfl⟩
                refine wp_region_exA (A := ?Ax2) 8 [(0, 66), (1, 67), (2, 68), (3, 69), (4, 70), (5, 71), (6, 72), (7, 17)] [.val (.agg (paA p)), .val (.agg (idA i)), .val (.agg (idA c)), rowZ BB, .val (.slice ao way.length cap), ownZ BB way, frZ BB (mSet p i c way), boxZ BB 64 (frA (frY m0 none 0 gN))] follows (by kernel_rfl) rfl ?hAx2 (opsA_cons ?o0x2 (opsA_cons ?o1x2 (opsA_cons ?o2x2 (opsA_cons ?o3x2 (opsA_cons ?o4x2 (opsA_cons ?o5x2 (opsA_cons ?o6x2 (opsA_cons ?o7x2 opsA_nil)))))))) ?restx2
                case hAx2 =>
                  intro ptrs
                  simp only [full, foldSlots, filledE, postE, List.foldl_cons, List.foldl_nil, List.getD_cons_zero, List.getD_cons_succ, fill_val, fill_rowZ, fill_ownZ, fill_frZ, fill_boxZ, List.set_cons_zero, List.set_cons_succ]
                  exact rfl
                case o0x2 => exact fun _ _ hw _ => opE_value (v := .agg (paA p)) rfl (ldP0 _ rfl g2 rfl (hw.has kg2))
                case o1x2 => exact fun _ _ hw _ => opE_value (v := .agg (idA i)) rfl (ldI0 _ rfl g1 rfl (hw.has kg1))
                case o2x2 => exact fun _ _ hw _ => opE_value (v := .agg (idA c)) rfl (ldI0 _ rfl g3 rfl (hw.has kg3))
                case o3x2 => exact fun _ x hw _ => opE_new (rowZ BB) rfl (run_bsl 32 0 _ rfl [] rfl (by kernel_rfl : (Instr.buildSlice 32 0 #[]).run Try.prog x = .ok (.slice (some ⟨x.heap.size, 0, none⟩) 0 0) (x.alloc (.cells (ci []).toArray 3)))) (gro_alloc _ _) ⟨_, rfl, (OX.made (cap := 0) (n := 0) (cs := []) (heap_alloc_new _ _) (Nat.le_trans (Nat.le_of_eq hBB.symm) hw.size) (Nat.le_refl _) (by decide) rfl rfl rfl (fun _ h => by cases h)).oy⟩
                case o4x2 => exact fun _ _ _ _ => opE_move (v := .slice ao way.length cap) _ rfl rfl rfl
                case o5x2 =>
                  intro ptrs w' hw hE
                  obtain ⟨⟨aq, hq, oq⟩, _⟩ := hE
                  refine opE_appY rI (ownZ BB way) rfl _ _ rfl (B := BB) (ao := aq) (n := 0) (cs := []) hq oq (ao' := ao) (cap' := cap) (m := way.length) (cs' := ci way) rfl (HI.gro ((Gro.refl _).drew.trans hw)).xc (by omega) (by decide) (Nat.le_trans (Nat.le_of_eq hBB.symm) hw.size) ?_
                  intro ao2 cap2 w2 h1 _ _
                  rw [Nat.zero_add, List.nil_append] at h1
                  exact ⟨ao2, cap2, by rw [Nat.zero_add], h1⟩
                case o6x2 =>
                  intro ptrs w' hw hE
                  obtain ⟨⟨ao5, cap5, h5, o5⟩, _⟩ := hE
                  exact opE_new (frZ BB (mSet p i c way)) rfl (run_bd 64 _ rfl [(0, .int .i64 4), (1, .agg (paA p)), (3, .agg (idA i)), (4, .agg (idA c)), (8, .slice ao5 way.length cap5)] (by show [(0, .int .i64 4), (1, .agg (paA p)), (3, .agg (idA i)), (4, .agg (idA c)), (8, ptrs 5)] = _; rw [h5]) _ (bdF4 _ _ _ _ _ _ _)) (Gro.refl _) ⟨ao5, cap5, rfl, o5⟩
                case o7x2 => exact fun _ x hw _ => opE_new (boxZ BB 64 (frA (frY m0 none 0 gN))) rfl (run_alloc_op 64 rfl _ zvF) (gro_alloc _ _) ⟨_, rfl, Nat.le_trans (Nat.le_of_eq hBB.symm) hw.size, heap_alloc_new _ _⟩
                intro ptrs w9 GD hxE
                simp only [List.drop_succ_cons, List.drop_zero]
                obtain ⟨_, _, ⟨a2, c2, hx6, HY⟩, ⟨gF, hx7, bgF, kgF⟩, _⟩ := hxE
                simp only [hx6, hx7]
                clear hx6 hx7
                have drgF : r < gF := Nat.lt_of_lt_of_le (hBB ▸ lt_of_heap kr) bgF
                have dg1gF : g1 < gF := Nat.lt_of_lt_of_le (hBB ▸ lt_of_heap kg1) bgF
                have dg2gF : g2 < gF := Nat.lt_of_lt_of_le (hBB ▸ lt_of_heap kg2) bgF
                have dg3gF : g3 < gF := Nat.lt_of_lt_of_le (hBB ▸ lt_of_heap kg3) bgF
                have dg4gF : g4 < gF := Nat.lt_of_lt_of_le (hBB ▸ lt_of_heap kg4) bgF
                have dHLgF := HL.neG (g := gF) (Nat.le_trans (Nat.le_of_eq hBB) bgF)
                have dHIgF := HI.neG (g := gF) (Nat.le_trans (Nat.le_of_eq hBB) bgF)
                have dHBgF := HB.neG (g := gF) (Nat.le_trans (Nat.le_of_eq hBB) bgF)
                replace bgF := Nat.le_trans (Nat.le_trans GG.size (Nat.le_of_eq hBB)) bgF
                replace HY := HY.mono (Nat.le_trans GG.size (Nat.le_of_eq hBB))
                clear hBB
                replace kr := GD.has kr
                replace kg1 := GD.has kg1
                replace kg2 := GD.has kg2
                replace kg3 := GD.has kg3
                replace kg4 := GD.has kg4
                replace HL := HL.gro ((Gro.refl _).drew.trans GD)
                replace HI := HI.gro ((Gro.refl _).drew.trans GD)
                replace HB := HB.gro ((Gro.refl _).drew.trans GD)
                replace GG := GG.drew.tg GD
                clear GD
                refine s_store rfl rfl 64 _ _ rfl gF 0 rfl (.agg (frA (frY (mSet p i c way) a2 c2 gN))) rfl 64 _ kgF (frA (frY (mSet p i c way) a2 c2 gN)) rfl (siF' _ _ _ _) (Nat.le_refl _) (oneF _ _ _ _) (frA (frY (mSet p i c way) a2 c2 gN)) (splice_whole _ _ (rfl)) ?_
                intro w10 St
                have kS := kgF
                replace kr := St.has (by omega) kr
                replace kg1 := St.has (by omega) kg1
                replace kg2 := St.has (by omega) kg2
                replace kg3 := St.has (by omega) kg3
                replace kg4 := St.has (by omega) kg4
                replace HL := HL.st St dHLgF
                replace HI := HI.st St dHIgF
                replace HB := HB.st St dHBgF
                replace HY := HY.stT St kS (by decide)
                replace GG := GG.st St (.inl bgF)
                replace kgF := St.new
                clear St
                refine wpList_nil ?_
                refine then_n ?_
                refine wp_seq ?_
                refine wp_region_exA (A := ?Ax3) 4 [(0, 73), (1, 74), (2, 75), (3, 76)] [.val (.slice ao way.length cap), .val (.pointer (pA ao 1)), .val (.int .i64 (way.getD 1 0)), .val (.agg (frA (frY (mSet p i c way) a2 c2 gN)))] follows (by kernel_rfl) rfl ?hAx3 (opsA_cons ?o0x3 (opsA_cons ?o1x3 (opsA_cons ?o2x3 (opsA_cons ?o3x3 opsA_nil)))) ?restx3
                case hAx3 =>
                  intro ptrs
                  simp only [full, foldSlots, filledE, postE, List.foldl_cons, List.foldl_nil, List.getD_cons_zero, List.getD_cons_succ, fill_val, List.set_cons_zero, List.set_cons_succ]
                  exact rfl
                case o0x3 => exact fun _ _ _ _ => opE_move (v := .slice ao way.length cap) _ rfl rfl rfl
                case o1x3 => exact fun _ _ hw _ => opE_value (v := .pointer (pA ao 1)) rfl (run_ixI (HI.gro ((Gro.refl _).drew.trans hw)) _ _ rfl rfl 1 rfl (by omega))
                case o2x3 => exact fun _ _ hw _ => opE_value (v := .int .i64 (way.getD 1 0)) rfl (run_ldI (HI.gro ((Gro.refl _).drew.trans hw)) _ rfl 1 rfl (by omega))
                case o3x3 => exact fun _ _ hw _ => opE_value (v := .agg (frA (frY (mSet p i c way) a2 c2 gN))) rfl (ldF_0 _ rfl gF rfl (hw.has kgF))
                intro ptrs w11 GD hxE
                simp only [List.drop_succ_cons, List.drop_zero]
                replace kr := GD.has kr
                replace kg1 := GD.has kg1
                replace kg2 := GD.has kg2
                replace kg3 := GD.has kg3
                replace kg4 := GD.has kg4
                replace kgF := GD.has kgF
                replace HL := HL.gro ((Gro.refl _).drew.trans GD)
                replace HI := HI.gro ((Gro.refl _).drew.trans GD)
                replace HB := HB.gro ((Gro.refl _).drew.trans GD)
                replace HY := HY.gro ((Gro.refl _).drew.trans GD)
                replace GG := GG.drew.tg GD
                clear GD
                refine s_val 77 rfl rfl (.agg (hopA (way.getD 1 0) (frY (mSet p i c way) a2 c2 gN))) (run_bd 71 _ rfl [(0, .int .i64 (way.getD 1 0)), (1, .agg (frA (frY (mSet p i c way) a2 c2 gN)))] rfl _ (bdH2 _ _ _)) ?_
                refine nr ?_; intro U h; simp only [z0, z1] at h; subst h
                refine s_bsl 78 rfl rfl 39 1 _ rfl [(0, .agg (hopA (way.getD 1 0) (frY (mSet p i c way) a2 c2 gN)))] rfl (hopA (way.getD 1 0) (frY (mSet p i c way) a2 c2 gN)) 71 (bsH _ _ _) ?_
                intro w12 q2 G eq2 kq2
                have bq2 := size_basS GG eq2
                have drq2 := lt_new kr eq2
                have dg1q2 := lt_new kg1 eq2
                have dg2q2 := lt_new kg2 eq2
                have dg3q2 := lt_new kg3 eq2
                have dg4q2 := lt_new kg4 eq2
                have dgFq2 := lt_new kgF eq2
                have dHLq2 := HL.ne eq2
                have dHIq2 := HI.ne eq2
                have dHBq2 := HB.ne eq2
                replace kr := G.has kr
                replace kg1 := G.has kg1
                replace kg2 := G.has kg2
                replace kg3 := G.has kg3
                replace kg4 := G.has kg4
                replace kgF := G.has kgF
                replace HL := HL.gro G
                replace HI := HI.gro G
                replace HB := HB.gro G
                replace HY := HY.gro G
                replace GG := GG.tg G
                clear G
                clear eq2
                refine nr ?_; intro U h; simp only [z0, z1] at h; subst h
                refine s_val 79 rfl rfl (.agg (edA (some ⟨q2, 0, none⟩) 1 true false)) (run_bd 45 _ rfl [(0, .slice (some ⟨q2, 0, none⟩) 1 1), (1, .bool true)] rfl _ (bdQ01 _ _ _ _)) ?_
                refine nr ?_; intro U h; simp only [z0, z1] at h; subst h
                refine s_store rfl rfl 45 _ _ rfl g4 0 rfl (.agg (edA (some ⟨q2, 0, none⟩) 1 true false)) rfl 45 _ kg4 (edA (some ⟨q2, 0, none⟩) 1 true false) rfl (siQ' _ _ _ _) (Nat.le_refl _) (oneD _ _ _ _) (edA (some ⟨q2, 0, none⟩) 1 true false) (splice_whole _ _ (rfl)) ?_
                intro w13 St
                have kS := kg4
                replace kr := St.has (by omega) kr
                replace kg1 := St.has (by omega) kg1
                replace kg2 := St.has (by omega) kg2
                replace kg3 := St.has (by omega) kg3
                replace kgF := St.has (by omega) kgF
                replace kq2 := St.has (by omega) kq2
                replace HL := HL.st St dHLg4
                replace HI := HI.st St dHIg4
                replace HB := HB.st St dHBg4
                replace HY := HY.stT St kS (by decide)
                replace GG := GG.st St (.inl bg4)
                replace kg4 := St.new
                clear St
                refine s_val 15 rfl rfl (.int .i64 0) (rfl) ?_
                refine nr ?_; intro U h; simp only [z0, z1] at h; subst h
                refine wpList_nil ?_
                refine then_n ?_
                refine wp_ret ?_
                refine bodyPost_ret (results_cell_tmp Try.results10 _ _ g4 45 _ (0, 0) _ rfl (.int .i64 0) rfl kg4 Try.underlying45 rfl (siQ' _ _ _ _)) rfl ?_
                have hst := st_add (room := room) (L := L) (p := p) (o := o) (N := N) (b := c) (ID := i) (way := way) ⟨(by simp only [lead, Bool.and_eq_true, decide_eq_true_eq]; exact ⟨by omega, by omega, of_decide_eq_true h0, of_decide_eq_true hs⟩), of_decide_eq_false hbi⟩ (of_decide_eq_true ho) (of_decide_eq_true hc)
                rw [hst.1, hst.2.1, hst.2.2]
                exact ⟨_, _, rfl, ⟨q2, a2, c2, Sl.nil, Sl.nil, Sl.nil, rfl, rfl, kq2, bq2, OY.frq (M := mSet p i c way) HY⟩, ra1, rc1, kr, HL, GG⟩
          · refine s_gvalY 41 rfl rfl y20 rfl (.bool true) (run_eqI _ _ _ rfl _ _ rfl rfl hcc hi true hbi) ?_
            refine nr ?_; intro U h; simp only [z0, z1] at h; subst h
            refine s_val 42 rfl rfl (.bool true) (rfl) ?_
            refine nr ?_; intro U h; simp only [z0, z1] at h; subst h
            refine wpList_nil ?_
            refine then_n ?_
            refine wp_cond_true rfl ?_
            refine wp_seq ?_
            refine wp_region_lit ?_
            refine s_val 43 rfl rfl (.agg (edA none 0 false false)) (run_bd 45 _ rfl [] rfl _ (bdQ_ _)) ?_
            refine nr ?_; intro U h; simp only [z0, z1] at h; subst h
            refine s_store rfl rfl 45 _ _ rfl g4 0 rfl (.agg (edA none 0 false false)) rfl 45 _ kg4 (edA none 0 false false) rfl (siQ' _ _ _ _) (Nat.le_refl _) (oneD _ _ _ _) (edA none 0 false false) (splice_whole _ _ (rfl)) ?_
            intro w6 St
            have kS := kg4
            replace kr := St.has (by omega) kr
            replace kg1 := St.has (by omega) kg1
            replace kg2 := St.has (by omega) kg2
            replace kg3 := St.has (by omega) kg3
            replace HL := HL.st St dHLg4
            replace HI := HI.st St dHIg4
            replace HB := HB.st St dHBg4
            replace GG := GG.st St (.inl bg4)
            replace kg4 := St.new
            clear St
            refine s_val 15 rfl rfl (.int .i64 1) (rfl) ?_
            refine nr ?_; intro U h; simp only [z0, z1] at h; subst h
            refine wpList_nil ?_
            refine then_n ?_
            refine wp_ret ?_
            refine then_r ?_
            refine bodyPost_ret (results_cell_tmp Try.results10 _ _ g4 45 _ (0, 0) _ rfl (.int .i64 1) rfl kg4 Try.underlying45 rfl (siQ' _ _ _ _)) rfl ?_
            have hst := st_no (room := room) (L := L) (p := p) (o := o) (fun h => h.2 (of_decide_eq_true hbi) : ¬ (lead N way = true ∧ c ≠ i))
            rw [hst.1, hst.2.1, hst.2.2]
            exact ⟨_, _, rfl, ⟨rfl, rfl⟩, ra, rc, kr, HL, GG⟩
      · have h64b := of_decide_eq_true h64
        refine s_gvalY 24 rfl rfl y3 rfl (.bool true) (run_gtrT 3 _ _ _ rfl ((way.length : Nat) : Int) 64 rfl rfl true h64 _) ?_
        refine nr ?_; intro U h; simp only [z0, z1] at h; subst h
        refine s_val 25 rfl rfl (.bool true) (rfl) ?_
        refine nr ?_; intro U h; simp only [z0, z1] at h; subst h
        refine s_val 26 rfl rfl (.bool true) (rfl) ?_
        refine nr ?_; intro U h; simp only [z0, z1] at h; subst h
        refine s_skipY 27 rfl rfl y8 rfl ?_
        refine nr ?_; intro U h; simp only [z0, z1] at h; subst h
        refine s_skipY 28 rfl rfl y8 rfl ?_
        refine nr ?_; intro U h; simp only [z0, z1] at h; subst h
        refine s_skipY 29 rfl rfl y8 rfl ?_
        refine nr ?_; intro U h; simp only [z0, z1] at h; subst h
        refine s_val 30 rfl rfl (.bool true) (rfl) ?_
        refine nr ?_; intro U h; simp only [z0, z1] at h; subst h
        refine s_val 31 rfl rfl (.bool true) (rfl) ?_
        refine nr ?_; intro U h; simp only [z0, z1] at h; subst h
        refine s_skipY 32 rfl rfl y13 rfl ?_
        refine nr ?_; intro U h; simp only [z0, z1] at h; subst h
        refine s_skipY 33 rfl rfl y13 rfl ?_
        refine nr ?_; intro U h; simp only [z0, z1] at h; subst h
        refine s_skipY 34 rfl rfl y13 rfl ?_
        refine nr ?_; intro U h; simp only [z0, z1] at h; subst h
        refine s_skipY 35 rfl rfl y13 rfl ?_
        refine nr ?_; intro U h; simp only [z0, z1] at h; subst h
        refine s_skipY 36 rfl rfl y13 rfl ?_
        refine nr ?_; intro U h; simp only [z0, z1] at h; subst h
        refine s_val 37 rfl rfl (.bool true) (rfl) ?_
        refine nr ?_; intro U h; simp only [z0, z1] at h; subst h
        refine s_val 38 rfl rfl (.bool true) (rfl) ?_
        refine nr ?_; intro U h; simp only [z0, z1] at h; subst h
        refine s_skipY 39 rfl rfl y20 rfl ?_
        refine nr ?_; intro U h; simp only [z0, z1] at h; subst h
        refine s_skipY 40 rfl rfl y20 rfl ?_
        refine nr ?_; intro U h; simp only [z0, z1] at h; subst h
        refine s_skipY 41 rfl rfl y20 rfl ?_
        refine nr ?_; intro U h; simp only [z0, z1] at h; subst h
        refine s_val 42 rfl rfl (.bool true) (rfl) ?_
        refine nr ?_; intro U h; simp only [z0, z1] at h; subst h
        refine wpList_nil ?_
        refine then_n ?_
        refine wp_cond_true rfl ?_
        refine wp_seq ?_
        refine wp_region_lit ?_
        refine s_val 43 rfl rfl (.agg (edA none 0 false false)) (run_bd 45 _ rfl [] rfl _ (bdQ_ _)) ?_
        refine nr ?_; intro U h; simp only [z0, z1] at h; subst h
        refine s_store rfl rfl 45 _ _ rfl g4 0 rfl (.agg (edA none 0 false false)) rfl 45 _ kg4 (edA none 0 false false) rfl (siQ' _ _ _ _) (Nat.le_refl _) (oneD _ _ _ _) (edA none 0 false false) (splice_whole _ _ (rfl)) ?_
        intro w5 St
        have kS := kg4
        replace kr := St.has (by omega) kr
        replace kg1 := St.has (by omega) kg1
        replace kg2 := St.has (by omega) kg2
        replace kg3 := St.has (by omega) kg3
        replace HL := HL.st St dHLg4
        replace HI := HI.st St dHIg4
        replace HB := HB.st St dHBg4
        replace GG := GG.st St (.inl bg4)
        replace kg4 := St.new
        clear St
        refine s_val 15 rfl rfl (.int .i64 1) (rfl) ?_
        refine nr ?_; intro U h; simp only [z0, z1] at h; subst h
        refine wpList_nil ?_
        refine then_n ?_
        refine wp_ret ?_
        refine then_r ?_
        refine bodyPost_ret (results_cell_tmp Try.results10 _ _ g4 45 _ (0, 0) _ rfl (.int .i64 1) rfl kg4 Try.underlying45 rfl (siQ' _ _ _ _)) rfl ?_
        have hst := st_no (room := room) (L := L) (p := p) (o := o) (fun h => (by have h1 := h.1; simp only [lead, Bool.and_eq_true, decide_eq_true_eq] at h1; omega) : ¬ (lead N way = true ∧ c ≠ i))
        rw [hst.1, hst.2.1, hst.2.2]
        exact ⟨_, _, rfl, ⟨rfl, rfl⟩, ra, rc, kr, HL, GG⟩
    · have h2b := of_decide_eq_true h2
      refine s_val 20 rfl rfl (.bool true) (run_lssT 3 _ _ _ rfl ((way.length : Nat) : Int) 2 rfl rfl true h2 _) ?_
      refine nr ?_; intro U h; simp only [z0, z1] at h; subst h
      refine s_val 21 rfl rfl (.bool true) (rfl) ?_
      refine nr ?_; intro U h; simp only [z0, z1] at h; subst h
      refine s_skipY 22 rfl rfl y3 rfl ?_
      refine nr ?_; intro U h; simp only [z0, z1] at h; subst h
      refine s_skipY 23 rfl rfl y3 rfl ?_
      refine nr ?_; intro U h; simp only [z0, z1] at h; subst h
      refine s_skipY 24 rfl rfl y3 rfl ?_
      refine nr ?_; intro U h; simp only [z0, z1] at h; subst h
      refine s_val 25 rfl rfl (.bool true) (rfl) ?_
      refine nr ?_; intro U h; simp only [z0, z1] at h; subst h
      refine s_val 26 rfl rfl (.bool true) (rfl) ?_
      refine nr ?_; intro U h; simp only [z0, z1] at h; subst h
      refine s_skipY 27 rfl rfl y8 rfl ?_
      refine nr ?_; intro U h; simp only [z0, z1] at h; subst h
      refine s_skipY 28 rfl rfl y8 rfl ?_
      refine nr ?_; intro U h; simp only [z0, z1] at h; subst h
      refine s_skipY 29 rfl rfl y8 rfl ?_
      refine nr ?_; intro U h; simp only [z0, z1] at h; subst h
      refine s_val 30 rfl rfl (.bool true) (rfl) ?_
      refine nr ?_; intro U h; simp only [z0, z1] at h; subst h
      refine s_val 31 rfl rfl (.bool true) (rfl) ?_
      refine nr ?_; intro U h; simp only [z0, z1] at h; subst h
      refine s_skipY 32 rfl rfl y13 rfl ?_
      refine nr ?_; intro U h; simp only [z0, z1] at h; subst h
      refine s_skipY 33 rfl rfl y13 rfl ?_
      refine nr ?_; intro U h; simp only [z0, z1] at h; subst h
      refine s_skipY 34 rfl rfl y13 rfl ?_
      refine nr ?_; intro U h; simp only [z0, z1] at h; subst h
      refine s_skipY 35 rfl rfl y13 rfl ?_
      refine nr ?_; intro U h; simp only [z0, z1] at h; subst h
      refine s_skipY 36 rfl rfl y13 rfl ?_
      refine nr ?_; intro U h; simp only [z0, z1] at h; subst h
      refine s_val 37 rfl rfl (.bool true) (rfl) ?_
      refine nr ?_; intro U h; simp only [z0, z1] at h; subst h
      refine s_val 38 rfl rfl (.bool true) (rfl) ?_
      refine nr ?_; intro U h; simp only [z0, z1] at h; subst h
      refine s_skipY 39 rfl rfl y20 rfl ?_
      refine nr ?_; intro U h; simp only [z0, z1] at h; subst h
      refine s_skipY 40 rfl rfl y20 rfl ?_
      refine nr ?_; intro U h; simp only [z0, z1] at h; subst h
      refine s_skipY 41 rfl rfl y20 rfl ?_
      refine nr ?_; intro U h; simp only [z0, z1] at h; subst h
      refine s_val 42 rfl rfl (.bool true) (rfl) ?_
      refine nr ?_; intro U h; simp only [z0, z1] at h; subst h
      refine wpList_nil ?_
      refine then_n ?_
      refine wp_cond_true rfl ?_
      refine wp_seq ?_
      refine wp_region_lit ?_
      refine s_val 43 rfl rfl (.agg (edA none 0 false false)) (run_bd 45 _ rfl [] rfl _ (bdQ_ _)) ?_
      refine nr ?_; intro U h; simp only [z0, z1] at h; subst h
      refine s_store rfl rfl 45 _ _ rfl g4 0 rfl (.agg (edA none 0 false false)) rfl 45 _ kg4 (edA none 0 false false) rfl (siQ' _ _ _ _) (Nat.le_refl _) (oneD _ _ _ _) (edA none 0 false false) (splice_whole _ _ (rfl)) ?_
      intro w5 St
      have kS := kg4
      replace kr := St.has (by omega) kr
      replace kg1 := St.has (by omega) kg1
      replace kg2 := St.has (by omega) kg2
      replace kg3 := St.has (by omega) kg3
      replace HL := HL.st St dHLg4
      replace HI := HI.st St dHIg4
      replace HB := HB.st St dHBg4
      replace GG := GG.st St (.inl bg4)
      replace kg4 := St.new
      clear St
      refine s_val 15 rfl rfl (.int .i64 1) (rfl) ?_
      refine nr ?_; intro U h; simp only [z0, z1] at h; subst h
      refine wpList_nil ?_
      refine then_n ?_
      refine wp_ret ?_
      refine then_r ?_
      refine bodyPost_ret (results_cell_tmp Try.results10 _ _ g4 45 _ (0, 0) _ rfl (.int .i64 1) rfl kg4 Try.underlying45 rfl (siQ' _ _ _ _)) rfl ?_
      have hst := st_no (room := room) (L := L) (p := p) (o := o) (fun h => (by have h1 := h.1; simp only [lead, Bool.and_eq_true, decide_eq_true_eq] at h1; omega) : ¬ (lead N way = true ∧ c ≠ i))
      rw [hst.1, hst.2.1, hst.2.2]
      exact ⟨_, _, rfl, ⟨rfl, rfl⟩, ra, rc, kr, HL, GG⟩
end Go.Proofs.Ytkjnefgenffhcaa
