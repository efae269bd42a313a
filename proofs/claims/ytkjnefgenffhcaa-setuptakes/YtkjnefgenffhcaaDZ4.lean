/- A path begins, a Setup comes: the document's. -/
import Derived.Test.YtkjnefgenffhcaaDZ3
import Derived.Test.YtkjnefgenffhcaaDP16
namespace Go.Proofs.Ytkjnefgenffhcaa
open Go.RowKit Go.Maps
def RTakP (w : World) (r room : Nat) (E : Ed) (L : List En) (e : Ending) (w' : World) : Prop := ∃ ao n, e = .returned (.agg (edA ao n E.mine E.full)) ∧ OutP w' w.heap.size E.out ao n ∧ ∃ ra rc, w'.heap[r]? = some (.cells (rbA ra L.length rc room) 53 (0, 0)) ∧ OE w' 0 ra rc L ∧ GroS [r] w w'
def rowZ (B : Nat) : PostE := PostE.ex (fun v x => ∃ ao, v = .slice ao 0 0 ∧ OY x 3 1 B ao 0 0 []) (fun _ _ _ G ⟨a, h1, h2⟩ => ⟨a, h1, h2.gro G⟩)
theorem fill_rowZ (B : Nat) (v : Value) : (rowZ B).fill v = v := rfl
def ownZ (B : Nat) (L : List Int) : PostE := PostE.ex (fun v x => ∃ ao cap, v = .slice ao L.length cap ∧ OY x 3 1 B ao cap L.length (ci L)) (fun _ _ _ G ⟨a, c, h1, h2⟩ => ⟨a, c, h1, h2.gro G⟩)
theorem fill_ownZ (B : Nat) (L : List Int) (v : Value) : (ownZ B L).fill v = v := rfl
def frZ (B : Nat) (M : Msg) : PostE := PostE.ex (fun v x => ∃ ao cap, v = .agg (frA (frY M ao cap gN)) ∧ OY x 3 1 B ao cap M.l.length (ci M.l)) (fun _ _ _ G ⟨a, c, h1, h2⟩ => ⟨a, c, h1, h2.gro G⟩)
theorem fill_frZ (B : Nat) (M : Msg) (v : Value) : (frZ B M).fill v = v := rfl
def boxZ (B : Nat) (t : TypeId) (cs : Array Value) : PostE := PostE.ex (fun v x => ∃ g, v = .pointer (some ⟨g, 0, none⟩) ∧ B ≤ g ∧ x.heap[g]? = some (.cells cs t (0, 0))) (fun _ _ _ G ⟨g, h1, h2, h3⟩ => ⟨g, h1, h2, G.has h3⟩)
theorem fill_boxZ (B : Nat) (t : TypeId) (cs : Array Value) (v : Value) : (boxZ B t cs).fill v = v := rfl
theorem OY.stT {w w' : World} {sz B : Nat} {e : TypeId} {ao : Option Addr} {cap n g : Nat} {cs : List Value} {c c' : Array Value} {t : TypeId} (h : OY w e sz B ao cap n cs) (St : Stored w w' g (.cells c' t (0, 0))) (kg : w.heap[g]? = some (.cells c t (0, 0))) (ht : t ≠ e) : OY w' e sz B ao cap n cs :=
  h.gros St.gros fun k hk hm => by
    rw [List.mem_singleton] at hm
    subst hm
    exact h.ne kg ht hk
section
variable {room : Nat} {L : List En} {fr N : Int} {M : Msg} {o : List Bool} {ID : Nat}
theorem tk_mid' {q : Nat} (hm : forMe N fr M = true) (hq : plc M.l N = (q : Int)) (h : q + 1 < M.l.length) : tkE room L N ID fr M o = psE room L fr M (M.l.getD (q + 1) 0) o ∧ tkL room L N ID fr M o = psL room L fr M (M.l.getD (q + 1) 0) o := by
  have e : nxt N M = M.l.getD (q + 1) 0 := by
    unfold nxt
    rw [hq, Int.toNat_natCast]
  have hmid : mid N M = true := by unfold mid; rw [hq, Int.toNat_natCast]; exact decide_eq_true h
  rw [← e]
  exact ⟨(if_pos hm).trans (if_pos hmid), (if_pos hm).trans (if_pos hmid)⟩
theorem isO_nn {n : Int} (h : isO o n = true) : 0 ≤ n := by
  simp only [isO, Bool.and_eq_true, decide_eq_true_eq] at h
  exact h.1
end
set_option maxRecDepth 100000 in
set_option maxHeartbeats 4000000 in
theorem rtake_any (w : World) (r room : Nat) (ra : Option Addr) (rc : Nat) (L : List En) (kr : w.heap[r]? = some (.cells (rbA ra L.length rc room) 53 (0, 0))) (HL : OE w 0 ra rc L) (hLb : L.length ≤ 1000) (hKn : KN L) (N : Int) (i : Nat) (hi : i < top) (fr : Int) (hfr : I64 fr) (M : Msg) (hM : M.ok) (ao : Option Addr) (cap : Nat) (g : Fr) (HI : RC w ao cap M.l) (dHIr : NE ao (ci M.l).length r) (hl : M.l.length ≤ 17592186044416) (ap : Option Addr) (cq : Nat) (o : List Bool) (HB : RK kB w ap cq o) (dHBr : NE ap (o.flatMap kB.E).length r) : Calls Try.prog 17 #[.pointer (some ⟨r, 0, none⟩), .int .i64 N, .agg (idA i), .int .i64 fr, .agg (frA (frY M ao cap g)), .slice ap o.length cq] w (RTakP w r room (tkE room L N i fr M o) (tkL room L N i fr M o)) := by
  refine s_enter Try.func17 rfl Try.ntmps17 [.pointer (some ⟨r, 0, none⟩), .int .i64 N, .agg (idA i), .int .i64 fr, .agg (frA (frY M ao cap g)), .slice ap o.length cq] [.pointer (some ⟨r, 0, none⟩), .int .i64 N, .agg (idA i), .int .i64 fr, .agg (frA (frY M ao cap g)), .slice ap o.length cq, undef, undef, undef, undef, undef, undef, undef, undef, undef, undef, undef, undef, undef, undef, undef, undef, undef, undef, undef, undef, undef, undef, undef, undef, undef, undef, undef, undef, undef, undef, undef, undef, undef, undef, undef, undef, undef, undef, undef, undef, undef, undef, undef, undef, undef, undef, undef, undef, undef, undef, undef, undef, undef, undef, undef, undef, undef, undef, undef, undef, undef, undef, undef, undef, undef, undef, undef, undef, undef, undef, undef, undef, undef, undef, undef, undef, undef, undef, undef, undef, undef, undef, undef, undef, undef, undef, undef, undef, undef, undef, undef, undef, undef, undef, undef, undef, undef, undef, undef, undef, undef, undef, undef, undef, undef] rfl ?_
  have GG := GroS.refl [r] w
  refine wp_seq ?_
  refine wp_region_lit ?_
  refine s_box 8 rfl rfl 24 _ rfl _ rfl (idA i) rfl ?_
  intro w1 g1 G eg1 kg1
  have bg1 := size_basS GG eg1
  have drg1 := lt_new kr eg1
  have dHLg1 := HL.ne eg1
  have dHIg1 := HI.ne eg1
  have dHBg1 := HB.ne eg1
  replace kr := G.has kr
  replace HL := HL.gro G
  replace HI := HI.gro G
  replace HB := HB.gro G
  replace GG := GG.tg G
  clear G
  clear eg1
  refine nr ?_; intro U h; simp only [z0, z1] at h; subst h
  refine s_box 10 rfl rfl 64 _ rfl _ rfl (frA (frY M ao cap g)) rfl ?_
  intro w2 g2 G eg2 kg2
  have bg2 := size_basS GG eg2
  have drg2 := lt_new kr eg2
  have dg1g2 := lt_new kg1 eg2
  have dHLg2 := HL.ne eg2
  have dHIg2 := HI.ne eg2
  have dHBg2 := HB.ne eg2
  replace kr := G.has kr
  replace kg1 := G.has kg1
  replace HL := HL.gro G
  replace HI := HI.gro G
  replace HB := HB.gro G
  replace GG := GG.tg G
  clear G
  clear eg2
  refine nr ?_; intro U h; simp only [z0, z1] at h; subst h
  refine s_alloc 12 rfl rfl 45 rfl _ zvQ (edA none 0 false false) rfl ?_
  intro w3 g3 G eg3 kg3
  have bg3 := size_basS GG eg3
  have drg3 := lt_new kr eg3
  have dg1g3 := lt_new kg1 eg3
  have dg2g3 := lt_new kg2 eg3
  have dHLg3 := HL.ne eg3
  have dHIg3 := HI.ne eg3
  have dHBg3 := HB.ne eg3
  replace kr := G.has kr
  replace kg1 := G.has kg1
  replace kg2 := G.has kg2
  replace HL := HL.gro G
  replace HI := HI.gro G
  replace HB := HB.gro G
  replace GG := GG.tg G
  clear G
  clear eg3
  refine nr ?_; intro U h; simp only [z0, z1] at h; subst h
  refine wpList_nil ?_
  refine then_n ?_
  refine wp_seq ?_
  cases hp : decide (1 ≤ plc M.l N)
  · refine wp_region_lit ?_
    refine s_val 18 rfl rfl (.pointer (some ⟨g2, 56, none⟩)) (run_fld 64 _ 8 rfl g2 0 rfl 56 (by kernel_rfl)) ?_
    refine nr ?_; intro U h; simp only [z0, z1] at h; subst h
    refine s_val 19 rfl rfl (.slice ao M.l.length cap) (ldF_t _ rfl g2 rfl (kg2)) ?_
    refine nr ?_; intro U h; simp only [z0, z1] at h; subst h
    refine s_val 20 rfl rfl (.int .i64 N) (rfl) ?_
    refine nr ?_; intro U h; simp only [z0, z1] at h; subst h
    refine s_callv 21 rfl rfl _ 21 Try.call21 rfl rfl _ rfl [.slice ao M.l.length cap, .int .i64 N] rfl (refplace_any _ ao cap M.l (HI) hl N) ?_
    intro w4 G
    replace kr := G.has kr
    replace kg1 := G.has kg1
    replace kg2 := G.has kg2
    replace kg3 := G.has kg3
    replace HL := HL.gro G
    replace HI := HI.gro G
    replace HB := HB.gro G
    replace GG := GG.tg G
    clear G
    refine nr ?_; intro U h; simp only [z0, z1] at h; subst h
    refine s_val 13 rfl rfl (.int .i64 (plc M.l N)) (rfl) ?_
    refine nr ?_; intro U h; simp only [z0, z1] at h; subst h
    refine wpList_nil ?_
    refine then_n ?_
    refine wp_seq ?_
    refine wp_seq ?_
    cases hk : decide (M.kind = 4)
    · refine wp_region_opq ?_
      intro OPS hY
      have y3 := hY 3 25 rfl
      have y9 := hY 9 31 rfl
      have y13 := hY 13 35 rfl
      clear hY
      refine s_val 22 rfl rfl (.pointer (some ⟨g2, 0, none⟩)) (run_fld 64 _ 0 rfl g2 0 rfl 0 (by kernel_rfl)) ?_
      refine nr ?_; intro U h; simp only [z0, z1] at h; subst h
      refine s_val 23 rfl rfl (.int .i64 M.kind) (ldF_k _ rfl g2 rfl (kg2)) ?_
      refine nr ?_; intro U h; simp only [z0, z1] at h; subst h
      refine s_val 24 rfl rfl (.bool true) (run_neq_k 3 .i64 _ _ _ rfl Try.underlying3 M.kind 4 rfl rfl true hk _) ?_
      refine nr ?_; intro U h; simp only [z0, z1] at h; subst h
      refine s_val 25 rfl rfl (.bool true) (rfl) ?_
      refine nr ?_; intro U h; simp only [z0, z1] at h; subst h
      refine s_skipY 26 rfl rfl y3 rfl ?_
      refine nr ?_; intro U h; simp only [z0, z1] at h; subst h
      refine s_skipY 27 rfl rfl y3 rfl ?_
      refine nr ?_; intro U h; simp only [z0, z1] at h; subst h
      refine s_skipY 28 rfl rfl y3 rfl ?_
      refine nr ?_; intro U h; simp only [z0, z1] at h; subst h
      refine s_skipY 29 rfl rfl y3 rfl ?_
      refine nr ?_; intro U h; simp only [z0, z1] at h; subst h
      refine s_val 30 rfl rfl (.bool true) (rfl) ?_
      refine nr ?_; intro U h; simp only [z0, z1] at h; subst h
      refine s_val 31 rfl rfl (.bool true) (rfl) ?_
      refine nr ?_; intro U h; simp only [z0, z1] at h; subst h
      refine s_skipY 32 rfl rfl y9 rfl ?_
      refine nr ?_; intro U h; simp only [z0, z1] at h; subst h
      refine s_skipY 33 rfl rfl y9 rfl ?_
      refine nr ?_; intro U h; simp only [z0, z1] at h; subst h
      refine s_val 34 rfl rfl (.bool true) (rfl) ?_
      refine nr ?_; intro U h; simp only [z0, z1] at h; subst h
      refine s_val 35 rfl rfl (.bool true) (rfl) ?_
      refine nr ?_; intro U h; simp only [z0, z1] at h; subst h
      refine s_skipY 36 rfl rfl y13 rfl ?_
      refine nr ?_; intro U h; simp only [z0, z1] at h; subst h
      refine s_skipY 37 rfl rfl y13 rfl ?_
      refine nr ?_; intro U h; simp only [z0, z1] at h; subst h
      refine s_skipY 38 rfl rfl y13 rfl ?_
      refine nr ?_; intro U h; simp only [z0, z1] at h; subst h
      refine s_skipY 39 rfl rfl y13 rfl ?_
      refine nr ?_; intro U h; simp only [z0, z1] at h; subst h
      refine s_skipY 40 rfl rfl y13 rfl ?_
      refine nr ?_; intro U h; simp only [z0, z1] at h; subst h
      refine s_skipY 41 rfl rfl y13 rfl ?_
      refine nr ?_; intro U h; simp only [z0, z1] at h; subst h
      refine s_skipY 42 rfl rfl y13 rfl ?_
      refine nr ?_; intro U h; simp only [z0, z1] at h; subst h
      refine s_skipY 43 rfl rfl y13 rfl ?_
      refine nr ?_; intro U h; simp only [z0, z1] at h; subst h
      refine s_val 44 rfl rfl (.bool true) (rfl) ?_
      refine nr ?_; intro U h; simp only [z0, z1] at h; subst h
      refine wpList_nil ?_
      refine then_n ?_
      refine wp_cond_true rfl ?_
      refine wp_seq ?_
      refine wp_region_lit ?_
      refine s_val 45 rfl rfl (.agg (edA none 0 false false)) (run_bd 45 _ rfl [] rfl _ (bdQ_ _)) ?_
      refine nr ?_; intro U h; simp only [z0, z1] at h; subst h
      refine s_store rfl rfl 45 _ _ rfl g3 0 rfl (.agg (edA none 0 false false)) rfl 45 _ kg3 (edA none 0 false false) rfl (siQ' _ _ _ _) (Nat.le_refl _) (oneD _ _ _ _) (edA none 0 false false) (splice_whole _ _ (rfl)) ?_
      intro w5 St
      have kS := kg3
      replace kr := St.has (by omega) kr
      replace kg1 := St.has (by omega) kg1
      replace kg2 := St.has (by omega) kg2
      replace HL := HL.st St dHLg3
      replace HI := HI.st St dHIg3
      replace HB := HB.st St dHBg3
      replace GG := GG.st St (.inl bg3)
      replace kg3 := St.new
      clear St
      refine wpList_nil ?_
      refine then_n ?_
      refine wp_ret ?_
      refine then_r ?_
      refine bodyPost_ret (results_cell_row Try.results17 _ _ g3 45 _ (0, 0) _ rfl kg3 Try.underlying45 rfl (siQ' _ _ _ _)) rfl ?_
      have htk := tk_not (room := room) (L := L) (ID := i) (o := o) (M := M) (N := N) (fr := fr) (fun h => of_decide_eq_false hk h.1)
      rw [htk.1, htk.2]
      exact ⟨_, _, rfl, ⟨rfl, rfl⟩, ra, rc, kr, HL, GG⟩
    · cases hs : decide (M.l.Nodup)
      · refine wp_region_opq ?_
        intro OPS hY
        have y3 := hY 3 25 rfl
        have y9 := hY 9 31 rfl
        have y13 := hY 13 35 rfl
        clear hY
        refine s_val 22 rfl rfl (.pointer (some ⟨g2, 0, none⟩)) (run_fld 64 _ 0 rfl g2 0 rfl 0 (by kernel_rfl)) ?_
        refine nr ?_; intro U h; simp only [z0, z1] at h; subst h
        refine s_val 23 rfl rfl (.int .i64 M.kind) (ldF_k _ rfl g2 rfl (kg2)) ?_
        refine nr ?_; intro U h; simp only [z0, z1] at h; subst h
        refine s_val 24 rfl rfl (.bool false) (run_neq_k 3 .i64 _ _ _ rfl Try.underlying3 M.kind 4 rfl rfl false hk _) ?_
        refine nr ?_; intro U h; simp only [z0, z1] at h; subst h
        refine s_val 25 rfl rfl (.bool false) (rfl) ?_
        refine nr ?_; intro U h; simp only [z0, z1] at h; subst h
        refine s_gvalY 26 rfl rfl y3 rfl (.pointer (some ⟨g2, 56, none⟩)) (run_fld 64 _ 8 rfl g2 0 rfl 56 (by kernel_rfl)) ?_
        refine nr ?_; intro U h; simp only [z0, z1] at h; subst h
        refine s_gvalY 27 rfl rfl y3 rfl (.slice ao M.l.length cap) (ldF_t _ rfl g2 rfl (kg2)) ?_
        refine nr ?_; intro U h; simp only [z0, z1] at h; subst h
        refine s_gcallvY 28 rfl rfl y3 rfl _ 30 Try.call30 rfl rfl _ rfl [.slice ao M.l.length cap] rfl (Calls.boolt (refsimple_any _ ao cap M.l (HI) hl) hs) ?_
        intro w5 G
        replace kr := G.has kr
        replace kg1 := G.has kg1
        replace kg2 := G.has kg2
        replace kg3 := G.has kg3
        replace HL := HL.gro G
        replace HI := HI.gro G
        replace HB := HB.gro G
        replace GG := GG.tg G
        clear G
        refine nr ?_; intro U h; simp only [z0, z1] at h; subst h
        refine s_gvalY 29 rfl rfl y3 rfl (.bool true) (run_nt _ _ rfl false rfl) ?_
        refine nr ?_; intro U h; simp only [z0, z1] at h; subst h
        refine s_val 30 rfl rfl (.bool true) (rfl) ?_
        refine nr ?_; intro U h; simp only [z0, z1] at h; subst h
        refine s_val 31 rfl rfl (.bool true) (rfl) ?_
        refine nr ?_; intro U h; simp only [z0, z1] at h; subst h
        refine s_skipY 32 rfl rfl y9 rfl ?_
        refine nr ?_; intro U h; simp only [z0, z1] at h; subst h
        refine s_skipY 33 rfl rfl y9 rfl ?_
        refine nr ?_; intro U h; simp only [z0, z1] at h; subst h
        refine s_val 34 rfl rfl (.bool true) (rfl) ?_
        refine nr ?_; intro U h; simp only [z0, z1] at h; subst h
        refine s_val 35 rfl rfl (.bool true) (rfl) ?_
        refine nr ?_; intro U h; simp only [z0, z1] at h; subst h
        refine s_skipY 36 rfl rfl y13 rfl ?_
        refine nr ?_; intro U h; simp only [z0, z1] at h; subst h
        refine s_skipY 37 rfl rfl y13 rfl ?_
        refine nr ?_; intro U h; simp only [z0, z1] at h; subst h
        refine s_skipY 38 rfl rfl y13 rfl ?_
        refine nr ?_; intro U h; simp only [z0, z1] at h; subst h
        refine s_skipY 39 rfl rfl y13 rfl ?_
        refine nr ?_; intro U h; simp only [z0, z1] at h; subst h
        refine s_skipY 40 rfl rfl y13 rfl ?_
        refine nr ?_; intro U h; simp only [z0, z1] at h; subst h
        refine s_skipY 41 rfl rfl y13 rfl ?_
        refine nr ?_; intro U h; simp only [z0, z1] at h; subst h
        refine s_skipY 42 rfl rfl y13 rfl ?_
        refine nr ?_; intro U h; simp only [z0, z1] at h; subst h
        refine s_skipY 43 rfl rfl y13 rfl ?_
        refine nr ?_; intro U h; simp only [z0, z1] at h; subst h
        refine s_val 44 rfl rfl (.bool true) (rfl) ?_
        refine nr ?_; intro U h; simp only [z0, z1] at h; subst h
        refine wpList_nil ?_
        refine then_n ?_
        refine wp_cond_true rfl ?_
        refine wp_seq ?_
        refine wp_region_lit ?_
        refine s_val 45 rfl rfl (.agg (edA none 0 false false)) (run_bd 45 _ rfl [] rfl _ (bdQ_ _)) ?_
        refine nr ?_; intro U h; simp only [z0, z1] at h; subst h
        refine s_store rfl rfl 45 _ _ rfl g3 0 rfl (.agg (edA none 0 false false)) rfl 45 _ kg3 (edA none 0 false false) rfl (siQ' _ _ _ _) (Nat.le_refl _) (oneD _ _ _ _) (edA none 0 false false) (splice_whole _ _ (rfl)) ?_
        intro w6 St
        have kS := kg3
        replace kr := St.has (by omega) kr
        replace kg1 := St.has (by omega) kg1
        replace kg2 := St.has (by omega) kg2
        replace HL := HL.st St dHLg3
        replace HI := HI.st St dHIg3
        replace HB := HB.st St dHBg3
        replace GG := GG.st St (.inl bg3)
        replace kg3 := St.new
        clear St
        refine wpList_nil ?_
        refine then_n ?_
        refine wp_ret ?_
        refine then_r ?_
        refine bodyPost_ret (results_cell_row Try.results17 _ _ g3 45 _ (0, 0) _ rfl kg3 Try.underlying45 rfl (siQ' _ _ _ _)) rfl ?_
        have htk := tk_not (room := room) (L := L) (ID := i) (o := o) (M := M) (N := N) (fr := fr) (fun h => of_decide_eq_false hs h.2.1)
        rw [htk.1, htk.2]
        exact ⟨_, _, rfl, ⟨rfl, rfl⟩, ra, rc, kr, HL, GG⟩
      · refine wp_region_opq ?_
        intro OPS hY
        have y3 := hY 3 25 rfl
        have y9 := hY 9 31 rfl
        have y13 := hY 13 35 rfl
        clear hY
        refine s_val 22 rfl rfl (.pointer (some ⟨g2, 0, none⟩)) (run_fld 64 _ 0 rfl g2 0 rfl 0 (by kernel_rfl)) ?_
        refine nr ?_; intro U h; simp only [z0, z1] at h; subst h
        refine s_val 23 rfl rfl (.int .i64 M.kind) (ldF_k _ rfl g2 rfl (kg2)) ?_
        refine nr ?_; intro U h; simp only [z0, z1] at h; subst h
        refine s_val 24 rfl rfl (.bool false) (run_neq_k 3 .i64 _ _ _ rfl Try.underlying3 M.kind 4 rfl rfl false hk _) ?_
        refine nr ?_; intro U h; simp only [z0, z1] at h; subst h
        refine s_val 25 rfl rfl (.bool false) (rfl) ?_
        refine nr ?_; intro U h; simp only [z0, z1] at h; subst h
        refine s_gvalY 26 rfl rfl y3 rfl (.pointer (some ⟨g2, 56, none⟩)) (run_fld 64 _ 8 rfl g2 0 rfl 56 (by kernel_rfl)) ?_
        refine nr ?_; intro U h; simp only [z0, z1] at h; subst h
        refine s_gvalY 27 rfl rfl y3 rfl (.slice ao M.l.length cap) (ldF_t _ rfl g2 rfl (kg2)) ?_
        refine nr ?_; intro U h; simp only [z0, z1] at h; subst h
        refine s_gcallvY 28 rfl rfl y3 rfl _ 30 Try.call30 rfl rfl _ rfl [.slice ao M.l.length cap] rfl (Calls.boolt (refsimple_any _ ao cap M.l (HI) hl) hs) ?_
        intro w5 G
        replace kr := G.has kr
        replace kg1 := G.has kg1
        replace kg2 := G.has kg2
        replace kg3 := G.has kg3
        replace HL := HL.gro G
        replace HI := HI.gro G
        replace HB := HB.gro G
        replace GG := GG.tg G
        clear G
        refine nr ?_; intro U h; simp only [z0, z1] at h; subst h
        refine s_gvalY 29 rfl rfl y3 rfl (.bool false) (run_nt _ _ rfl true rfl) ?_
        refine nr ?_; intro U h; simp only [z0, z1] at h; subst h
        refine s_val 30 rfl rfl (.bool false) (rfl) ?_
        refine nr ?_; intro U h; simp only [z0, z1] at h; subst h
        refine s_val 31 rfl rfl (.bool false) (rfl) ?_
        refine nr ?_; intro U h; simp only [z0, z1] at h; subst h
        refine s_gvalY 32 rfl rfl y9 rfl (.int .i64 (plc M.l N)) (rfl) ?_
        refine nr ?_; intro U h; simp only [z0, z1] at h; subst h
        refine s_gvalY 33 rfl rfl y9 rfl (.bool true) (run_lssT 3 _ _ _ rfl (plc M.l N) 1 rfl rfl true (decide_eq_true (by have := of_decide_eq_false hp; omega)) _) ?_
        refine nr ?_; intro U h; simp only [z0, z1] at h; subst h
        refine s_val 34 rfl rfl (.bool true) (rfl) ?_
        refine nr ?_; intro U h; simp only [z0, z1] at h; subst h
        refine s_val 35 rfl rfl (.bool true) (rfl) ?_
        refine nr ?_; intro U h; simp only [z0, z1] at h; subst h
        refine s_skipY 36 rfl rfl y13 rfl ?_
        refine nr ?_; intro U h; simp only [z0, z1] at h; subst h
        refine s_skipY 37 rfl rfl y13 rfl ?_
        refine nr ?_; intro U h; simp only [z0, z1] at h; subst h
        refine s_skipY 38 rfl rfl y13 rfl ?_
        refine nr ?_; intro U h; simp only [z0, z1] at h; subst h
        refine s_skipY 39 rfl rfl y13 rfl ?_
        refine nr ?_; intro U h; simp only [z0, z1] at h; subst h
        refine s_skipY 40 rfl rfl y13 rfl ?_
        refine nr ?_; intro U h; simp only [z0, z1] at h; subst h
        refine s_skipY 41 rfl rfl y13 rfl ?_
        refine nr ?_; intro U h; simp only [z0, z1] at h; subst h
        refine s_skipY 42 rfl rfl y13 rfl ?_
        refine nr ?_; intro U h; simp only [z0, z1] at h; subst h
        refine s_skipY 43 rfl rfl y13 rfl ?_
        refine nr ?_; intro U h; simp only [z0, z1] at h; subst h
        refine s_val 44 rfl rfl (.bool true) (rfl) ?_
        refine nr ?_; intro U h; simp only [z0, z1] at h; subst h
        refine wpList_nil ?_
        refine then_n ?_
        refine wp_cond_true rfl ?_
        refine wp_seq ?_
        refine wp_region_lit ?_
        refine s_val 45 rfl rfl (.agg (edA none 0 false false)) (run_bd 45 _ rfl [] rfl _ (bdQ_ _)) ?_
        refine nr ?_; intro U h; simp only [z0, z1] at h; subst h
        refine s_store rfl rfl 45 _ _ rfl g3 0 rfl (.agg (edA none 0 false false)) rfl 45 _ kg3 (edA none 0 false false) rfl (siQ' _ _ _ _) (Nat.le_refl _) (oneD _ _ _ _) (edA none 0 false false) (splice_whole _ _ (rfl)) ?_
        intro w6 St
        have kS := kg3
        replace kr := St.has (by omega) kr
        replace kg1 := St.has (by omega) kg1
        replace kg2 := St.has (by omega) kg2
        replace HL := HL.st St dHLg3
        replace HI := HI.st St dHIg3
        replace HB := HB.st St dHBg3
        replace GG := GG.st St (.inl bg3)
        replace kg3 := St.new
        clear St
        refine wpList_nil ?_
        refine then_n ?_
        refine wp_ret ?_
        refine then_r ?_
        refine bodyPost_ret (results_cell_row Try.results17 _ _ g3 45 _ (0, 0) _ rfl kg3 Try.underlying45 rfl (siQ' _ _ _ _)) rfl ?_
        have htk := tk_not (room := room) (L := L) (ID := i) (o := o) (M := M) (N := N) (fr := fr) (fun h => of_decide_eq_false hp h.2.2.1)
        rw [htk.1, htk.2]
        exact ⟨_, _, rfl, ⟨rfl, rfl⟩, ra, rc, kr, HL, GG⟩
  · obtain ⟨q, hq, hq1, hql⟩ := plc_in (of_decide_eq_true hp)
    refine wp_region_lit ?_
    refine s_val 18 rfl rfl (.pointer (some ⟨g2, 56, none⟩)) (run_fld 64 _ 8 rfl g2 0 rfl 56 (by kernel_rfl)) ?_
    refine nr ?_; intro U h; simp only [z0, z1] at h; subst h
    refine s_val 19 rfl rfl (.slice ao M.l.length cap) (ldF_t _ rfl g2 rfl (kg2)) ?_
    refine nr ?_; intro U h; simp only [z0, z1] at h; subst h
    refine s_val 20 rfl rfl (.int .i64 N) (rfl) ?_
    refine nr ?_; intro U h; simp only [z0, z1] at h; subst h
    refine s_callv 21 rfl rfl _ 21 Try.call21 rfl rfl _ rfl [.slice ao M.l.length cap, .int .i64 N] rfl (Calls.valVt (refplace_any _ ao cap M.l (HI) hl N) (by rw [hq])) ?_
    intro w4 G
    replace kr := G.has kr
    replace kg1 := G.has kg1
    replace kg2 := G.has kg2
    replace kg3 := G.has kg3
    replace HL := HL.gro G
    replace HI := HI.gro G
    replace HB := HB.gro G
    replace GG := GG.tg G
    clear G
    refine nr ?_; intro U h; simp only [z0, z1] at h; subst h
    refine s_val 13 rfl rfl (.int .i64 ((q : Nat) : Int)) (rfl) ?_
    refine nr ?_; intro U h; simp only [z0, z1] at h; subst h
    refine wpList_nil ?_
    refine then_n ?_
    refine wp_seq ?_
    refine wp_seq ?_
    cases hk : decide (M.kind = 4)
    · refine wp_region_opq ?_
      intro OPS hY
      have y3 := hY 3 25 rfl
      have y9 := hY 9 31 rfl
      have y13 := hY 13 35 rfl
      clear hY
      refine s_val 22 rfl rfl (.pointer (some ⟨g2, 0, none⟩)) (run_fld 64 _ 0 rfl g2 0 rfl 0 (by kernel_rfl)) ?_
      refine nr ?_; intro U h; simp only [z0, z1] at h; subst h
      refine s_val 23 rfl rfl (.int .i64 M.kind) (ldF_k _ rfl g2 rfl (kg2)) ?_
      refine nr ?_; intro U h; simp only [z0, z1] at h; subst h
      refine s_val 24 rfl rfl (.bool true) (run_neq_k 3 .i64 _ _ _ rfl Try.underlying3 M.kind 4 rfl rfl true hk _) ?_
      refine nr ?_; intro U h; simp only [z0, z1] at h; subst h
      refine s_val 25 rfl rfl (.bool true) (rfl) ?_
      refine nr ?_; intro U h; simp only [z0, z1] at h; subst h
      refine s_skipY 26 rfl rfl y3 rfl ?_
      refine nr ?_; intro U h; simp only [z0, z1] at h; subst h
      refine s_skipY 27 rfl rfl y3 rfl ?_
      refine nr ?_; intro U h; simp only [z0, z1] at h; subst h
      refine s_skipY 28 rfl rfl y3 rfl ?_
      refine nr ?_; intro U h; simp only [z0, z1] at h; subst h
      refine s_skipY 29 rfl rfl y3 rfl ?_
      refine nr ?_; intro U h; simp only [z0, z1] at h; subst h
      refine s_val 30 rfl rfl (.bool true) (rfl) ?_
      refine nr ?_; intro U h; simp only [z0, z1] at h; subst h
      refine s_val 31 rfl rfl (.bool true) (rfl) ?_
      refine nr ?_; intro U h; simp only [z0, z1] at h; subst h
      refine s_skipY 32 rfl rfl y9 rfl ?_
      refine nr ?_; intro U h; simp only [z0, z1] at h; subst h
      refine s_skipY 33 rfl rfl y9 rfl ?_
      refine nr ?_; intro U h; simp only [z0, z1] at h; subst h
      refine s_val 34 rfl rfl (.bool true) (rfl) ?_
      refine nr ?_; intro U h; simp only [z0, z1] at h; subst h
      refine s_val 35 rfl rfl (.bool true) (rfl) ?_
      refine nr ?_; intro U h; simp only [z0, z1] at h; subst h
      refine s_skipY 36 rfl rfl y13 rfl ?_
      refine nr ?_; intro U h; simp only [z0, z1] at h; subst h
      refine s_skipY 37 rfl rfl y13 rfl ?_
      refine nr ?_; intro U h; simp only [z0, z1] at h; subst h
      refine s_skipY 38 rfl rfl y13 rfl ?_
      refine nr ?_; intro U h; simp only [z0, z1] at h; subst h
      refine s_skipY 39 rfl rfl y13 rfl ?_
      refine nr ?_; intro U h; simp only [z0, z1] at h; subst h
      refine s_skipY 40 rfl rfl y13 rfl ?_
      refine nr ?_; intro U h; simp only [z0, z1] at h; subst h
      refine s_skipY 41 rfl rfl y13 rfl ?_
      refine nr ?_; intro U h; simp only [z0, z1] at h; subst h
      refine s_skipY 42 rfl rfl y13 rfl ?_
      refine nr ?_; intro U h; simp only [z0, z1] at h; subst h
      refine s_skipY 43 rfl rfl y13 rfl ?_
      refine nr ?_; intro U h; simp only [z0, z1] at h; subst h
      refine s_val 44 rfl rfl (.bool true) (rfl) ?_
      refine nr ?_; intro U h; simp only [z0, z1] at h; subst h
      refine wpList_nil ?_
      refine then_n ?_
      refine wp_cond_true rfl ?_
      refine wp_seq ?_
      refine wp_region_lit ?_
      refine s_val 45 rfl rfl (.agg (edA none 0 false false)) (run_bd 45 _ rfl [] rfl _ (bdQ_ _)) ?_
      refine nr ?_; intro U h; simp only [z0, z1] at h; subst h
      refine s_store rfl rfl 45 _ _ rfl g3 0 rfl (.agg (edA none 0 false false)) rfl 45 _ kg3 (edA none 0 false false) rfl (siQ' _ _ _ _) (Nat.le_refl _) (oneD _ _ _ _) (edA none 0 false false) (splice_whole _ _ (rfl)) ?_
      intro w5 St
      have kS := kg3
      replace kr := St.has (by omega) kr
      replace kg1 := St.has (by omega) kg1
      replace kg2 := St.has (by omega) kg2
      replace HL := HL.st St dHLg3
      replace HI := HI.st St dHIg3
      replace HB := HB.st St dHBg3
      replace GG := GG.st St (.inl bg3)
      replace kg3 := St.new
      clear St
      refine wpList_nil ?_
      refine then_n ?_
      refine wp_ret ?_
      refine then_r ?_
      refine bodyPost_ret (results_cell_row Try.results17 _ _ g3 45 _ (0, 0) _ rfl kg3 Try.underlying45 rfl (siQ' _ _ _ _)) rfl ?_
      have htk := tk_not (room := room) (L := L) (ID := i) (o := o) (M := M) (N := N) (fr := fr) (fun h => of_decide_eq_false hk h.1)
      rw [htk.1, htk.2]
      exact ⟨_, _, rfl, ⟨rfl, rfl⟩, ra, rc, kr, HL, GG⟩
    · cases hs : decide (M.l.Nodup)
      · refine wp_region_opq ?_
        intro OPS hY
        have y3 := hY 3 25 rfl
        have y9 := hY 9 31 rfl
        have y13 := hY 13 35 rfl
        clear hY
        refine s_val 22 rfl rfl (.pointer (some ⟨g2, 0, none⟩)) (run_fld 64 _ 0 rfl g2 0 rfl 0 (by kernel_rfl)) ?_
        refine nr ?_; intro U h; simp only [z0, z1] at h; subst h
        refine s_val 23 rfl rfl (.int .i64 M.kind) (ldF_k _ rfl g2 rfl (kg2)) ?_
        refine nr ?_; intro U h; simp only [z0, z1] at h; subst h
        refine s_val 24 rfl rfl (.bool false) (run_neq_k 3 .i64 _ _ _ rfl Try.underlying3 M.kind 4 rfl rfl false hk _) ?_
        refine nr ?_; intro U h; simp only [z0, z1] at h; subst h
        refine s_val 25 rfl rfl (.bool false) (rfl) ?_
        refine nr ?_; intro U h; simp only [z0, z1] at h; subst h
        refine s_gvalY 26 rfl rfl y3 rfl (.pointer (some ⟨g2, 56, none⟩)) (run_fld 64 _ 8 rfl g2 0 rfl 56 (by kernel_rfl)) ?_
        refine nr ?_; intro U h; simp only [z0, z1] at h; subst h
        refine s_gvalY 27 rfl rfl y3 rfl (.slice ao M.l.length cap) (ldF_t _ rfl g2 rfl (kg2)) ?_
        refine nr ?_; intro U h; simp only [z0, z1] at h; subst h
        refine s_gcallvY 28 rfl rfl y3 rfl _ 30 Try.call30 rfl rfl _ rfl [.slice ao M.l.length cap] rfl (Calls.boolt (refsimple_any _ ao cap M.l (HI) hl) hs) ?_
        intro w5 G
        replace kr := G.has kr
        replace kg1 := G.has kg1
        replace kg2 := G.has kg2
        replace kg3 := G.has kg3
        replace HL := HL.gro G
        replace HI := HI.gro G
        replace HB := HB.gro G
        replace GG := GG.tg G
        clear G
        refine nr ?_; intro U h; simp only [z0, z1] at h; subst h
        refine s_gvalY 29 rfl rfl y3 rfl (.bool true) (run_nt _ _ rfl false rfl) ?_
        refine nr ?_; intro U h; simp only [z0, z1] at h; subst h
        refine s_val 30 rfl rfl (.bool true) (rfl) ?_
        refine nr ?_; intro U h; simp only [z0, z1] at h; subst h
        refine s_val 31 rfl rfl (.bool true) (rfl) ?_
        refine nr ?_; intro U h; simp only [z0, z1] at h; subst h
        refine s_skipY 32 rfl rfl y9 rfl ?_
        refine nr ?_; intro U h; simp only [z0, z1] at h; subst h
        refine s_skipY 33 rfl rfl y9 rfl ?_
        refine nr ?_; intro U h; simp only [z0, z1] at h; subst h
        refine s_val 34 rfl rfl (.bool true) (rfl) ?_
        refine nr ?_; intro U h; simp only [z0, z1] at h; subst h
        refine s_val 35 rfl rfl (.bool true) (rfl) ?_
        refine nr ?_; intro U h; simp only [z0, z1] at h; subst h
        refine s_skipY 36 rfl rfl y13 rfl ?_
        refine nr ?_; intro U h; simp only [z0, z1] at h; subst h
        refine s_skipY 37 rfl rfl y13 rfl ?_
        refine nr ?_; intro U h; simp only [z0, z1] at h; subst h
        refine s_skipY 38 rfl rfl y13 rfl ?_
        refine nr ?_; intro U h; simp only [z0, z1] at h; subst h
        refine s_skipY 39 rfl rfl y13 rfl ?_
        refine nr ?_; intro U h; simp only [z0, z1] at h; subst h
        refine s_skipY 40 rfl rfl y13 rfl ?_
        refine nr ?_; intro U h; simp only [z0, z1] at h; subst h
        refine s_skipY 41 rfl rfl y13 rfl ?_
        refine nr ?_; intro U h; simp only [z0, z1] at h; subst h
        refine s_skipY 42 rfl rfl y13 rfl ?_
        refine nr ?_; intro U h; simp only [z0, z1] at h; subst h
        refine s_skipY 43 rfl rfl y13 rfl ?_
        refine nr ?_; intro U h; simp only [z0, z1] at h; subst h
        refine s_val 44 rfl rfl (.bool true) (rfl) ?_
        refine nr ?_; intro U h; simp only [z0, z1] at h; subst h
        refine wpList_nil ?_
        refine then_n ?_
        refine wp_cond_true rfl ?_
        refine wp_seq ?_
        refine wp_region_lit ?_
        refine s_val 45 rfl rfl (.agg (edA none 0 false false)) (run_bd 45 _ rfl [] rfl _ (bdQ_ _)) ?_
        refine nr ?_; intro U h; simp only [z0, z1] at h; subst h
        refine s_store rfl rfl 45 _ _ rfl g3 0 rfl (.agg (edA none 0 false false)) rfl 45 _ kg3 (edA none 0 false false) rfl (siQ' _ _ _ _) (Nat.le_refl _) (oneD _ _ _ _) (edA none 0 false false) (splice_whole _ _ (rfl)) ?_
        intro w6 St
        have kS := kg3
        replace kr := St.has (by omega) kr
        replace kg1 := St.has (by omega) kg1
        replace kg2 := St.has (by omega) kg2
        replace HL := HL.st St dHLg3
        replace HI := HI.st St dHIg3
        replace HB := HB.st St dHBg3
        replace GG := GG.st St (.inl bg3)
        replace kg3 := St.new
        clear St
        refine wpList_nil ?_
        refine then_n ?_
        refine wp_ret ?_
        refine then_r ?_
        refine bodyPost_ret (results_cell_row Try.results17 _ _ g3 45 _ (0, 0) _ rfl kg3 Try.underlying45 rfl (siQ' _ _ _ _)) rfl ?_
        have htk := tk_not (room := room) (L := L) (ID := i) (o := o) (M := M) (N := N) (fr := fr) (fun h => of_decide_eq_false hs h.2.1)
        rw [htk.1, htk.2]
        exact ⟨_, _, rfl, ⟨rfl, rfl⟩, ra, rc, kr, HL, GG⟩
      · refine wp_region_opq ?_
        intro OPS hY
        have y3 := hY 3 25 rfl
        have y9 := hY 9 31 rfl
        have y13 := hY 13 35 rfl
        clear hY
        refine s_val 22 rfl rfl (.pointer (some ⟨g2, 0, none⟩)) (run_fld 64 _ 0 rfl g2 0 rfl 0 (by kernel_rfl)) ?_
        refine nr ?_; intro U h; simp only [z0, z1] at h; subst h
        refine s_val 23 rfl rfl (.int .i64 M.kind) (ldF_k _ rfl g2 rfl (kg2)) ?_
        refine nr ?_; intro U h; simp only [z0, z1] at h; subst h
        refine s_val 24 rfl rfl (.bool false) (run_neq_k 3 .i64 _ _ _ rfl Try.underlying3 M.kind 4 rfl rfl false hk _) ?_
        refine nr ?_; intro U h; simp only [z0, z1] at h; subst h
        refine s_val 25 rfl rfl (.bool false) (rfl) ?_
        refine nr ?_; intro U h; simp only [z0, z1] at h; subst h
        refine s_gvalY 26 rfl rfl y3 rfl (.pointer (some ⟨g2, 56, none⟩)) (run_fld 64 _ 8 rfl g2 0 rfl 56 (by kernel_rfl)) ?_
        refine nr ?_; intro U h; simp only [z0, z1] at h; subst h
        refine s_gvalY 27 rfl rfl y3 rfl (.slice ao M.l.length cap) (ldF_t _ rfl g2 rfl (kg2)) ?_
        refine nr ?_; intro U h; simp only [z0, z1] at h; subst h
        refine s_gcallvY 28 rfl rfl y3 rfl _ 30 Try.call30 rfl rfl _ rfl [.slice ao M.l.length cap] rfl (Calls.boolt (refsimple_any _ ao cap M.l (HI) hl) hs) ?_
        intro w5 G
        replace kr := G.has kr
        replace kg1 := G.has kg1
        replace kg2 := G.has kg2
        replace kg3 := G.has kg3
        replace HL := HL.gro G
        replace HI := HI.gro G
        replace HB := HB.gro G
        replace GG := GG.tg G
        clear G
        refine nr ?_; intro U h; simp only [z0, z1] at h; subst h
        refine s_gvalY 29 rfl rfl y3 rfl (.bool false) (run_nt _ _ rfl true rfl) ?_
        refine nr ?_; intro U h; simp only [z0, z1] at h; subst h
        refine s_val 30 rfl rfl (.bool false) (rfl) ?_
        refine nr ?_; intro U h; simp only [z0, z1] at h; subst h
        refine s_val 31 rfl rfl (.bool false) (rfl) ?_
        refine nr ?_; intro U h; simp only [z0, z1] at h; subst h
        refine s_gvalY 32 rfl rfl y9 rfl (.int .i64 ((q : Nat) : Int)) (rfl) ?_
        refine nr ?_; intro U h; simp only [z0, z1] at h; subst h
        refine s_gvalY 33 rfl rfl y9 rfl (.bool false) (run_lssT 3 _ _ _ rfl ((q : Nat) : Int) 1 rfl rfl false (decide_eq_false (by omega)) _) ?_
        refine nr ?_; intro U h; simp only [z0, z1] at h; subst h
        refine s_val 34 rfl rfl (.bool false) (rfl) ?_
        refine nr ?_; intro U h; simp only [z0, z1] at h; subst h
        refine s_val 35 rfl rfl (.bool false) (rfl) ?_
        refine nr ?_; intro U h; simp only [z0, z1] at h; subst h
        refine s_gvalY 36 rfl rfl y13 rfl (.pointer (some ⟨g2, 56, none⟩)) (run_fld 64 _ 8 rfl g2 0 rfl 56 (by kernel_rfl)) ?_
        refine nr ?_; intro U h; simp only [z0, z1] at h; subst h
        refine s_gvalY 37 rfl rfl y13 rfl (.slice ao M.l.length cap) (ldF_t _ rfl g2 rfl (kg2)) ?_
        refine nr ?_; intro U h; simp only [z0, z1] at h; subst h
        refine s_gvalY 38 rfl rfl y13 rfl (.int .i64 ((q : Nat) : Int)) (rfl) ?_
        refine nr ?_; intro U h; simp only [z0, z1] at h; subst h
        refine s_gvalY 39 rfl rfl y13 rfl (.int .i64 ((q - 1 : Nat) : Int)) (run_subI 3 _ _ _ rfl ((q : Nat) : Int) 1 ((q - 1 : Nat) : Int) rfl rfl (by omega) (by omega) (by omega) _) ?_
        refine nr ?_; intro U h; simp only [z0, z1] at h; subst h
        refine s_gvalY 40 rfl rfl y13 rfl (.pointer (pA ao (q - 1))) (run_ixI (HI) _ _ rfl rfl (q - 1) rfl (by omega)) ?_
        refine nr ?_; intro U h; simp only [z0, z1] at h; subst h
        refine s_gvalY 41 rfl rfl y13 rfl (.int .i64 (M.l.getD (q - 1) 0)) (run_ldI (HI) _ rfl (q - 1) rfl (by omega)) ?_
        refine nr ?_; intro U h; simp only [z0, z1] at h; subst h
        refine s_gvalY 42 rfl rfl y13 rfl (.int .i64 fr) (rfl) ?_
        refine nr ?_; intro U h; simp only [z0, z1] at h; subst h
        cases hf : decide (M.l.getD (q - 1) 0 = fr)
        · refine s_gvalY 43 rfl rfl y13 rfl (.bool true) (run_neq_k 3 .i64 _ _ _ rfl Try.underlying3 (M.l.getD (q - 1) 0) fr rfl rfl true hf _) ?_
          refine nr ?_; intro U h; simp only [z0, z1] at h; subst h
          refine s_val 44 rfl rfl (.bool true) (rfl) ?_
          refine nr ?_; intro U h; simp only [z0, z1] at h; subst h
          refine wpList_nil ?_
          refine then_n ?_
          refine wp_cond_true rfl ?_
          refine wp_seq ?_
          refine wp_region_lit ?_
          refine s_val 45 rfl rfl (.agg (edA none 0 false false)) (run_bd 45 _ rfl [] rfl _ (bdQ_ _)) ?_
          refine nr ?_; intro U h; simp only [z0, z1] at h; subst h
          refine s_store rfl rfl 45 _ _ rfl g3 0 rfl (.agg (edA none 0 false false)) rfl 45 _ kg3 (edA none 0 false false) rfl (siQ' _ _ _ _) (Nat.le_refl _) (oneD _ _ _ _) (edA none 0 false false) (splice_whole _ _ (rfl)) ?_
          intro w6 St
          have kS := kg3
          replace kr := St.has (by omega) kr
          replace kg1 := St.has (by omega) kg1
          replace kg2 := St.has (by omega) kg2
          replace HL := HL.st St dHLg3
          replace HI := HI.st St dHIg3
          replace HB := HB.st St dHBg3
          replace GG := GG.st St (.inl bg3)
          replace kg3 := St.new
          clear St
          refine wpList_nil ?_
          refine then_n ?_
          refine wp_ret ?_
          refine then_r ?_
          refine bodyPost_ret (results_cell_row Try.results17 _ _ g3 45 _ (0, 0) _ rfl kg3 Try.underlying45 rfl (siQ' _ _ _ _)) rfl ?_
          have htk := tk_not (room := room) (L := L) (ID := i) (o := o) (M := M) (N := N) (fr := fr) (fun h => of_decide_eq_false hf (by have h4 := h.2.2.2; rw [hq, Int.toNat_natCast] at h4; exact h4))
          rw [htk.1, htk.2]
          exact ⟨_, _, rfl, ⟨rfl, rfl⟩, ra, rc, kr, HL, GG⟩
        · refine s_gvalY 43 rfl rfl y13 rfl (.bool false) (run_neq_k 3 .i64 _ _ _ rfl Try.underlying3 (M.l.getD (q - 1) 0) fr rfl rfl false hf _) ?_
          refine nr ?_; intro U h; simp only [z0, z1] at h; subst h
          refine s_val 44 rfl rfl (.bool false) (rfl) ?_
          refine nr ?_; intro U h; simp only [z0, z1] at h; subst h
          refine wpList_nil ?_
          refine then_n ?_
          refine wp_cond_false rfl ?_
          refine wp_skip ?_
          refine then_n ?_
          refine wp_seq ?_
          refine wp_region_lit ?_
          refine s_val 46 rfl rfl (.int .i64 fr) (rfl) ?_
          refine nr ?_; intro U h; simp only [z0, z1] at h; subst h
          refine s_val 47 rfl rfl (.pointer (some ⟨g2, 1, none⟩)) (run_fld 64 _ 1 rfl g2 0 rfl 1 (by kernel_rfl)) ?_
          refine nr ?_; intro U h; simp only [z0, z1] at h; subst h
          refine s_val 48 rfl rfl (.agg (paA M.p)) (ldF_p _ rfl g2 rfl (kg2)) ?_
          refine nr ?_; intro U h; simp only [z0, z1] at h; subst h
          refine s_val 49 rfl rfl (.agg (frA (frY (mDrop M.p) none 0 gN))) (run_bd 64 _ rfl [(0, .int .i64 5), (1, .agg (paA M.p))] rfl _ (bdF5 _ _)) ?_
          refine nr ?_; intro U h; simp only [z0, z1] at h; subst h
          refine s_val 50 rfl rfl (.agg (hopA fr (frY (mDrop M.p) none 0 gN))) (run_bd 71 _ rfl [(0, .int .i64 fr), (1, .agg (frA (frY (mDrop M.p) none 0 gN)))] rfl _ (bdH2 _ _ _)) ?_
          refine nr ?_; intro U h; simp only [z0, z1] at h; subst h
          refine s_bsl 51 rfl rfl 39 1 _ rfl [(0, .agg (hopA fr (frY (mDrop M.p) none 0 gN)))] rfl (hopA fr (frY (mDrop M.p) none 0 gN)) 71 (bsH _ _ _) ?_
          intro w6 q1 G eq1 kq1
          have bq1 := size_basS GG eq1
          have drq1 := lt_new kr eq1
          have dg1q1 := lt_new kg1 eq1
          have dg2q1 := lt_new kg2 eq1
          have dg3q1 := lt_new kg3 eq1
          have dHLq1 := HL.ne eq1
          have dHIq1 := HI.ne eq1
          have dHBq1 := HB.ne eq1
          replace kr := G.has kr
          replace kg1 := G.has kg1
          replace kg2 := G.has kg2
          replace kg3 := G.has kg3
          replace HL := HL.gro G
          replace HI := HI.gro G
          replace HB := HB.gro G
          replace GG := GG.tg G
          clear G
          clear eq1
          refine nr ?_; intro U h; simp only [z0, z1] at h; subst h
          refine s_val 52 rfl rfl (.agg (edA (some ⟨q1, 0, none⟩) 1 false false)) (run_bd 45 _ rfl [(0, .slice (some ⟨q1, 0, none⟩) 1 1)] rfl _ (bdQ0 _ _ _)) ?_
          refine nr ?_; intro U h; simp only [z0, z1] at h; subst h
          refine s_alloc 14 rfl rfl 45 rfl _ zvQ (edA none 0 false false) rfl ?_
          intro w7 g4 G eg4 kg4
          have bg4 := size_basS GG eg4
          have drg4 := lt_new kr eg4
          have dg1g4 := lt_new kg1 eg4
          have dg2g4 := lt_new kg2 eg4
          have dg3g4 := lt_new kg3 eg4
          have dq1g4 := lt_new kq1 eg4
          have dHLg4 := HL.ne eg4
          have dHIg4 := HI.ne eg4
          have dHBg4 := HB.ne eg4
          replace kr := G.has kr
          replace kg1 := G.has kg1
          replace kg2 := G.has kg2
          replace kg3 := G.has kg3
          replace kq1 := G.has kq1
          replace HL := HL.gro G
          replace HI := HI.gro G
          replace HB := HB.gro G
          replace GG := GG.tg G
          clear G
          clear eg4
          refine nr ?_; intro U h; simp only [z0, z1] at h; subst h
          refine s_store rfl rfl 45 _ _ rfl g4 0 rfl (.agg (edA (some ⟨q1, 0, none⟩) 1 false false)) rfl 45 _ kg4 (edA (some ⟨q1, 0, none⟩) 1 false false) rfl (siQ' _ _ _ _) (Nat.le_refl _) (oneD _ _ _ _) (edA (some ⟨q1, 0, none⟩) 1 false false) (splice_whole _ _ (rfl)) ?_
          intro w8 St
          have kS := kg4
          replace kr := St.has (by omega) kr
          replace kg1 := St.has (by omega) kg1
          replace kg2 := St.has (by omega) kg2
          replace kg3 := St.has (by omega) kg3
          replace kq1 := St.has (by omega) kq1
          replace HL := HL.st St dHLg4
          replace HI := HI.st St dHIg4
          replace HB := HB.st St dHBg4
          replace GG := GG.st St (.inl bg4)
          replace kg4 := St.new
          clear St
          refine wpList_nil ?_
          refine then_n ?_
          refine wp_seq ?_
          refine wp_region_lit ?_
          refine s_val 15 rfl rfl (.int .i64 (-1)) (rfl) ?_
          refine nr ?_; intro U h; simp only [z0, z1] at h; subst h
          refine wpList_nil ?_
          refine then_n ?_
          refine wp_seq ?_
          refine wp_seq ?_
          refine wp_region_lit ?_
          refine s_val 53 rfl rfl (.int .i64 ((q : Nat) : Int)) (rfl) ?_
          refine nr ?_; intro U h; simp only [z0, z1] at h; subst h
          refine s_val 54 rfl rfl (.int .i64 ((q + 1 : Nat) : Int)) (run_addI 3 _ _ _ rfl ((q : Nat) : Int) 1 ((q + 1 : Nat) : Int) rfl rfl (by omega) (by omega) (by omega) _) ?_
          refine nr ?_; intro U h; simp only [z0, z1] at h; subst h
          refine s_val 55 rfl rfl (.pointer (some ⟨g2, 56, none⟩)) (run_fld 64 _ 8 rfl g2 0 rfl 56 (by kernel_rfl)) ?_
          refine nr ?_; intro U h; simp only [z0, z1] at h; subst h
          refine s_val 56 rfl rfl (.slice ao M.l.length cap) (ldF_t _ rfl g2 rfl (kg2)) ?_
          refine nr ?_; intro U h; simp only [z0, z1] at h; subst h
          refine s_val 57 rfl rfl (.int .i64 ((M.l.length : Nat) : Int)) (run_len Try.underlying32 _ rfl _ _ _ rfl _) ?_
          refine nr ?_; intro U h; simp only [z0, z1] at h; subst h
          cases hm : decide (((q + 1 : Nat) : Int) < ((M.l.length : Nat) : Int))
          · have hm2 := of_decide_eq_false hm
            refine s_val 58 rfl rfl (.bool false) (run_lssT 3 _ _ _ rfl ((q + 1 : Nat) : Int) ((M.l.length : Nat) : Int) rfl rfl false hm _) ?_
            refine nr ?_; intro U h; simp only [z0, z1] at h; subst h
            refine wpList_nil ?_
            refine then_n ?_
            refine wp_cond_false rfl ?_
            refine wp_seq ?_
            refine wp_region_lit ?_
            refine s_val 70 rfl rfl (.pointer (some ⟨g2, 35, none⟩)) (run_fld 64 _ 4 rfl g2 0 rfl 35 (by kernel_rfl)) ?_
            refine nr ?_; intro U h; simp only [z0, z1] at h; subst h
            refine s_val 71 rfl rfl (.agg (idA M.b)) (ldF_b _ rfl g2 rfl (kg2)) ?_
            refine nr ?_; intro U h; simp only [z0, z1] at h; subst h
            refine s_val 72 rfl rfl (.agg (idA i)) (ldI0 _ rfl g1 rfl (kg1)) ?_
            refine nr ?_; intro U h; simp only [z0, z1] at h; subst h
            cases hb : decide (M.b = i)
            · refine s_val 73 rfl rfl (.bool true) (run_neI _ _ _ rfl _ _ rfl rfl hM.b hi true hb) ?_
              refine nr ?_; intro U h; simp only [z0, z1] at h; subst h
              refine wpList_nil ?_
              refine then_n ?_
              refine wp_cond_true rfl ?_
              refine wp_seq ?_
              refine wp_region_lit ?_
              refine s_val 74 rfl rfl (.agg (edA (some ⟨q1, 0, none⟩) 1 false false)) (ldQ_0 _ rfl g4 rfl (kg4)) ?_
              refine nr ?_; intro U h; simp only [z0, z1] at h; subst h
              refine s_store rfl rfl 45 _ _ rfl g3 0 rfl (.agg (edA (some ⟨q1, 0, none⟩) 1 false false)) rfl 45 _ kg3 (edA (some ⟨q1, 0, none⟩) 1 false false) rfl (siQ' _ _ _ _) (Nat.le_refl _) (oneD _ _ _ _) (edA (some ⟨q1, 0, none⟩) 1 false false) (splice_whole _ _ (rfl)) ?_
              intro w9 St
              have kS := kg3
              replace kr := St.has (by omega) kr
              replace kg1 := St.has (by omega) kg1
              replace kg2 := St.has (by omega) kg2
              replace kq1 := St.has (by omega) kq1
              replace kg4 := St.has (by omega) kg4
              replace HL := HL.st St dHLg3
              replace HI := HI.st St dHIg3
              replace HB := HB.st St dHBg3
              replace GG := GG.st St (.inl bg3)
              replace kg3 := St.new
              clear St
              refine wpList_nil ?_
              refine then_n ?_
              refine wp_ret ?_
              refine then_r ?_
              refine bodyPost_ret (results_cell_row Try.results17 _ _ g3 45 _ (0, 0) _ rfl kg3 Try.underlying45 rfl (siQ' _ _ _ _)) rfl ?_
              have hfm := tk_for (of_decide_eq_true hk) (of_decide_eq_true hs) hq hq1 (of_decide_eq_true hf)
              have htk := tk_end (room := room) (L := L) (ID := i) (o := o) hfm hq (by omega)
              rw [htk.1, htk.2]
              rw [enE_no (of_decide_eq_false hb), enL_no (of_decide_eq_false hb)]
              exact ⟨_, _, rfl, ⟨q1, none, 0, Sl.nil, Sl.nil, Sl.nil, rfl, rfl, kq1, bq1, OY.frq (M := mDrop M.p) (OY.nil _ 3 1 _)⟩, ra, rc, kr, HL, GG⟩
            · refine s_val 73 rfl rfl (.bool false) (run_neI _ _ _ rfl _ _ rfl rfl hM.b hi false hb) ?_
              refine nr ?_; intro U h; simp only [z0, z1] at h; subst h
              refine wpList_nil ?_
              refine then_n ?_
              refine wp_cond_false rfl ?_
              refine wp_skip ?_
              refine then_n ?_
              refine wp_seq ?_
              refine wp_region_lit ?_
              refine s_val 75 rfl rfl (.pointer (some ⟨r, 0, none⟩)) (rfl) ?_
              refine nr ?_; intro U h; simp only [z0, z1] at h; subst h
              refine s_val 76 rfl rfl (.pointer (some ⟨g2, 1, none⟩)) (run_fld 64 _ 1 rfl g2 0 rfl 1 (by kernel_rfl)) ?_
              refine nr ?_; intro U h; simp only [z0, z1] at h; subst h
              refine s_val 77 rfl rfl (.agg (paA M.p)) (ldF_p _ rfl g2 rfl (kg2)) ?_
              refine nr ?_; intro U h; simp only [z0, z1] at h; subst h
              refine s_val 78 rfl rfl (.pointer (some ⟨g2, 19, none⟩)) (run_fld 64 _ 3 rfl g2 0 rfl 19 (by kernel_rfl)) ?_
              refine nr ?_; intro U h; simp only [z0, z1] at h; subst h
              refine s_val 79 rfl rfl (.agg (idA M.a)) (ldF_a _ rfl g2 rfl (kg2)) ?_
              refine nr ?_; intro U h; simp only [z0, z1] at h; subst h
              refine s_val 80 rfl rfl (.pointer (some ⟨g2, 35, none⟩)) (run_fld 64 _ 4 rfl g2 0 rfl 35 (by kernel_rfl)) ?_
              refine nr ?_; intro U h; simp only [z0, z1] at h; subst h
              refine s_val 81 rfl rfl (.agg (idA M.b)) (ldF_b _ rfl g2 rfl (kg2)) ?_
              refine nr ?_; intro U h; simp only [z0, z1] at h; subst h
              refine s_val 82 rfl rfl (.int .i64 fr) (rfl) ?_
              refine nr ?_; intro U h; simp only [z0, z1] at h; subst h
              refine s_val 83 rfl rfl (.int .i64 (-1)) (rfl) ?_
              refine nr ?_; intro U h; simp only [z0, z1] at h; subst h
              refine s_val 84 rfl rfl (.agg (enA (xT fr M (-1)))) (run_bd 73 _ rfl [(0, .agg (paA M.p)), (1, .agg (idA M.a)), (2, .agg (idA M.b)), (3, .int .i64 fr), (4, .int .i64 (-1))] rfl _ (bdE5 _ _ _ _ _ _)) ?_
              refine nr ?_; intro U h; simp only [z0, z1] at h; subst h
              refine s_callx 85 rfl rfl _ 26 Try.call26 rfl rfl _ rfl [.pointer (some ⟨r, 0, none⟩), .agg (enA (xT fr M (-1)))] rfl (radd_any _ r room ra rc L kr HL hLb hKn (xT fr M (-1)) (xT_ok hM hfr m1i)) (by rintro _ _ ⟨he, _⟩; exact ⟨_, he⟩) ?_
              rintro v w9 ⟨he, ra2, rc2, kr2, HL2, G2⟩
              cases he
              replace kg1 := G2.has kg1 (ne_cells kg1 kr (by decide))
              replace kg2 := G2.has kg2 (ne_cells kg2 kr (by decide))
              replace kg3 := G2.has kg3 (ne_cells kg3 kr (by decide))
              replace kq1 := G2.has kq1 (ne_cells kq1 kr (by decide))
              replace kg4 := G2.has kg4 (ne_cells kg4 kr (by decide))
              replace HI := HI.rtw G2 dHIr
              replace HB := HB.rtw G2 dHBr
              replace GG := GG.trans G2
              have dHLg1 := HL2.own.ne kg1 (by decide)
              have dHLg2 := HL2.own.ne kg2 (by decide)
              have dHLg3 := HL2.own.ne kg3 (by decide)
              have dHLq1 := HL2.own.ne kq1 (by decide)
              have dHLg4 := HL2.own.ne kg4 (by decide)
              clear kr HL G2
              have kr := kr2
              have HL := HL2
              clear kr2 HL2
              refine nr ?_; intro U h; simp only [z0, z1] at h; subst h
              refine s_val 16 rfl rfl (.int .i64 (addC room L (xT fr M (-1)))) (rfl) ?_
              refine nr ?_; intro U h; simp only [z0, z1] at h; subst h
              refine wpList_nil ?_
              refine then_n ?_
              refine wp_seq ?_
              refine wp_seq ?_
              refine wp_region_lit ?_
              refine s_val 86 rfl rfl (.int .i64 (addC room L (xT fr M (-1)))) (rfl) ?_
              refine nr ?_; intro U h; simp only [z0, z1] at h; subst h
              cases hc : decide (addC room L (xT fr M (-1)) = 0)
              · refine s_val 87 rfl rfl (.bool true) (run_neq_k 42 .i64 _ _ _ rfl Try.underlying42 (addC room L (xT fr M (-1))) 0 rfl rfl true hc _) ?_
                refine nr ?_; intro U h; simp only [z0, z1] at h; subst h
                refine wpList_nil ?_
                refine then_n ?_
                refine wp_cond_true rfl ?_
                refine wp_seq ?_
                refine wp_region_lit ?_
                refine s_val 88 rfl rfl (.int .i64 (addC room L (xT fr M (-1)))) (rfl) ?_
                refine nr ?_; intro U h; simp only [z0, z1] at h; subst h
                refine s_val 89 rfl rfl (.bool (decide (addC room L (xT fr M (-1)) = 5))) (run_eq_k 42 .i64 _ _ _ rfl Try.underlying42 (addC room L (xT fr M (-1))) 5 rfl rfl (decide (addC room L (xT fr M (-1)) = 5)) rfl _) ?_
                refine nr ?_; intro U h; simp only [z0, z1] at h; subst h
                refine s_val 90 rfl rfl (.pointer (some ⟨g4, 2, none⟩)) (run_fld 45 _ 2 rfl g4 0 rfl 2 (by kernel_rfl)) ?_
                refine nr ?_; intro U h; simp only [z0, z1] at h; subst h
                refine s_store rfl rfl 4 _ _ rfl g4 2 rfl (.bool (decide (addC room L (xT fr M (-1)) = 5))) rfl 45 _ kg4 #[.bool (decide (addC room L (xT fr M (-1)) = 5))] rfl (si4) (Nat.le_refl 3) (b_one _) (edA (some ⟨q1, 0, none⟩) 1 false (decide (addC room L (xT fr M (-1)) = 5))) (spD_f _ _ _ _ _) ?_
                intro w10 St
                have kS := kg4
                replace kr := St.has (by omega) kr
                replace kg1 := St.has (by omega) kg1
                replace kg2 := St.has (by omega) kg2
                replace kg3 := St.has (by omega) kg3
                replace kq1 := St.has (by omega) kq1
                replace HL := HL.st St dHLg4
                replace HI := HI.st St dHIg4
                replace HB := HB.st St dHBg4
                replace GG := GG.st St (.inl bg4)
                replace kg4 := St.new
                clear St
                refine wpList_nil ?_
                refine then_n ?_
                refine wp_seq ?_
                refine wp_region_lit ?_
                refine s_val 91 rfl rfl (.agg (edA (some ⟨q1, 0, none⟩) 1 false (decide (addC room L (xT fr M (-1)) = 5)))) (ldQ_0 _ rfl g4 rfl (kg4)) ?_
                refine nr ?_; intro U h; simp only [z0, z1] at h; subst h
                refine s_store rfl rfl 45 _ _ rfl g3 0 rfl (.agg (edA (some ⟨q1, 0, none⟩) 1 false (decide (addC room L (xT fr M (-1)) = 5)))) rfl 45 _ kg3 (edA (some ⟨q1, 0, none⟩) 1 false (decide (addC room L (xT fr M (-1)) = 5))) rfl (siQ' _ _ _ _) (Nat.le_refl _) (oneD _ _ _ _) (edA (some ⟨q1, 0, none⟩) 1 false (decide (addC room L (xT fr M (-1)) = 5))) (splice_whole _ _ (rfl)) ?_
                intro w11 St
                have kS := kg3
                replace kr := St.has (by omega) kr
                replace kg1 := St.has (by omega) kg1
                replace kg2 := St.has (by omega) kg2
                replace kq1 := St.has (by omega) kq1
                replace kg4 := St.has (by omega) kg4
                replace HL := HL.st St dHLg3
                replace HI := HI.st St dHIg3
                replace HB := HB.st St dHBg3
                replace GG := GG.st St (.inl bg3)
                replace kg3 := St.new
                clear St
                refine wpList_nil ?_
                refine then_n ?_
                refine wp_ret ?_
                refine then_r ?_
                refine bodyPost_ret (results_cell_row Try.results17 _ _ g3 45 _ (0, 0) _ rfl kg3 Try.underlying45 rfl (siQ' _ _ _ _)) rfl ?_
                have hfm := tk_for (of_decide_eq_true hk) (of_decide_eq_true hs) hq hq1 (of_decide_eq_true hf)
                have htk := tk_end (room := room) (L := L) (ID := i) (o := o) hfm hq (by omega)
                rw [htk.1, htk.2]
                rw [enE_full (of_decide_eq_true hb) (of_decide_eq_false hc), enL_yes (of_decide_eq_true hb)]
                exact ⟨_, _, rfl, ⟨q1, none, 0, Sl.nil, Sl.nil, Sl.nil, rfl, rfl, kq1, bq1, OY.frq (M := mDrop M.p) (OY.nil _ 3 1 _)⟩, ra2, rc2, kr, HL, GG⟩
              · refine s_val 87 rfl rfl (.bool false) (run_neq_k 42 .i64 _ _ _ rfl Try.underlying42 (addC room L (xT fr M (-1))) 0 rfl rfl false hc _) ?_
                refine nr ?_; intro U h; simp only [z0, z1] at h; subst h
                refine wpList_nil ?_
                refine then_n ?_
                refine wp_cond_false rfl ?_
                refine wp_skip ?_
                refine then_n ?_
                refine wp_seq ?_
                refine wp_seq ?_
                refine wp_region_lit ?_
                refine s_val 92 rfl rfl (.int .i64 (-1)) (rfl) ?_
                refine nr ?_; intro U h; simp only [z0, z1] at h; subst h
                refine s_val 93 rfl rfl (.bool true) (run_lssT 3 _ _ _ rfl (-1) 0 rfl rfl true (by decide) _) ?_
                refine nr ?_; intro U h; simp only [z0, z1] at h; subst h
                refine wpList_nil ?_
                refine then_n ?_
                refine wp_cond_true rfl ?_
                refine wp_seq ?_
                refine wp_region_lit ?_
                refine s_val 94 rfl rfl (.agg (edA none 0 true false)) (run_bd 45 _ rfl [(1, .bool true)] rfl _ (bdQ1 _ _)) ?_
                refine nr ?_; intro U h; simp only [z0, z1] at h; subst h
                refine s_store rfl rfl 45 _ _ rfl g3 0 rfl (.agg (edA none 0 true false)) rfl 45 _ kg3 (edA none 0 true false) rfl (siQ' _ _ _ _) (Nat.le_refl _) (oneD _ _ _ _) (edA none 0 true false) (splice_whole _ _ (rfl)) ?_
                intro w10 St
                have kS := kg3
                replace kr := St.has (by omega) kr
                replace kg1 := St.has (by omega) kg1
                replace kg2 := St.has (by omega) kg2
                replace kq1 := St.has (by omega) kq1
                replace kg4 := St.has (by omega) kg4
                replace HL := HL.st St dHLg3
                replace HI := HI.st St dHIg3
                replace HB := HB.st St dHBg3
                replace GG := GG.st St (.inl bg3)
                replace kg3 := St.new
                clear St
                refine wpList_nil ?_
                refine then_n ?_
                refine wp_ret ?_
                refine then_r ?_
                refine bodyPost_ret (results_cell_row Try.results17 _ _ g3 45 _ (0, 0) _ rfl kg3 Try.underlying45 rfl (siQ' _ _ _ _)) rfl ?_
                have hfm := tk_for (of_decide_eq_true hk) (of_decide_eq_true hs) hq hq1 (of_decide_eq_true hf)
                have htk := tk_end (room := room) (L := L) (ID := i) (o := o) hfm hq (by omega)
                rw [htk.1, htk.2]
                rw [enE_add (of_decide_eq_true hb) (of_decide_eq_true hc), enL_yes (of_decide_eq_true hb)]
                exact ⟨_, _, rfl, ⟨rfl, rfl⟩, ra2, rc2, kr, HL, GG⟩
          · have hm2 := of_decide_eq_true hm
            refine s_val 58 rfl rfl (.bool true) (run_lssT 3 _ _ _ rfl ((q + 1 : Nat) : Int) ((M.l.length : Nat) : Int) rfl rfl true hm _) ?_
            refine nr ?_; intro U h; simp only [z0, z1] at h; subst h
            refine wpList_nil ?_
            refine then_n ?_
            refine wp_cond_true rfl ?_
            refine wp_seq ?_
            refine wp_region_lit ?_
            refine s_val 59 rfl rfl (.pointer (some ⟨g2, 56, none⟩)) (run_fld 64 _ 8 rfl g2 0 rfl 56 (by kernel_rfl)) ?_
            refine nr ?_; intro U h; simp only [z0, z1] at h; subst h
            refine s_val 60 rfl rfl (.slice ao M.l.length cap) (ldF_t _ rfl g2 rfl (kg2)) ?_
            refine nr ?_; intro U h; simp only [z0, z1] at h; subst h
            refine s_val 61 rfl rfl (.int .i64 ((q : Nat) : Int)) (rfl) ?_
            refine nr ?_; intro U h; simp only [z0, z1] at h; subst h
            refine s_val 62 rfl rfl (.int .i64 ((q + 1 : Nat) : Int)) (run_addI 3 _ _ _ rfl ((q : Nat) : Int) 1 ((q + 1 : Nat) : Int) rfl rfl (by omega) (by omega) (by omega) _) ?_
            refine nr ?_; intro U h; simp only [z0, z1] at h; subst h
            refine s_val 63 rfl rfl (.pointer (pA ao (q + 1))) (run_ixI (HI) _ _ rfl rfl (q + 1) rfl (by omega)) ?_
            refine nr ?_; intro U h; simp only [z0, z1] at h; subst h
            refine s_val 64 rfl rfl (.int .i64 (M.l.getD (q + 1) 0)) (run_ldI (HI) _ rfl (q + 1) rfl (by omega)) ?_
            refine nr ?_; intro U h; simp only [z0, z1] at h; subst h
            refine s_val 15 rfl rfl (.int .i64 (M.l.getD (q + 1) 0)) (rfl) ?_
            refine nr ?_; intro U h; simp only [z0, z1] at h; subst h
            refine wpList_nil ?_
            refine then_n ?_
            refine wp_seq ?_
            cases ho : decide (isO o (M.l.getD (q + 1) 0) = true)
            · refine wp_region_lit ?_
              refine s_val 65 rfl rfl (.slice ap o.length cq) (rfl) ?_
              refine nr ?_; intro U h; simp only [z0, z1] at h; subst h
              refine s_val 66 rfl rfl (.int .i64 (M.l.getD (q + 1) 0)) (rfl) ?_
              refine nr ?_; intro U h; simp only [z0, z1] at h; subst h
              refine s_callv 67 rfl rfl _ 31 Try.call31 rfl rfl _ rfl [.slice ap o.length cq, .int .i64 (M.l.getD (q + 1) 0)] rfl (Calls.bool (ropen_any _ ap cq o (HB) (M.l.getD (q + 1) 0)) (Bool.eq_false_iff.2 (of_decide_eq_false ho))) ?_
              intro w9 G
              replace kr := G.has kr
              replace kg1 := G.has kg1
              replace kg2 := G.has kg2
              replace kg3 := G.has kg3
              replace kq1 := G.has kq1
              replace kg4 := G.has kg4
              replace HL := HL.gro G
              replace HI := HI.gro G
              replace HB := HB.gro G
              replace GG := GG.tg G
              clear G
              refine nr ?_; intro U h; simp only [z0, z1] at h; subst h
              refine s_val 68 rfl rfl (.bool true) (run_nt _ _ rfl false rfl) ?_
              refine nr ?_; intro U h; simp only [z0, z1] at h; subst h
              refine wpList_nil ?_
              refine then_n ?_
              refine wp_cond_true rfl ?_
              refine wp_seq ?_
              refine wp_region_lit ?_
              refine s_val 69 rfl rfl (.agg (edA (some ⟨q1, 0, none⟩) 1 false false)) (ldQ_0 _ rfl g4 rfl (kg4)) ?_
              refine nr ?_; intro U h; simp only [z0, z1] at h; subst h
              refine s_store rfl rfl 45 _ _ rfl g3 0 rfl (.agg (edA (some ⟨q1, 0, none⟩) 1 false false)) rfl 45 _ kg3 (edA (some ⟨q1, 0, none⟩) 1 false false) rfl (siQ' _ _ _ _) (Nat.le_refl _) (oneD _ _ _ _) (edA (some ⟨q1, 0, none⟩) 1 false false) (splice_whole _ _ (rfl)) ?_
              intro w10 St
              have kS := kg3
              replace kr := St.has (by omega) kr
              replace kg1 := St.has (by omega) kg1
              replace kg2 := St.has (by omega) kg2
              replace kq1 := St.has (by omega) kq1
              replace kg4 := St.has (by omega) kg4
              replace HL := HL.st St dHLg3
              replace HI := HI.st St dHIg3
              replace HB := HB.st St dHBg3
              replace GG := GG.st St (.inl bg3)
              replace kg3 := St.new
              clear St
              refine wpList_nil ?_
              refine then_n ?_
              refine wp_ret ?_
              refine then_r ?_
              refine bodyPost_ret (results_cell_row Try.results17 _ _ g3 45 _ (0, 0) _ rfl kg3 Try.underlying45 rfl (siQ' _ _ _ _)) rfl ?_
              have hfm := tk_for (of_decide_eq_true hk) (of_decide_eq_true hs) hq hq1 (of_decide_eq_true hf)
              have htk := tk_mid' (room := room) (L := L) (ID := i) (o := o) hfm hq (by omega)
              rw [htk.1, htk.2]
              rw [psE_no (Bool.eq_false_iff.2 (of_decide_eq_false ho)), psL_no (Bool.eq_false_iff.2 (of_decide_eq_false ho))]
              exact ⟨_, _, rfl, ⟨q1, none, 0, Sl.nil, Sl.nil, Sl.nil, rfl, rfl, kq1, bq1, OY.frq (M := mDrop M.p) (OY.nil _ 3 1 _)⟩, ra, rc, kr, HL, GG⟩
            · refine wp_region_lit ?_
              refine s_val 65 rfl rfl (.slice ap o.length cq) (rfl) ?_
              refine nr ?_; intro U h; simp only [z0, z1] at h; subst h
              refine s_val 66 rfl rfl (.int .i64 (M.l.getD (q + 1) 0)) (rfl) ?_
              refine nr ?_; intro U h; simp only [z0, z1] at h; subst h
              refine s_callv 67 rfl rfl _ 31 Try.call31 rfl rfl _ rfl [.slice ap o.length cq, .int .i64 (M.l.getD (q + 1) 0)] rfl (Calls.bool (ropen_any _ ap cq o (HB) (M.l.getD (q + 1) 0)) (of_decide_eq_true ho)) ?_
              intro w9 G
              replace kr := G.has kr
              replace kg1 := G.has kg1
              replace kg2 := G.has kg2
              replace kg3 := G.has kg3
              replace kq1 := G.has kq1
              replace kg4 := G.has kg4
              replace HL := HL.gro G
              replace HI := HI.gro G
              replace HB := HB.gro G
              replace GG := GG.tg G
              clear G
              refine nr ?_; intro U h; simp only [z0, z1] at h; subst h
              refine s_val 68 rfl rfl (.bool false) (run_nt _ _ rfl true rfl) ?_
              refine nr ?_; intro U h; simp only [z0, z1] at h; subst h
              refine wpList_nil ?_
              refine then_n ?_
              refine wp_cond_false rfl ?_
              refine wp_skip ?_
              refine then_n ?_
              refine wp_seq ?_
              refine wp_region_lit ?_
              refine s_val 75 rfl rfl (.pointer (some ⟨r, 0, none⟩)) (rfl) ?_
              refine nr ?_; intro U h; simp only [z0, z1] at h; subst h
              refine s_val 76 rfl rfl (.pointer (some ⟨g2, 1, none⟩)) (run_fld 64 _ 1 rfl g2 0 rfl 1 (by kernel_rfl)) ?_
              refine nr ?_; intro U h; simp only [z0, z1] at h; subst h
              refine s_val 77 rfl rfl (.agg (paA M.p)) (ldF_p _ rfl g2 rfl (kg2)) ?_
              refine nr ?_; intro U h; simp only [z0, z1] at h; subst h
              refine s_val 78 rfl rfl (.pointer (some ⟨g2, 19, none⟩)) (run_fld 64 _ 3 rfl g2 0 rfl 19 (by kernel_rfl)) ?_
              refine nr ?_; intro U h; simp only [z0, z1] at h; subst h
              refine s_val 79 rfl rfl (.agg (idA M.a)) (ldF_a _ rfl g2 rfl (kg2)) ?_
              refine nr ?_; intro U h; simp only [z0, z1] at h; subst h
              refine s_val 80 rfl rfl (.pointer (some ⟨g2, 35, none⟩)) (run_fld 64 _ 4 rfl g2 0 rfl 35 (by kernel_rfl)) ?_
              refine nr ?_; intro U h; simp only [z0, z1] at h; subst h
              refine s_val 81 rfl rfl (.agg (idA M.b)) (ldF_b _ rfl g2 rfl (kg2)) ?_
              refine nr ?_; intro U h; simp only [z0, z1] at h; subst h
              refine s_val 82 rfl rfl (.int .i64 fr) (rfl) ?_
              refine nr ?_; intro U h; simp only [z0, z1] at h; subst h
              refine s_val 83 rfl rfl (.int .i64 (M.l.getD (q + 1) 0)) (rfl) ?_
              refine nr ?_; intro U h; simp only [z0, z1] at h; subst h
              refine s_val 84 rfl rfl (.agg (enA (xT fr M (M.l.getD (q + 1) 0)))) (run_bd 73 _ rfl [(0, .agg (paA M.p)), (1, .agg (idA M.a)), (2, .agg (idA M.b)), (3, .int .i64 fr), (4, .int .i64 (M.l.getD (q + 1) 0))] rfl _ (bdE5 _ _ _ _ _ _)) ?_
              refine nr ?_; intro U h; simp only [z0, z1] at h; subst h
              refine s_callx 85 rfl rfl _ 26 Try.call26 rfl rfl _ rfl [.pointer (some ⟨r, 0, none⟩), .agg (enA (xT fr M (M.l.getD (q + 1) 0)))] rfl (radd_any _ r room ra rc L kr HL hLb hKn (xT fr M (M.l.getD (q + 1) 0)) (xT_ok hM hfr (HI.at (by omega)))) (by rintro _ _ ⟨he, _⟩; exact ⟨_, he⟩) ?_
              rintro v w10 ⟨he, ra2, rc2, kr2, HL2, G2⟩
              cases he
              replace kg1 := G2.has kg1 (ne_cells kg1 kr (by decide))
              replace kg2 := G2.has kg2 (ne_cells kg2 kr (by decide))
              replace kg3 := G2.has kg3 (ne_cells kg3 kr (by decide))
              replace kq1 := G2.has kq1 (ne_cells kq1 kr (by decide))
              replace kg4 := G2.has kg4 (ne_cells kg4 kr (by decide))
              replace HI := HI.rtw G2 dHIr
              replace HB := HB.rtw G2 dHBr
              replace GG := GG.trans G2
              have dHLg1 := HL2.own.ne kg1 (by decide)
              have dHLg2 := HL2.own.ne kg2 (by decide)
              have dHLg3 := HL2.own.ne kg3 (by decide)
              have dHLq1 := HL2.own.ne kq1 (by decide)
              have dHLg4 := HL2.own.ne kg4 (by decide)
              clear kr HL G2
              have kr := kr2
              have HL := HL2
              clear kr2 HL2
              refine nr ?_; intro U h; simp only [z0, z1] at h; subst h
              refine s_val 16 rfl rfl (.int .i64 (addC room L (xT fr M (M.l.getD (q + 1) 0)))) (rfl) ?_
              refine nr ?_; intro U h; simp only [z0, z1] at h; subst h
              refine wpList_nil ?_
              refine then_n ?_
              refine wp_seq ?_
              refine wp_seq ?_
              refine wp_region_lit ?_
              refine s_val 86 rfl rfl (.int .i64 (addC room L (xT fr M (M.l.getD (q + 1) 0)))) (rfl) ?_
              refine nr ?_; intro U h; simp only [z0, z1] at h; subst h
              cases hc : decide (addC room L (xT fr M (M.l.getD (q + 1) 0)) = 0)
              · refine s_val 87 rfl rfl (.bool true) (run_neq_k 42 .i64 _ _ _ rfl Try.underlying42 (addC room L (xT fr M (M.l.getD (q + 1) 0))) 0 rfl rfl true hc _) ?_
                refine nr ?_; intro U h; simp only [z0, z1] at h; subst h
                refine wpList_nil ?_
                refine then_n ?_
                refine wp_cond_true rfl ?_
                refine wp_seq ?_
                refine wp_region_lit ?_
                refine s_val 88 rfl rfl (.int .i64 (addC room L (xT fr M (M.l.getD (q + 1) 0)))) (rfl) ?_
                refine nr ?_; intro U h; simp only [z0, z1] at h; subst h
                refine s_val 89 rfl rfl (.bool (decide (addC room L (xT fr M (M.l.getD (q + 1) 0)) = 5))) (run_eq_k 42 .i64 _ _ _ rfl Try.underlying42 (addC room L (xT fr M (M.l.getD (q + 1) 0))) 5 rfl rfl (decide (addC room L (xT fr M (M.l.getD (q + 1) 0)) = 5)) rfl _) ?_
                refine nr ?_; intro U h; simp only [z0, z1] at h; subst h
                refine s_val 90 rfl rfl (.pointer (some ⟨g4, 2, none⟩)) (run_fld 45 _ 2 rfl g4 0 rfl 2 (by kernel_rfl)) ?_
                refine nr ?_; intro U h; simp only [z0, z1] at h; subst h
                refine s_store rfl rfl 4 _ _ rfl g4 2 rfl (.bool (decide (addC room L (xT fr M (M.l.getD (q + 1) 0)) = 5))) rfl 45 _ kg4 #[.bool (decide (addC room L (xT fr M (M.l.getD (q + 1) 0)) = 5))] rfl (si4) (Nat.le_refl 3) (b_one _) (edA (some ⟨q1, 0, none⟩) 1 false (decide (addC room L (xT fr M (M.l.getD (q + 1) 0)) = 5))) (spD_f _ _ _ _ _) ?_
                intro w11 St
                have kS := kg4
                replace kr := St.has (by omega) kr
                replace kg1 := St.has (by omega) kg1
                replace kg2 := St.has (by omega) kg2
                replace kg3 := St.has (by omega) kg3
                replace kq1 := St.has (by omega) kq1
                replace HL := HL.st St dHLg4
                replace HI := HI.st St dHIg4
                replace HB := HB.st St dHBg4
                replace GG := GG.st St (.inl bg4)
                replace kg4 := St.new
                clear St
                refine wpList_nil ?_
                refine then_n ?_
                refine wp_seq ?_
                refine wp_region_lit ?_
                refine s_val 91 rfl rfl (.agg (edA (some ⟨q1, 0, none⟩) 1 false (decide (addC room L (xT fr M (M.l.getD (q + 1) 0)) = 5)))) (ldQ_0 _ rfl g4 rfl (kg4)) ?_
                refine nr ?_; intro U h; simp only [z0, z1] at h; subst h
                refine s_store rfl rfl 45 _ _ rfl g3 0 rfl (.agg (edA (some ⟨q1, 0, none⟩) 1 false (decide (addC room L (xT fr M (M.l.getD (q + 1) 0)) = 5)))) rfl 45 _ kg3 (edA (some ⟨q1, 0, none⟩) 1 false (decide (addC room L (xT fr M (M.l.getD (q + 1) 0)) = 5))) rfl (siQ' _ _ _ _) (Nat.le_refl _) (oneD _ _ _ _) (edA (some ⟨q1, 0, none⟩) 1 false (decide (addC room L (xT fr M (M.l.getD (q + 1) 0)) = 5))) (splice_whole _ _ (rfl)) ?_
                intro w12 St
                have kS := kg3
                replace kr := St.has (by omega) kr
                replace kg1 := St.has (by omega) kg1
                replace kg2 := St.has (by omega) kg2
                replace kq1 := St.has (by omega) kq1
                replace kg4 := St.has (by omega) kg4
                replace HL := HL.st St dHLg3
                replace HI := HI.st St dHIg3
                replace HB := HB.st St dHBg3
                replace GG := GG.st St (.inl bg3)
                replace kg3 := St.new
                clear St
                refine wpList_nil ?_
                refine then_n ?_
                refine wp_ret ?_
                refine then_r ?_
                refine bodyPost_ret (results_cell_row Try.results17 _ _ g3 45 _ (0, 0) _ rfl kg3 Try.underlying45 rfl (siQ' _ _ _ _)) rfl ?_
                have hfm := tk_for (of_decide_eq_true hk) (of_decide_eq_true hs) hq hq1 (of_decide_eq_true hf)
                have htk := tk_mid' (room := room) (L := L) (ID := i) (o := o) hfm hq (by omega)
                rw [htk.1, htk.2]
                rw [psE_full (of_decide_eq_true ho) (of_decide_eq_false hc), psL_yes (of_decide_eq_true ho)]
                exact ⟨_, _, rfl, ⟨q1, none, 0, Sl.nil, Sl.nil, Sl.nil, rfl, rfl, kq1, bq1, OY.frq (M := mDrop M.p) (OY.nil _ 3 1 _)⟩, ra2, rc2, kr, HL, GG⟩
              · refine s_val 87 rfl rfl (.bool false) (run_neq_k 42 .i64 _ _ _ rfl Try.underlying42 (addC room L (xT fr M (M.l.getD (q + 1) 0))) 0 rfl rfl false hc _) ?_
                refine nr ?_; intro U h; simp only [z0, z1] at h; subst h
                refine wpList_nil ?_
                refine then_n ?_
                refine wp_cond_false rfl ?_
                refine wp_skip ?_
                refine then_n ?_
                refine wp_seq ?_
                refine wp_seq ?_
                refine wp_region_lit ?_
                refine s_val 92 rfl rfl (.int .i64 (M.l.getD (q + 1) 0)) (rfl) ?_
                refine nr ?_; intro U h; simp only [z0, z1] at h; subst h
                refine s_val 93 rfl rfl (.bool false) (run_lssT 3 _ _ _ rfl (M.l.getD (q + 1) 0) 0 rfl rfl false (decide_eq_false (by have := isO_nn (of_decide_eq_true ho); omega)) _) ?_
                refine nr ?_; intro U h; simp only [z0, z1] at h; subst h
                refine wpList_nil ?_
                refine then_n ?_
                refine wp_cond_false rfl ?_
                refine wp_skip ?_
                refine then_n ?_
                refine wp_seq ?_
                obtain ⟨BB, hBB⟩ : ∃ B, w10.heap.size = B := ⟨_, rfl⟩
                refine wp_region_exA (A := ?Ax4) 12 [(0, 95), (1, 96), (2, 97), (3, 98), (4, 99), (5, 100), (6, 101), (7, 102), (8, 103), (9, 104), (10, 105), (11, 17)] [.val (.pointer (some ⟨g2, 1, none⟩)), .val (.agg (paA M.p)), .val (.pointer (some ⟨g2, 19, none⟩)), .val (.agg (idA M.a)), .val (.pointer (some ⟨g2, 35, none⟩)), .val (.agg (idA M.b)), rowZ BB, .val (.pointer (some ⟨g2, 56, none⟩)), .val (.slice ao M.l.length cap), ownZ BB M.l, frZ BB (mSet M.p M.a M.b M.l), boxZ BB 64 (frA (frY m0 none 0 gN))] follows (by kernel_rfl) rfl ?hAx4 (opsA_cons ?o0x4 (opsA_cons ?o1x4 (opsA_cons ?o2x4 (opsA_cons ?o3x4 (opsA_cons ?o4x4 (opsA_cons ?o5x4 (opsA_cons ?o6x4 (opsA_cons ?o7x4 (opsA_cons ?o8x4 (opsA_cons ?o9x4 (opsA_cons ?o10x4 (opsA_cons ?o11x4 opsA_nil)))))))))))) ?restx4
                case hAx4 =>
                  intro ptrs
                  simp only [full, foldSlots, filledE, postE, List.foldl_cons, List.foldl_nil, List.getD_cons_zero, List.getD_cons_succ, fill_val, fill_rowZ, fill_ownZ, fill_frZ, fill_boxZ, List.set_cons_zero, List.set_cons_succ]
                  exact rfl
                case o0x4 => exact fun _ _ _ _ => opE_value (v := .pointer (some ⟨g2, 1, none⟩)) rfl (run_fld 64 _ 1 rfl g2 0 rfl 1 (by kernel_rfl))
                case o1x4 => exact fun _ _ hw _ => opE_value (v := .agg (paA M.p)) rfl (ldF_p _ rfl g2 rfl (hw.has kg2))
                case o2x4 => exact fun _ _ _ _ => opE_value (v := .pointer (some ⟨g2, 19, none⟩)) rfl (run_fld 64 _ 3 rfl g2 0 rfl 19 (by kernel_rfl))
                case o3x4 => exact fun _ _ hw _ => opE_value (v := .agg (idA M.a)) rfl (ldF_a _ rfl g2 rfl (hw.has kg2))
                case o4x4 => exact fun _ _ _ _ => opE_value (v := .pointer (some ⟨g2, 35, none⟩)) rfl (run_fld 64 _ 4 rfl g2 0 rfl 35 (by kernel_rfl))
                case o5x4 => exact fun _ _ hw _ => opE_value (v := .agg (idA M.b)) rfl (ldF_b _ rfl g2 rfl (hw.has kg2))
                case o6x4 => exact fun _ x hw _ => opE_new (rowZ BB) rfl (run_bsl 32 0 _ rfl [] rfl (by kernel_rfl : (Instr.buildSlice 32 0 #[]).run Try.prog x = .ok (.slice (some ⟨x.heap.size, 0, none⟩) 0 0) (x.alloc (.cells (ci []).toArray 3)))) (gro_alloc _ _) ⟨_, rfl, (OX.made (cap := 0) (n := 0) (cs := []) (heap_alloc_new _ _) (Nat.le_trans (Nat.le_of_eq hBB.symm) hw.size) (Nat.le_refl _) (by decide) rfl rfl rfl (fun _ h => by cases h)).oy⟩
                case o7x4 => exact fun _ _ _ _ => opE_value (v := .pointer (some ⟨g2, 56, none⟩)) rfl (run_fld 64 _ 8 rfl g2 0 rfl 56 (by kernel_rfl))
                case o8x4 => exact fun _ _ hw _ => opE_value (v := .slice ao M.l.length cap) rfl (ldF_t _ rfl g2 rfl (hw.has kg2))
                case o9x4 =>
                  intro ptrs w' hw hE
                  obtain ⟨⟨aq, hq, oq⟩, _⟩ := hE
                  refine opE_appY rI (ownZ BB M.l) rfl _ _ rfl (B := BB) (ao := aq) (n := 0) (cs := []) hq oq (ao' := ao) (cap' := cap) (m := M.l.length) (cs' := ci M.l) rfl (HI.gro ((Gro.refl _).drew.trans hw)).xc (by omega) (by decide) (Nat.le_trans (Nat.le_of_eq hBB.symm) hw.size) ?_
                  intro ao2 cap2 w2 h1 _ _
                  rw [Nat.zero_add, List.nil_append] at h1
                  exact ⟨ao2, cap2, by rw [Nat.zero_add], h1⟩
                case o10x4 =>
                  intro ptrs w' hw hE
                  obtain ⟨⟨ao5, cap5, h5, o5⟩, _⟩ := hE
                  exact opE_new (frZ BB (mSet M.p M.a M.b M.l)) rfl (run_bd 64 _ rfl [(0, .int .i64 4), (1, .agg (paA M.p)), (3, .agg (idA M.a)), (4, .agg (idA M.b)), (8, .slice ao5 M.l.length cap5)] (by show [(0, .int .i64 4), (1, .agg (paA M.p)), (3, .agg (idA M.a)), (4, .agg (idA M.b)), (8, ptrs 9)] = _; rw [h5]) _ (bdF4 _ _ _ _ _ _ _)) (Gro.refl _) ⟨ao5, cap5, rfl, o5⟩
                case o11x4 => exact fun _ x hw _ => opE_new (boxZ BB 64 (frA (frY m0 none 0 gN))) rfl (run_alloc_op 64 rfl _ zvF) (gro_alloc _ _) ⟨_, rfl, Nat.le_trans (Nat.le_of_eq hBB.symm) hw.size, heap_alloc_new _ _⟩
                intro ptrs w11 GD hxE
                simp only [List.drop_succ_cons, List.drop_zero]
                obtain ⟨_, _, ⟨a2, c2, hx6, HY⟩, ⟨gF, hx7, bgF, kgF⟩, _⟩ := hxE
                simp only [hx6, hx7]
                clear hx6 hx7
                have drgF : r < gF := Nat.lt_of_lt_of_le (hBB ▸ lt_of_heap kr) bgF
                have dg1gF : g1 < gF := Nat.lt_of_lt_of_le (hBB ▸ lt_of_heap kg1) bgF
                have dg2gF : g2 < gF := Nat.lt_of_lt_of_le (hBB ▸ lt_of_heap kg2) bgF
                have dg3gF : g3 < gF := Nat.lt_of_lt_of_le (hBB ▸ lt_of_heap kg3) bgF
                have dq1gF : q1 < gF := Nat.lt_of_lt_of_le (hBB ▸ lt_of_heap kq1) bgF
                have dg4gF : g4 < gF := Nat.lt_of_lt_of_le (hBB ▸ lt_of_heap kg4) bgF
                have dHLgF := HL.neG (g := gF) (Nat.le_trans (Nat.le_of_eq hBB) bgF)
                have dHIgF := HI.neG (g := gF) (Nat.le_trans (Nat.le_of_eq hBB) bgF)
                have dHBgF := HB.neG (g := gF) (Nat.le_trans (Nat.le_of_eq hBB) bgF)
                replace bgF := Nat.le_trans (Nat.le_trans GG.size (Nat.le_of_eq hBB)) bgF
                replace HY := HY.mono (Nat.le_trans GG.size (Nat.le_of_eq hBB))
                clear hBB
                replace kr := GD.has kr
                replace kg1 := GD.has kg1
                replace kg2 := GD.has kg2
                replace kg3 := GD.has kg3
                replace kq1 := GD.has kq1
                replace kg4 := GD.has kg4
                replace HL := HL.gro ((Gro.refl _).drew.trans GD)
                replace HI := HI.gro ((Gro.refl _).drew.trans GD)
                replace HB := HB.gro ((Gro.refl _).drew.trans GD)
                replace GG := GG.drew.tg GD
                clear GD
                refine s_store rfl rfl 64 _ _ rfl gF 0 rfl (.agg (frA (frY (mSet M.p M.a M.b M.l) a2 c2 gN))) rfl 64 _ kgF (frA (frY (mSet M.p M.a M.b M.l) a2 c2 gN)) rfl (siF' _ _ _ _) (Nat.le_refl _) (oneF _ _ _ _) (frA (frY (mSet M.p M.a M.b M.l) a2 c2 gN)) (splice_whole _ _ (rfl)) ?_
                intro w12 St
                have kS := kgF
                replace kr := St.has (by omega) kr
                replace kg1 := St.has (by omega) kg1
                replace kg2 := St.has (by omega) kg2
                replace kg3 := St.has (by omega) kg3
                replace kq1 := St.has (by omega) kq1
                replace kg4 := St.has (by omega) kg4
                replace HL := HL.st St dHLgF
                replace HI := HI.st St dHIgF
                replace HB := HB.st St dHBgF
                replace HY := HY.stT St kS (by decide)
                replace GG := GG.st St (.inl bgF)
                replace kgF := St.new
                clear St
                refine wpList_nil ?_
                refine then_n ?_
                refine wp_seq ?_
                refine wp_region_lit ?_
                refine s_val 106 rfl rfl (.int .i64 (M.l.getD (q + 1) 0)) (rfl) ?_
                refine nr ?_; intro U h; simp only [z0, z1] at h; subst h
                refine s_val 107 rfl rfl (.agg (frA (frY (mSet M.p M.a M.b M.l) a2 c2 gN))) (ldF_0 _ rfl gF rfl (kgF)) ?_
                refine nr ?_; intro U h; simp only [z0, z1] at h; subst h
                refine s_val 108 rfl rfl (.agg (hopA (M.l.getD (q + 1) 0) (frY (mSet M.p M.a M.b M.l) a2 c2 gN))) (run_bd 71 _ rfl [(0, .int .i64 (M.l.getD (q + 1) 0)), (1, .agg (frA (frY (mSet M.p M.a M.b M.l) a2 c2 gN)))] rfl _ (bdH2 _ _ _)) ?_
                refine nr ?_; intro U h; simp only [z0, z1] at h; subst h
                refine s_bsl 109 rfl rfl 39 1 _ rfl [(0, .agg (hopA (M.l.getD (q + 1) 0) (frY (mSet M.p M.a M.b M.l) a2 c2 gN)))] rfl (hopA (M.l.getD (q + 1) 0) (frY (mSet M.p M.a M.b M.l) a2 c2 gN)) 71 (bsH _ _ _) ?_
                intro w13 q3 G eq3 kq3
                have bq3 := size_basS GG eq3
                have drq3 := lt_new kr eq3
                have dg1q3 := lt_new kg1 eq3
                have dg2q3 := lt_new kg2 eq3
                have dg3q3 := lt_new kg3 eq3
                have dq1q3 := lt_new kq1 eq3
                have dg4q3 := lt_new kg4 eq3
                have dgFq3 := lt_new kgF eq3
                have dHLq3 := HL.ne eq3
                have dHIq3 := HI.ne eq3
                have dHBq3 := HB.ne eq3
                replace kr := G.has kr
                replace kg1 := G.has kg1
                replace kg2 := G.has kg2
                replace kg3 := G.has kg3
                replace kq1 := G.has kq1
                replace kg4 := G.has kg4
                replace kgF := G.has kgF
                replace HL := HL.gro G
                replace HI := HI.gro G
                replace HB := HB.gro G
                replace HY := HY.gro G
                replace GG := GG.tg G
                clear G
                clear eq3
                refine nr ?_; intro U h; simp only [z0, z1] at h; subst h
                refine s_val 110 rfl rfl (.agg (edA (some ⟨q3, 0, none⟩) 1 false false)) (run_bd 45 _ rfl [(0, .slice (some ⟨q3, 0, none⟩) 1 1)] rfl _ (bdQ0 _ _ _)) ?_
                refine nr ?_; intro U h; simp only [z0, z1] at h; subst h
                refine s_store rfl rfl 45 _ _ rfl g3 0 rfl (.agg (edA (some ⟨q3, 0, none⟩) 1 false false)) rfl 45 _ kg3 (edA (some ⟨q3, 0, none⟩) 1 false false) rfl (siQ' _ _ _ _) (Nat.le_refl _) (oneD _ _ _ _) (edA (some ⟨q3, 0, none⟩) 1 false false) (splice_whole _ _ (rfl)) ?_
                intro w14 St
                have kS := kg3
                replace kr := St.has (by omega) kr
                replace kg1 := St.has (by omega) kg1
                replace kg2 := St.has (by omega) kg2
                replace kq1 := St.has (by omega) kq1
                replace kg4 := St.has (by omega) kg4
                replace kgF := St.has (by omega) kgF
                replace kq3 := St.has (by omega) kq3
                replace HL := HL.st St dHLg3
                replace HI := HI.st St dHIg3
                replace HB := HB.st St dHBg3
                replace HY := HY.stT St kS (by decide)
                replace GG := GG.st St (.inl bg3)
                replace kg3 := St.new
                clear St
                refine wpList_nil ?_
                refine then_n ?_
                refine wp_ret ?_
                refine bodyPost_ret (results_cell_row Try.results17 _ _ g3 45 _ (0, 0) _ rfl kg3 Try.underlying45 rfl (siQ' _ _ _ _)) rfl ?_
                have hfm := tk_for (of_decide_eq_true hk) (of_decide_eq_true hs) hq hq1 (of_decide_eq_true hf)
                have htk := tk_mid' (room := room) (L := L) (ID := i) (o := o) hfm hq (by omega)
                rw [htk.1, htk.2]
                rw [psE_add (of_decide_eq_true ho) (of_decide_eq_true hc), psL_yes (of_decide_eq_true ho)]
                exact ⟨_, _, rfl, ⟨q3, a2, c2, Sl.nil, Sl.nil, Sl.nil, rfl, rfl, kq3, bq3, OY.frq (M := mSet M.p M.a M.b M.l) HY⟩, ra2, rc2, kr, HL, GG⟩
end Go.Proofs.Ytkjnefgenffhcaa
