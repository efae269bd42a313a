/- To whom an item is owed: both sides; the example. -/
import Derived.Test.YtjahegiopigblaaHC2
import Derived.Test.YtjahegiopigblaaHI13
namespace Go.Proofs.Ytjahegiopigblaa
open Go.RowKit
/-- A row of identities that is read. -/
def RowR (L : List Nat) (w : World) (e : Ending) (w' : World) : Prop := ∃ ao cap, e = .returned (.slice ao L.length cap) ∧ Gro w w' ∧ RK kI w' ao cap L
theorem RowR.to {f : FuncId} {args : Array Value} {w : World} {L M : List Nat} (h : L = M) (H : Calls Try.prog f args w (RowR L w)) : Calls Try.prog f args w (RowR M w) := h ▸ H
/-- The same, in new memory. -/
def RowN (L : List Nat) (w : World) (e : Ending) (w' : World) : Prop := ∃ ao cap, e = .returned (.slice ao L.length cap) ∧ Gro w w' ∧ RK kI w' ao cap L ∧ ∀ ad, ao = some ad → w.heap.size ≤ ad.block
theorem RowN.to {f : FuncId} {args : Array Value} {w : World} {L M : List Nat} (h : L = M) (H : Calls Try.prog f args w (RowN L w)) : Calls Try.prog f args w (RowN M w) := h ▸ H
theorem RowN.r {f : FuncId} {args : Array Value} {w : World} {L : List Nat} (H : Calls Try.prog f args w (RowN L w)) : Calls Try.prog f args w (RowR L w) := H.mono fun _ _ ⟨ao, cap, h1, h2, h3, _⟩ => ⟨ao, cap, h1, h2, h3⟩
theorem RK.take {α : Type} {K : Kd α} {w : World} {ao : Option Addr} {cap : Nat} {l : List α} (h : RK K w ao cap l) (k : Nat) : RK K w ao (l.take k).length (l.take k) := by
  have hx := h.xc
  refine ⟨⟨flx_len K.len _, Nat.le_refl _, fun hn => ?_, fun ad ha j v hv => ?_, fl_oneK⟩, fun x hx => h.all x (List.mem_of_mem_take hx)⟩
  · have h1 := hx.bare hn
    have h2 := hx.fit
    rw [List.length_take]
    omega
  · rw [← flx_take K.len, List.getElem?_take] at hv
    split at hv
    · exact hx.cell ad ha j v hv
    · cases hv
theorem RK.pre {α : Type} {K : Kd α} {w : World} {ao : Option Addr} {cap : Nat} {l : List α} (h : RK K w ao cap l) (k : Nat) : RK K w ao cap (l.take k) := by
  have hx := h.xc
  have hy := (h.take k).xc
  have := hx.fit
  exact ⟨⟨hy.len, by rw [List.length_take]; omega, hx.bare, hy.cell, hy.one⟩, (h.take k).all⟩
/-- The nearest of a list is the one that is owed. -/
theorem ow_near {s k b : Nat} {l : List Nat} (hl : All l) (hk : k < top) (hr : rtC s l k = false) (hb : b < l.length) (hn : ∀ j, j < l.length → nearN k (l.getD j 0) (l.getD b 0) = false) : owC s l k = [l.getD b 0] := by
  obtain ⟨x, hx, hxs⟩ := rtC_no.1 hr
  have hall : ∀ z ∈ l, nearN k z (l.getD b 0) = false := fun z hz => by
    obtain ⟨j, hj, rfl⟩ := List.mem_iff_getElem.1 hz
    have := hn j hj
    rwa [List.getD_eq_getElem?_getD, List.getElem?_eq_getElem hj, Option.getD_some] at this
  have hbs : l.getD b 0 ≠ s := fun e => by
    have := hall x hx
    rw [e, hxs] at this
    cases this
  have hm : l.getD b 0 ∈ lin (kc 0) s l := (lin_mem (kc_inj top_0i) hl _).2 ⟨getD_inC hb, hbs⟩
  have hrl : rtC s (lin (kc 0) s l) k = false := by rw [rtC_lin hl k]; exact hr
  unfold owC
  rw [if_neg (by rw [hrl]; decide)]
  cases e : nsC k (lin (kc 0) s l) with
  | none => rw [nsC_none e] at hm; cases hm
  | some m =>
    obtain ⟨h1, h2⟩ := nsC_spec hk (lin_all (kc_inj top_0i) hl) e
    rw [nsC_uniq hk (lin_all (kc_inj top_0i) hl) h1 hm h2 fun z hz => hall z ((lin_mem (kc_inj top_0i) hl z).1 hz).1]
    rfl
theorem ow_rt {s k : Nat} {l : List Nat} (hl : All l) (hr : rtC s l k = true) : owC s l k = lin (kc 0) s l := by
  unfold owC
  rw [if_pos (by rw [rtC_lin hl k]; exact hr)]
/-- The same, of the list that is sorted. -/
theorem ow_near2 {s k b : Nat} {l : List Nat} (hl : All l) (hk : k < top) (hr : rtC s l k = false) (hb : b < (lin (kc 0) s l).length) (hn : ∀ j, j < (lin (kc 0) s l).length → nearN k ((lin (kc 0) s l).getD j 0) ((lin (kc 0) s l).getD b 0) = false) : owC s l k = [(lin (kc 0) s l).getD b 0] := by
  have ha := lin_all (wo := s) (kc_inj top_0i) hl
  have hrl : rtC s (lin (kc 0) s l) k = false := by rw [rtC_lin hl k]; exact hr
  have hns := lin_not (wo := s) (kc_inj top_0i) hl
  have h1 := ow_near ha hk hrl hb hn
  have e : lin (kc 0) s (lin (kc 0) s l) = lin (kc 0) s l := lin_of_ris ha (lin_ris (kc_inj top_0i) hl) hns
  rw [← h1]
  unfold owC
  rw [e]
theorem lin_pos {s k : Nat} {l : List Nat} (hl : All l) (hr : rtC s l k = false) : 0 < (lin (kc 0) s l).length := by
  have hrl : rtC s (lin (kc 0) s l) k = false := by rw [rtC_lin hl k]; exact hr
  obtain ⟨x, hx, _⟩ := rtC_no.1 hrl
  exact List.length_pos_of_mem hx
theorem l_pos {s k : Nat} {l : List Nat} (hr : rtC s l k = false) : 0 < l.length := by
  obtain ⟨x, hx, _⟩ := rtC_no.1 hr
  exact List.length_pos_of_mem hx
theorem owC_len (s : Nat) (l : List Nat) (k : Nat) : (owC s l k).length ≤ l.length + 1 := by
  unfold owC
  split
  · have := lin_len (kc 0) s l
    omega
  · cases nsC k (lin (kc 0) s l) with
    | none => simp
    | some m => simp
theorem run_minT {α : Type} {P : Program} {o : Oper} {A : Act} (x y : Operand) (ats : Array TypeId) (ho : o.op = .call { callee := .builtin .min, args := #[x, y], argTypes := ats }) (l : List α) (k : Nat) (hx : A.eval x = .int .i64 ((l.length : Nat) : Int)) (hy : A.eval y = .int .i64 ((k : Nat) : Int)) (w : World) : (execOp A.eval o).run P w = .ok (.value (.int .i64 (((l.take k).length : Nat) : Int))) w := by
  rw [List.length_take, Nat.min_comm]
  exact run_minN x y ats ho l.length k hx hy w
theorem run_cut3L {α : Type} {P : Program} {o : Oper} {A : Act} {t e : TypeId} {sz b : Nat} {z : Value} (R : RowT P t e sz b z) (x y u : Operand) (ho : o.op = .slice t x none (some y) (some u)) (ao : Option Addr) (n cap : Nat) (l : List α) (k : Nat) (hx : A.eval x = .slice ao n cap) (hy : A.eval y = .int .i64 (((l.take k).length : Nat) : Int)) (hu : A.eval u = .int .i64 (((l.take k).length : Nat) : Int)) (hj : l.length ≤ cap) (w : World) : (execOp A.eval o).run P w = .ok (.value (.slice ao (l.take k).length (l.take k).length)) w :=
  run_cut3Xi R x y u ho ao n cap _ hx hy hu (by rw [List.length_take]; omega) w
def rowNE (B : Nat) (L : List Nat) : PostE := PostE.ex (fun v x => ∃ ao cap, v = .slice ao L.length cap ∧ RK kI x ao cap L ∧ ∀ ad, ao = some ad → B ≤ ad.block) (fun _ _ _ G ⟨a, c, h1, h2, h3⟩ => ⟨a, c, h1, h2.gro G, h3⟩)
theorem fill_rowNE (B : Nat) (L : List Nat) (v : Value) : (rowNE B L).fill v = v := rfl
/-- A new thing somewhere. -/
def newE : PostE := PostE.ex (fun v _ => ∃ g, v = .pointer (some ⟨g, 0, none⟩)) (fun _ _ _ _ h => h)
theorem fill_newE (v : Value) : newE.fill v = v := rfl
theorem same_idsK (w : World) (ao : Option Addr) (cap : Nat) (l : List Nat) (H : RK kI w ao cap l) (hl : l.length ≤ 1000000) (bo : Option Addr) (bap : Nat) (m : List Nat) (HM : RK kI w bo bap m) (hm : m.length ≤ 1000000) (h : l = m) : Calls Try.prog 14 #[.slice ao l.length cap, .slice bo m.length bap] w (fun e w' => e = .returned (.bool true) ∧ Gro w w') :=
  Calls.boolW (same_ids w ao cap l H.rc hl bo bap m HM.rc hm) (decide_eq_true h)
theorem linedN (w : World) (s h wo : Nat) (ao : Option Addr) (cap : Nat) (l : List Nat) (hs : s < top) (hwo : wo < top) (kh : w.heap[h]? = some (.cells (idA s) 23 (0, 0))) (H : RK kI w ao cap l) (hl : l.length ≤ 1000000) : Calls Try.prog 49 #[.func (.func 70) #[] #[.pointer (some ⟨h, 0, none⟩)], .agg (idA wo), .slice ao l.length cap] w (RowN (lin (kc s) wo l) w) :=
  (lined_own w s h wo ao cap l hs hwo kh H.rc hl).mono fun _ _ ⟨ao, cap, h1, h2, h3, h4⟩ => ⟨ao, cap, h1, h2, ofRC h3, fun ad ha => h4.base _ (mem_blk.2 ⟨ad, ha, rfl⟩)⟩
theorem rsortedK (w : World) (ao : Option Addr) (cap : Nat) (l : List Nat) (H : RK kI w ao cap l) (hl : l.length ≤ 1000000) (s : Nat) (hs : s < top) : Calls Try.prog 35 #[.agg (idA s), .slice ao l.length cap] w (RowN (lin (kc 0) s l) w) := (refsorted_own w ao cap l H.rc hl s hs).mono fun _ _ ⟨ao, cap, h1, h2, h3, h4⟩ => ⟨ao, cap, h1, h2, ofRC h3, h4⟩
theorem rhasK (w : World) (ao : Option Addr) (cap : Nat) (l : List Nat) (H : RK kI w ao cap l) (hl : l.length ≤ 1000000) (x : Nat) (hx : x < top) : Calls Try.prog 40 #[.slice ao l.length cap, .agg (idA x)] w (fun e w' => e = .returned (.bool (decide (x ∈ l))) ∧ Gro w w') := refhas_any w ao cap l H.rc hl x hx
theorem nestK (d : Nat) (hd : d < top) (w : World) (ao : Option Addr) (cap : Nat) (l : List Nat) (H : RK kI w ao cap l) (hl : l.length ≤ 1000000) (b : Nat) (hb : bestI d l l.length = b) : Calls Try.prog 34 #[.agg (idA d), .slice ao l.length cap] w (fun e w' => e = .returned (.int .i64 ((b : Nat) : Int)) ∧ Gro w w') :=
  Calls.valV (nearest_sl d hd l (by omega) _ w (RC.sl H.rc)) (by rw [hb])
theorem rnestK (d : Nat) (hd : d < top) (w : World) (ao : Option Addr) (cap : Nat) (l : List Nat) (H : RK kI w ao cap l) (hl : l.length ≤ 1000000) (b : Nat) (hb : bestI d l l.length = b) : Calls Try.prog 27 #[.agg (idA d), .slice ao l.length cap] w (fun e w' => e = .returned (.int .i64 ((b : Nat) : Int)) ∧ Gro w w') :=
  Calls.valV (refnearest_sl d hd l (by omega) _ w (RC.sl H.rc)) (by rw [hb])
theorem lt_top {x : Nat} (h : x < 256) : x < top := by
  unfold top
  omega
set_option maxRecDepth 100000 in
set_option maxHeartbeats 4000000 in
theorem cutI_any (ao : Option Addr) (cap : Nat) (l : List Nat) (w : World) (HL : RK kI w ao cap l) (k : Nat) : Calls Try.prog 9 #[.slice ao l.length cap, .int .i64 ((k : Nat) : Int)] w (fun e w' => e = .returned (.slice ao (l.take k).length (l.take k).length) ∧ Gro w w') := by
  refine s_enter Try.func9 rfl Try.ntmps9 [.slice ao l.length cap, .int .i64 ((k : Nat) : Int)] [.slice ao l.length cap, .int .i64 ((k : Nat) : Int), undef, undef, undef, undef, undef, undef, undef, undef, undef, undef, undef, undef, undef] rfl ?_
  have GG := Gro.refl w
  refine wp_seq ?_
  refine wp_region_lit ?_
  refine s_val 4 rfl rfl (.slice none 0 0) (rfl) ?_
  refine nr ?_; intro U h; simp only [z0, z1] at h; subst h
  refine wpList_nil ?_
  refine then_n ?_
  refine wp_seq ?_
  refine wp_region_lit ?_
  refine s_val 5 rfl rfl (.slice ao l.length cap) (rfl) ?_
  refine nr ?_; intro U h; simp only [z0, z1] at h; subst h
  refine s_val 6 rfl rfl (.slice ao l.length cap) (rfl) ?_
  refine nr ?_; intro U h; simp only [z0, z1] at h; subst h
  refine s_val 7 rfl rfl (.int .i64 ((l.length : Nat) : Int)) (run_len Try.underlying24 _ rfl _ _ _ rfl _) ?_
  refine nr ?_; intro U h; simp only [z0, z1] at h; subst h
  refine s_val 8 rfl rfl (.int .i64 ((k : Nat) : Int)) (rfl) ?_
  refine nr ?_; intro U h; simp only [z0, z1] at h; subst h
  refine s_val 9 rfl rfl (.int .i64 (((l.take k).length : Nat) : Int)) (run_minT _ _ _ rfl l k rfl rfl _) ?_
  refine nr ?_; intro U h; simp only [z0, z1] at h; subst h
  refine s_val 10 rfl rfl (.slice ao l.length cap) (rfl) ?_
  refine nr ?_; intro U h; simp only [z0, z1] at h; subst h
  refine s_val 11 rfl rfl (.int .i64 ((l.length : Nat) : Int)) (run_len Try.underlying24 _ rfl _ _ _ rfl _) ?_
  refine nr ?_; intro U h; simp only [z0, z1] at h; subst h
  refine s_val 12 rfl rfl (.int .i64 ((k : Nat) : Int)) (rfl) ?_
  refine nr ?_; intro U h; simp only [z0, z1] at h; subst h
  refine s_val 13 rfl rfl (.int .i64 (((l.take k).length : Nat) : Int)) (run_minT _ _ _ rfl l k rfl rfl _) ?_
  refine nr ?_; intro U h; simp only [z0, z1] at h; subst h
  refine s_val 14 rfl rfl (.slice ao (l.take k).length (l.take k).length) (run_cut3L rIk _ _ _ rfl ao _ cap l k rfl rfl rfl HL.xc.fit _) ?_
  refine nr ?_; intro U h; simp only [z0, z1] at h; subst h
  refine s_val 4 rfl rfl (.slice ao (l.take k).length (l.take k).length) (rfl) ?_
  refine nr ?_; intro U h; simp only [z0, z1] at h; subst h
  refine wpList_nil ?_
  refine then_n ?_
  refine wp_ret ?_
  refine bodyPost_ret (results_tmp Try.results9 _ _ _) rfl ?_
  exact ⟨rfl, GG⟩
set_option maxRecDepth 100000 in
set_option maxHeartbeats 4000000 in
theorem cutM_any (ao : Option Addr) (cap : Nat) (l : List IM) (w : World) (HL : RK kM w ao cap l) (k : Nat) : Calls Try.prog 18 #[.slice ao l.length cap, .int .i64 ((k : Nat) : Int)] w (fun e w' => e = .returned (.slice ao (l.take k).length (l.take k).length) ∧ Gro w w') := by
  refine s_enter Try.func18 rfl Try.ntmps18 [.slice ao l.length cap, .int .i64 ((k : Nat) : Int)] [.slice ao l.length cap, .int .i64 ((k : Nat) : Int), undef, undef, undef, undef, undef, undef, undef, undef, undef, undef, undef, undef, undef] rfl ?_
  have GG := Gro.refl w
  refine wp_seq ?_
  refine wp_region_lit ?_
  refine s_val 4 rfl rfl (.slice none 0 0) (rfl) ?_
  refine nr ?_; intro U h; simp only [z0, z1] at h; subst h
  refine wpList_nil ?_
  refine then_n ?_
  refine wp_seq ?_
  refine wp_region_lit ?_
  refine s_val 5 rfl rfl (.slice ao l.length cap) (rfl) ?_
  refine nr ?_; intro U h; simp only [z0, z1] at h; subst h
  refine s_val 6 rfl rfl (.slice ao l.length cap) (rfl) ?_
  refine nr ?_; intro U h; simp only [z0, z1] at h; subst h
  refine s_val 7 rfl rfl (.int .i64 ((l.length : Nat) : Int)) (run_len Try.underlying40 _ rfl _ _ _ rfl _) ?_
  refine nr ?_; intro U h; simp only [z0, z1] at h; subst h
  refine s_val 8 rfl rfl (.int .i64 ((k : Nat) : Int)) (rfl) ?_
  refine nr ?_; intro U h; simp only [z0, z1] at h; subst h
  refine s_val 9 rfl rfl (.int .i64 (((l.take k).length : Nat) : Int)) (run_minT _ _ _ rfl l k rfl rfl _) ?_
  refine nr ?_; intro U h; simp only [z0, z1] at h; subst h
  refine s_val 10 rfl rfl (.slice ao l.length cap) (rfl) ?_
  refine nr ?_; intro U h; simp only [z0, z1] at h; subst h
  refine s_val 11 rfl rfl (.int .i64 ((l.length : Nat) : Int)) (run_len Try.underlying40 _ rfl _ _ _ rfl _) ?_
  refine nr ?_; intro U h; simp only [z0, z1] at h; subst h
  refine s_val 12 rfl rfl (.int .i64 ((k : Nat) : Int)) (rfl) ?_
  refine nr ?_; intro U h; simp only [z0, z1] at h; subst h
  refine s_val 13 rfl rfl (.int .i64 (((l.take k).length : Nat) : Int)) (run_minT _ _ _ rfl l k rfl rfl _) ?_
  refine nr ?_; intro U h; simp only [z0, z1] at h; subst h
  refine s_val 14 rfl rfl (.slice ao (l.take k).length (l.take k).length) (run_cut3L rM _ _ _ rfl ao _ cap l k rfl rfl rfl HL.xc.fit _) ?_
  refine nr ?_; intro U h; simp only [z0, z1] at h; subst h
  refine s_val 4 rfl rfl (.slice ao (l.take k).length (l.take k).length) (rfl) ?_
  refine nr ?_; intro U h; simp only [z0, z1] at h; subst h
  refine wpList_nil ?_
  refine then_n ?_
  refine wp_ret ?_
  refine bodyPost_ret (results_tmp Try.results18 _ _ _) rfl ?_
  exact ⟨rfl, GG⟩
set_option maxRecDepth 100000 in
set_option maxHeartbeats 4000000 in
theorem sortedK (w : World) (ao : Option Addr) (cap : Nat) (l : List Nat) (HL : RK kI w ao cap l) (hll : l.length ≤ 1000000) (s : Nat) (hs : s < top) : Calls Try.prog 33 #[.agg (idA s), .slice ao l.length cap] w (RowN (lin (kc 0) s l) w) := by
  refine s_enter Try.func33 rfl Try.ntmps33 [.agg (idA s), .slice ao l.length cap] [.agg (idA s), .slice ao l.length cap, undef, undef, undef, undef, undef, undef, undef] rfl ?_
  have GG := Gro.refl w
  refine wp_seq ?_
  refine wp_region_lit ?_
  refine s_box 2 rfl rfl 23 _ rfl _ rfl (idA s) rfl ?_
  intro w1 g1 G eg1 kg1
  have bg1 := size_base GG eg1
  replace HL := HL.gro G
  replace GG := GG.trans G
  clear G
  clear eg1
  refine nr ?_; intro U h; simp only [z0, z1] at h; subst h
  refine s_val 4 rfl rfl (.slice none 0 0) (rfl) ?_
  refine nr ?_; intro U h; simp only [z0, z1] at h; subst h
  refine wpList_nil ?_
  refine then_n ?_
  refine wp_seq ?_
  refine wp_region_exA (A := ?Ax1) 4 [(0, 5), (1, 6), (2, 7), (3, 8)] [cloE 0, .val (.agg (idA s)), .val (.slice ao l.length cap), rowNE w.heap.size (lin (kc 0) s l)] follows (by kernel_rfl) rfl ?hAx1 (opsA_cons ?o0x1 (opsA_cons ?o1x1 (opsA_cons ?o2x1 (opsA_cons ?o3x1 opsA_nil)))) ?restx1
  case hAx1 =>
    intro ptrs
    simp only [full, foldSlots, filledE, postE, List.foldl_cons, List.foldl_nil, List.getD_cons_zero, List.getD_cons_succ, fill_val, fill_cloE, fill_rowNE, List.set_cons_zero, List.set_cons_succ]
    exact rfl
  case o0x1 =>
    intro ptrs w' hw hE
    exact opE_call (cloE 0) rfl _ 50 Try.call50 rfl rfl _ rfl [] rfl ((rising_any _).mono fun e w' ⟨c, he, hg, hk⟩ => ⟨_, he, hg, c, rfl, hk⟩)
  case o1x1 => exact fun _ _ hw _ => opE_value (v := .agg (idA s)) rfl (ldI0 _ rfl g1 rfl (hw.has kg1))
  case o2x1 => exact fun _ _ _ _ => opE_move (v := .slice ao l.length cap) _ rfl rfl rfl
  case o3x1 =>
    intro ptrs w' hw hE
    obtain ⟨⟨c0, h0, o0⟩, _, _⟩ := hE
    exact opE_call (rowNE w.heap.size (lin (kc 0) s l)) rfl _ 49 Try.call49 rfl rfl _ rfl [.func (.func 70) #[] #[.pointer (some ⟨c0, 0, none⟩)], .agg (idA s), .slice ao l.length cap] (by show [ptrs 0, .agg (idA s), .slice ao l.length cap] = _; rw [h0]) ((linedN _ 0 c0 s ao cap l top_0i hs o0 (HL.gro ((Gro.refl _).drew.trans hw)) hll).mono fun e w' ⟨ao, cap, he, hg, hr, hf⟩ => ⟨_, he, hg, ao, cap, rfl, hr, fun ad h => Nat.le_trans GG.size (Nat.le_trans hw.size (hf ad h))⟩)
  intro ptrs w2 GD hxE
  simp only [List.drop_succ_cons, List.drop_zero]
  replace kg1 := GD.has kg1
  replace HL := HL.gro ((Gro.refl _).drew.trans GD)
  replace GG := GG.drew.trans GD
  obtain ⟨_, ⟨ao2, cap2, hx2, HR2, hf2⟩, _⟩ := hxE
  simp only [hx2]
  clear hx2
  clear GD
  refine s_val 4 rfl rfl (.slice ao2 (lin (kc 0) s l).length cap2) (rfl) ?_
  refine nr ?_; intro U h; simp only [z0, z1] at h; subst h
  refine wpList_nil ?_
  refine then_n ?_
  refine wp_ret ?_
  refine bodyPost_ret (results_tmp Try.results33 _ _ _) rfl ?_
  exact ⟨_, _, rfl, GG, HR2, hf2⟩
set_option maxRecDepth 100000 in
set_option maxHeartbeats 4000000 in
theorem owed_any (s : Nat) (ao : Option Addr) (cap : Nat) (l : List Nat) (k : Nat) (w : World) (hs : s < top) (hk : k < top) (HL : RK kI w ao cap l) (hll : l.length ≤ 1000000) : Calls Try.prog 15 #[.agg (idA s), .slice ao l.length cap, .agg (idA k)] w (RowN (owC s l k) w) := by
  refine s_enter Try.func15 rfl Try.ntmps15 [.agg (idA s), .slice ao l.length cap, .agg (idA k)] [.agg (idA s), .slice ao l.length cap, .agg (idA k), undef, undef, undef, undef, undef, undef, undef, undef, undef, undef, undef, undef, undef, undef, undef, undef, undef, undef] rfl ?_
  have GG := Gro.refl w
  refine wp_seq ?_
  refine wp_region_lit ?_
  refine s_box 3 rfl rfl 23 _ rfl _ rfl (idA s) rfl ?_
  intro w1 g1 G eg1 kg1
  have bg1 := size_base GG eg1
  replace GG := GG.trans G
  clear G
  clear eg1
  refine nr ?_; intro U h; simp only [z0, z1] at h; subst h
  refine s_box 5 rfl rfl 23 _ rfl _ rfl (idA k) rfl ?_
  intro w2 g2 G eg2 kg2
  have bg2 := size_base GG eg2
  replace kg1 := G.has kg1
  replace GG := GG.trans G
  clear G
  clear eg2
  refine nr ?_; intro U h; simp only [z0, z1] at h; subst h
  refine s_val 6 rfl rfl (.slice none 0 0) (rfl) ?_
  refine nr ?_; intro U h; simp only [z0, z1] at h; subst h
  refine wpList_nil ?_
  refine then_n ?_
  refine wp_seq ?_
  refine wp_seq ?_
  cases t1 : rtC s l k
  · obtain ⟨b, hb, hbl, hbn, _⟩ := best_spec k l l.length (l_pos t1)
    refine wp_region_lit ?_
    refine s_val 7 rfl rfl (.agg (idA s)) (ldI0 _ rfl g1 rfl (kg1)) ?_
    refine nr ?_; intro U h; simp only [z0, z1] at h; subst h
    refine s_val 8 rfl rfl (.slice ao l.length cap) (rfl) ?_
    refine nr ?_; intro U h; simp only [z0, z1] at h; subst h
    refine s_val 9 rfl rfl (.agg (idA k)) (ldI0 _ rfl g2 rfl (kg2)) ?_
    refine nr ?_; intro U h; simp only [z0, z1] at h; subst h
    refine s_callv 10 rfl rfl _ 12 Try.call12 rfl rfl _ rfl [.agg (idA s), .slice ao l.length cap, .agg (idA k)] rfl (Calls.bool (root_any s ao cap l k _ hs hk (HL.gro GG) hll) t1) ?_
    intro w3 G
    replace kg1 := G.has kg1
    replace kg2 := G.has kg2
    replace GG := GG.trans G
    clear G
    refine nr ?_; intro U h; simp only [z0, z1] at h; subst h
    refine wpList_nil ?_
    refine then_n ?_
    refine wp_cond_false rfl ?_
    refine wp_skip ?_
    refine then_n ?_
    refine wp_seq ?_
    refine wp_region_lit ?_
    refine s_val 14 rfl rfl (.slice ao l.length cap) (rfl) ?_
    refine nr ?_; intro U h; simp only [z0, z1] at h; subst h
    refine s_val 15 rfl rfl (.agg (idA k)) (ldI0 _ rfl g2 rfl (kg2)) ?_
    refine nr ?_; intro U h; simp only [z0, z1] at h; subst h
    refine s_val 16 rfl rfl (.slice ao l.length cap) (rfl) ?_
    refine nr ?_; intro U h; simp only [z0, z1] at h; subst h
    refine s_callv 17 rfl rfl _ 34 Try.call34 rfl rfl _ rfl [.agg (idA k), .slice ao l.length cap] rfl (nestK k hk _ ao cap l (HL.gro GG) hll b hb) ?_
    intro w4 G
    replace kg1 := G.has kg1
    replace kg2 := G.has kg2
    replace GG := GG.trans G
    clear G
    refine nr ?_; intro U h; simp only [z0, z1] at h; subst h
    refine s_val 18 rfl rfl (.pointer (pK kI ao b 0)) (run_ixK rIk ((HL.gro GG)) _ _ rfl rfl b rfl hbl) ?_
    refine nr ?_; intro U h; simp only [z0, z1] at h; subst h
    refine s_val 19 rfl rfl (.agg (idA (l.getD b 0))) (run_ldKI ((HL.gro GG)) _ rfl b rfl hbl) ?_
    refine nr ?_; intro U h; simp only [z0, z1] at h; subst h
    refine s_bsl 20 rfl rfl 24 1 _ rfl [(0, .agg (idA (l.getD b 0)))] rfl ([(l.getD b 0)].flatMap kI.E).toArray 23 (bsI _ _) ?_
    intro w5 qHB G eqHB kqHB
    have bqHB := size_base GG eqHB
    replace kg1 := G.has kg1
    replace kg2 := G.has kg2
    replace GG := GG.trans G
    clear G
    have HB : RK kI w5 (some ⟨qHB, 0, none⟩) 1 [(l.getD b 0)] := RK.blk kqHB (one_all (atI HL hbl)) (Nat.le_refl _)
    clear eqHB kqHB
    refine nr ?_; intro U h; simp only [z0, z1] at h; subst h
    refine s_val 6 rfl rfl (.slice (some ⟨qHB, 0, none⟩) 1 1) (rfl) ?_
    refine nr ?_; intro U h; simp only [z0, z1] at h; subst h
    refine wpList_nil ?_
    refine then_n ?_
    refine wp_ret ?_
    refine bodyPost_ret (results_tmp Try.results15 _ _ _) rfl ?_
    rw [ow_near HL.alls hk t1 hbl hbn]
    exact ⟨_, _, rfl, GG, HB, fun ad h => by (cases h; exact bqHB)⟩
  · refine wp_region_lit ?_
    refine s_val 7 rfl rfl (.agg (idA s)) (ldI0 _ rfl g1 rfl (kg1)) ?_
    refine nr ?_; intro U h; simp only [z0, z1] at h; subst h
    refine s_val 8 rfl rfl (.slice ao l.length cap) (rfl) ?_
    refine nr ?_; intro U h; simp only [z0, z1] at h; subst h
    refine s_val 9 rfl rfl (.agg (idA k)) (ldI0 _ rfl g2 rfl (kg2)) ?_
    refine nr ?_; intro U h; simp only [z0, z1] at h; subst h
    refine s_callv 10 rfl rfl _ 12 Try.call12 rfl rfl _ rfl [.agg (idA s), .slice ao l.length cap, .agg (idA k)] rfl (Calls.bool (root_any s ao cap l k _ hs hk (HL.gro GG) hll) t1) ?_
    intro w3 G
    replace kg1 := G.has kg1
    replace kg2 := G.has kg2
    replace GG := GG.trans G
    clear G
    refine nr ?_; intro U h; simp only [z0, z1] at h; subst h
    refine wpList_nil ?_
    refine then_n ?_
    refine wp_cond_true rfl ?_
    refine wp_seq ?_
    refine wp_region_lit ?_
    refine s_val 11 rfl rfl (.agg (idA s)) (ldI0 _ rfl g1 rfl (kg1)) ?_
    refine nr ?_; intro U h; simp only [z0, z1] at h; subst h
    refine s_val 12 rfl rfl (.slice ao l.length cap) (rfl) ?_
    refine nr ?_; intro U h; simp only [z0, z1] at h; subst h
    refine s_callx 13 rfl rfl _ 33 Try.call33 rfl rfl _ rfl [.agg (idA s), .slice ao l.length cap] rfl (RowN.to (ow_rt HL.alls t1).symm (sortedK _ ao cap l (HL.gro GG) hll s hs)) (by rintro _ _ ⟨_, _, he, _, _, _⟩; exact ⟨_, he⟩) ?_
    rintro v w4 ⟨ao1, cap1, he, G, HR1, hn1⟩
    cases he
    have hf1 := fun ad h => Nat.le_trans GG.size (hn1 ad h)
    replace kg1 := G.has kg1
    replace kg2 := G.has kg2
    replace GG := GG.trans G
    clear G
    refine nr ?_; intro U h; simp only [z0, z1] at h; subst h
    refine s_val 6 rfl rfl (.slice ao1 (owC s l k).length cap1) (rfl) ?_
    refine nr ?_; intro U h; simp only [z0, z1] at h; subst h
    refine wpList_nil ?_
    refine then_n ?_
    refine wp_ret ?_
    refine then_r ?_
    refine bodyPost_ret (results_tmp Try.results15 _ _ _) rfl ?_
    exact ⟨_, _, rfl, GG, HR1, hf1⟩
set_option maxRecDepth 100000 in
set_option maxHeartbeats 4000000 in
theorem rowed_any (s : Nat) (ao : Option Addr) (cap : Nat) (l : List Nat) (k : Nat) (w : World) (hs : s < top) (hk : k < top) (HL : RK kI w ao cap l) (hll : l.length ≤ 1000000) : Calls Try.prog 16 #[.agg (idA s), .slice ao l.length cap, .agg (idA k)] w (RowN (owC s l k) w) := by
  refine s_enter Try.func16 rfl Try.ntmps16 [.agg (idA s), .slice ao l.length cap, .agg (idA k)] [.agg (idA s), .slice ao l.length cap, .agg (idA k), undef, undef, undef, undef, undef, undef, undef, undef, undef, undef, undef, undef, undef, undef, undef, undef, undef, undef, undef, undef] rfl ?_
  have GG := Gro.refl w
  refine wp_seq ?_
  refine wp_region_lit ?_
  refine s_box 3 rfl rfl 23 _ rfl _ rfl (idA s) rfl ?_
  intro w1 g1 G eg1 kg1
  have bg1 := size_base GG eg1
  replace GG := GG.trans G
  clear G
  clear eg1
  refine nr ?_; intro U h; simp only [z0, z1] at h; subst h
  refine s_box 5 rfl rfl 23 _ rfl _ rfl (idA k) rfl ?_
  intro w2 g2 G eg2 kg2
  have bg2 := size_base GG eg2
  replace kg1 := G.has kg1
  replace GG := GG.trans G
  clear G
  clear eg2
  refine nr ?_; intro U h; simp only [z0, z1] at h; subst h
  refine s_val 6 rfl rfl (.slice none 0 0) (rfl) ?_
  refine nr ?_; intro U h; simp only [z0, z1] at h; subst h
  refine wpList_nil ?_
  refine then_n ?_
  refine wp_seq ?_
  refine wp_region_lit ?_
  refine s_val 8 rfl rfl (.agg (idA s)) (ldI0 _ rfl g1 rfl (kg1)) ?_
  refine nr ?_; intro U h; simp only [z0, z1] at h; subst h
  refine s_val 9 rfl rfl (.slice ao l.length cap) (rfl) ?_
  refine nr ?_; intro U h; simp only [z0, z1] at h; subst h
  refine s_callx 10 rfl rfl _ 35 Try.call35 rfl rfl _ rfl [.agg (idA s), .slice ao l.length cap] rfl (rsortedK _ ao cap l (HL.gro GG) hll s hs) (by rintro _ _ ⟨_, _, he, _, _, _⟩; exact ⟨_, he⟩) ?_
  rintro v w3 ⟨ao1, cap1, he, G, HR1, hn1⟩
  cases he
  have hf1 := fun ad h => Nat.le_trans GG.size (hn1 ad h)
  replace kg1 := G.has kg1
  replace kg2 := G.has kg2
  replace GG := GG.trans G
  clear G
  refine nr ?_; intro U h; simp only [z0, z1] at h; subst h
  refine s_val 7 rfl rfl (.slice ao1 (lin (kc 0) s l).length cap1) (rfl) ?_
  refine nr ?_; intro U h; simp only [z0, z1] at h; subst h
  refine wpList_nil ?_
  refine then_n ?_
  refine wp_seq ?_
  refine wp_seq ?_
  have hln := Nat.le_trans (lin_len (kc 0) s l) hll
  cases t1 : rtC s l k
  · obtain ⟨b, hb, hbl, hbn, _⟩ := best_spec k (lin (kc 0) s l) (lin (kc 0) s l).length (lin_pos HL.alls t1)
    refine wp_region_lit ?_
    refine s_val 11 rfl rfl (.agg (idA s)) (ldI0 _ rfl g1 rfl (kg1)) ?_
    refine nr ?_; intro U h; simp only [z0, z1] at h; subst h
    refine s_val 12 rfl rfl (.slice ao1 (lin (kc 0) s l).length cap1) (rfl) ?_
    refine nr ?_; intro U h; simp only [z0, z1] at h; subst h
    refine s_val 13 rfl rfl (.agg (idA k)) (ldI0 _ rfl g2 rfl (kg2)) ?_
    refine nr ?_; intro U h; simp only [z0, z1] at h; subst h
    refine s_callv 14 rfl rfl _ 13 Try.call13 rfl rfl _ rfl [.agg (idA s), .slice ao1 (lin (kc 0) s l).length cap1, .agg (idA k)] rfl (Calls.bool (rroot_any s _ _ _ k _ hs hk HR1 hln) ((rtC_lin HL.alls k).trans t1)) ?_
    intro w4 G
    replace kg1 := G.has kg1
    replace kg2 := G.has kg2
    replace HR1 := HR1.gro G
    replace GG := GG.trans G
    clear G
    refine nr ?_; intro U h; simp only [z0, z1] at h; subst h
    refine wpList_nil ?_
    refine then_n ?_
    refine wp_cond_false rfl ?_
    refine wp_skip ?_
    refine then_n ?_
    refine wp_seq ?_
    refine wp_region_lit ?_
    refine s_val 16 rfl rfl (.slice ao1 (lin (kc 0) s l).length cap1) (rfl) ?_
    refine nr ?_; intro U h; simp only [z0, z1] at h; subst h
    refine s_val 17 rfl rfl (.agg (idA k)) (ldI0 _ rfl g2 rfl (kg2)) ?_
    refine nr ?_; intro U h; simp only [z0, z1] at h; subst h
    refine s_val 18 rfl rfl (.slice ao1 (lin (kc 0) s l).length cap1) (rfl) ?_
    refine nr ?_; intro U h; simp only [z0, z1] at h; subst h
    refine s_callv 19 rfl rfl _ 27 Try.call27 rfl rfl _ rfl [.agg (idA k), .slice ao1 (lin (kc 0) s l).length cap1] rfl (rnestK k hk _ _ _ _ HR1 hln b hb) ?_
    intro w5 G
    replace kg1 := G.has kg1
    replace kg2 := G.has kg2
    replace HR1 := HR1.gro G
    replace GG := GG.trans G
    clear G
    refine nr ?_; intro U h; simp only [z0, z1] at h; subst h
    refine s_val 20 rfl rfl (.pointer (pK kI ao1 b 0)) (run_ixK rIk (HR1) _ _ rfl rfl b rfl hbl) ?_
    refine nr ?_; intro U h; simp only [z0, z1] at h; subst h
    refine s_val 21 rfl rfl (.agg (idA ((lin (kc 0) s l).getD b 0))) (run_ldKI (HR1) _ rfl b rfl hbl) ?_
    refine nr ?_; intro U h; simp only [z0, z1] at h; subst h
    refine s_bsl 22 rfl rfl 24 1 _ rfl [(0, .agg (idA ((lin (kc 0) s l).getD b 0)))] rfl ([((lin (kc 0) s l).getD b 0)].flatMap kI.E).toArray 23 (bsI _ _) ?_
    intro w6 qHB G eqHB kqHB
    have bqHB := size_base GG eqHB
    replace kg1 := G.has kg1
    replace kg2 := G.has kg2
    replace HR1 := HR1.gro G
    replace GG := GG.trans G
    clear G
    have HB : RK kI w6 (some ⟨qHB, 0, none⟩) 1 [((lin (kc 0) s l).getD b 0)] := RK.blk kqHB (one_all (atI HR1 hbl)) (Nat.le_refl _)
    clear eqHB kqHB
    refine nr ?_; intro U h; simp only [z0, z1] at h; subst h
    refine s_val 6 rfl rfl (.slice (some ⟨qHB, 0, none⟩) 1 1) (rfl) ?_
    refine nr ?_; intro U h; simp only [z0, z1] at h; subst h
    refine wpList_nil ?_
    refine then_n ?_
    refine wp_ret ?_
    refine bodyPost_ret (results_tmp Try.results16 _ _ _) rfl ?_
    rw [ow_near2 HL.alls hk t1 hbl hbn]
    exact ⟨_, _, rfl, GG, HB, fun ad h => by (cases h; exact bqHB)⟩
  · refine wp_region_lit ?_
    refine s_val 11 rfl rfl (.agg (idA s)) (ldI0 _ rfl g1 rfl (kg1)) ?_
    refine nr ?_; intro U h; simp only [z0, z1] at h; subst h
    refine s_val 12 rfl rfl (.slice ao1 (lin (kc 0) s l).length cap1) (rfl) ?_
    refine nr ?_; intro U h; simp only [z0, z1] at h; subst h
    refine s_val 13 rfl rfl (.agg (idA k)) (ldI0 _ rfl g2 rfl (kg2)) ?_
    refine nr ?_; intro U h; simp only [z0, z1] at h; subst h
    refine s_callv 14 rfl rfl _ 13 Try.call13 rfl rfl _ rfl [.agg (idA s), .slice ao1 (lin (kc 0) s l).length cap1, .agg (idA k)] rfl (Calls.bool (rroot_any s _ _ _ k _ hs hk HR1 hln) ((rtC_lin HL.alls k).trans t1)) ?_
    intro w4 G
    replace kg1 := G.has kg1
    replace kg2 := G.has kg2
    replace HR1 := HR1.gro G
    replace GG := GG.trans G
    clear G
    refine nr ?_; intro U h; simp only [z0, z1] at h; subst h
    refine wpList_nil ?_
    refine then_n ?_
    refine wp_cond_true rfl ?_
    refine wp_seq ?_
    refine wp_region_lit ?_
    refine s_val 15 rfl rfl (.slice ao1 (lin (kc 0) s l).length cap1) (rfl) ?_
    refine nr ?_; intro U h; simp only [z0, z1] at h; subst h
    refine s_val 6 rfl rfl (.slice ao1 (lin (kc 0) s l).length cap1) (rfl) ?_
    refine nr ?_; intro U h; simp only [z0, z1] at h; subst h
    refine wpList_nil ?_
    refine then_n ?_
    refine wp_ret ?_
    refine then_r ?_
    refine bodyPost_ret (results_tmp Try.results16 _ _ _) rfl ?_
    rw [ow_rt HL.alls t1]
    exact ⟨_, _, rfl, GG, HR1, hf1⟩
set_option maxRecDepth 100000 in
set_option maxHeartbeats 4000000 in
theorem n_any (x : Nat) (hx : x < 256) (w : World) : Calls Try.prog 29 #[.int .u8 ((x : Nat) : Int)] w (fun e w' => e = .returned (.agg (idA x)) ∧ Gro w w') := by
  refine s_enter Try.func29 rfl Try.ntmps29 [.int .u8 ((x : Nat) : Int)] [.int .u8 ((x : Nat) : Int), undef, undef, undef, undef] rfl ?_
  have GG := Gro.refl w
  refine wp_seq ?_
  refine wp_region_lit ?_
  refine s_alloc 2 rfl rfl 23 rfl _ zero23 (idA 0) rfl ?_
  intro w1 g1 G eg1 kg1
  have bg1 := size_base GG eg1
  replace GG := GG.trans G
  clear G
  clear eg1
  refine nr ?_; intro U h; simp only [z0, z1] at h; subst h
  refine wpList_nil ?_
  refine then_n ?_
  refine wp_seq ?_
  refine wp_region_lit ?_
  refine s_val 3 rfl rfl (.int .u8 ((x : Nat) : Int)) (rfl) ?_
  refine nr ?_; intro U h; simp only [z0, z1] at h; subst h
  refine s_val 4 rfl rfl (.agg (idA x)) (run_build_n _ rfl x rfl hx _) ?_
  refine nr ?_; intro U h; simp only [z0, z1] at h; subst h
  refine s_store rfl rfl 23 _ _ rfl g1 0 rfl (.agg (idA x)) rfl 23 _ kg1 (idA x) rfl (size23' _) (idA_fit _ _) (idA_one _) (idA x) (splice_whole _ _ (idA_sz _ _)) ?_
  intro w2 St
  replace GG := GG.store St bg1
  replace kg1 := St.new
  clear St
  refine wpList_nil ?_
  refine then_n ?_
  refine wp_ret ?_
  refine bodyPost_ret (results_cell_row Try.results29 _ _ g1 23 _ (0, 0) _ rfl kg1 Try.underlying23 rfl (size23' _)) rfl ?_
  exact ⟨rfl, GG⟩
set_option maxRecDepth 100000 in
set_option maxHeartbeats 4000000 in
theorem new_any (w : World) : Calls Try.prog 17 #[] w (fun e w' => ∃ g mb, e = .returned (.pointer (some ⟨g, 0, none⟩)) ∧ Gro w w' ∧ w'.heap[g]? = some (.cells (bkA mb) 75 (0, 0)) ∧ TB w' mb [] ∧ w.heap.size ≤ g ∧ w.heap.size ≤ mb) := by
  refine s_enter Try.func17 rfl Try.ntmps17 [] [undef, undef, undef, undef] rfl ?_
  have GG := Gro.refl w
  refine wp_seq ?_
  refine wp_region_lit ?_
  refine s_val 0 rfl rfl (.pointer none) (rfl) ?_
  refine nr ?_; intro U h; simp only [z0] at h; subst h
  refine wpList_nil ?_
  refine then_n ?_
  refine wp_seq ?_
  refine wp_region_lit ?_
  refine s_mkMM kvB okB evB 1 rfl rfl rfl ?_
  intro w1 mb G em HM
  have bm := size_base GG em
  clear em
  replace GG := GG.trans G
  clear G
  refine nr ?_; intro U h; simp only [z0, z1] at h; subst h
  refine s_val 2 rfl rfl (.agg (bkA mb)) (run_bd 75 _ rfl [(0, .map (some mb))] rfl _ (bdBk mb _)) ?_
  refine nr ?_; intro U h; simp only [z0, z1] at h; subst h
  refine s_box 3 rfl rfl 75 _ rfl _ rfl (bkA mb) rfl ?_
  intro w2 g G eg kg
  have bg := size_base GG eg
  replace HM := HM.gro G
  replace GG := GG.trans G
  clear G
  clear eg
  refine nr ?_; intro U h; simp only [z0, z1] at h; subst h
  refine s_val 0 rfl rfl (.pointer (some ⟨g, 0, none⟩)) (rfl) ?_
  refine nr ?_; intro U h; simp only [z0] at h; subst h
  refine wpList_nil ?_
  refine then_n ?_
  refine wp_ret ?_
  refine bodyPost_ret (results_tmp Try.results17 _ _ _) rfl ?_
  exact ⟨g, mb, rfl, GG, kg, HM, bg, bm⟩
set_option maxRecDepth 100000 in
set_option maxHeartbeats 4000000 in
theorem fixed_any (w : World) : Calls Try.prog 11 #[] w (fun e w' => e = .returned (.bool true) ∧ Gro w w') := by
  refine s_enter Try.func11 rfl Try.ntmps11 [] [undef, undef, undef, undef, undef, undef, undef, undef, undef, undef, undef, undef, undef, undef, undef, undef, undef, undef, undef, undef, undef, undef, undef, undef, undef, undef, undef, undef, undef, undef] rfl ?_
  have GG := Gro.refl w
  refine wp_seq ?_
  refine wp_region_lit ?_
  refine s_val 0 rfl rfl (.bool false) (rfl) ?_
  refine nr ?_; intro U h; simp only [z0] at h; subst h
  refine wpList_nil ?_
  refine then_n ?_
  refine wp_seq ?_
  refine wp_region_lit ?_
  refine s_callv 2 rfl rfl _ 29 Try.call29 rfl rfl _ rfl [.int .u8 9] rfl (n_any 9 (by decide) _) ?_
  intro w1 G
  replace GG := GG.trans G
  clear G
  refine nr ?_; intro U h; simp only [z0, z1] at h; subst h
  refine s_callv 3 rfl rfl _ 29 Try.call29 rfl rfl _ rfl [.int .u8 20] rfl (n_any 20 (by decide) _) ?_
  intro w2 G
  replace GG := GG.trans G
  clear G
  refine nr ?_; intro U h; simp only [z0, z1] at h; subst h
  refine s_bsl 4 rfl rfl 24 2 _ rfl [(0, .agg (idA 9)), (1, .agg (idA 20))] rfl ([9, 20].flatMap kI.E).toArray 23 (bsI2 _ _ _) ?_
  intro w3 qb G eqb kqb
  replace GG := GG.trans G
  clear G
  have HB : RK kI w3 (some ⟨qb, 0, none⟩) 2 [9, 20] := RK.blk kqb (fun x hx => lt_top (by simp at hx; omega)) (Nat.le_refl _)
  clear eqb kqb
  refine nr ?_; intro U h; simp only [z0, z1] at h; subst h
  refine s_val 1 rfl rfl (.slice (some ⟨qb, 0, none⟩) 2 2) (rfl) ?_
  refine nr ?_; intro U h; simp only [z0, z1] at h; subst h
  refine wpList_nil ?_
  refine then_n ?_
  refine wp_seq ?_
  refine wp_region_exA (A := ?Ax2) 24 [(0, 5), (1, 6), (2, 7), (3, 8), (4, 9), (5, 10), (6, 11), (7, 12), (8, 13), (9, 14), (10, 15), (11, 16), (12, 17), (13, 18), (14, 19), (15, 20), (16, 21), (17, 22), (18, 23), (19, 24), (20, 25), (21, 26), (22, 27), (23, 28)] [.val (.agg (idA 5)), .val (.slice (some ⟨qb, 0, none⟩) 2 2), .val (.agg (idA 6)), .val (.bool true), .val (.bool true), .val (.agg (idA 5)), .val (.slice (some ⟨qb, 0, none⟩) 2 2), .val (.agg (idA 6)), rowK kI ([9, 20]), .val (.slice (some ⟨qb, 0, none⟩) 2 2), .val (.bool true), .val (.bool true), .val (.bool true), .val (.agg (idA 5)), .val (.slice (some ⟨qb, 0, none⟩) 2 2), .val (.agg (idA 10)), rowK kI ([9]), .val (.slice (some ⟨qb, 0, none⟩) 2 2), .val (.slice (some ⟨qb, 0, none⟩) 1 2), .val (.bool true), .val (.bool true), .val (.bool true), newE, .val (.bool true)] follows (by kernel_rfl) rfl ?hAx2 (opsA_cons ?o0x2 (opsA_cons ?o1x2 (opsA_cons ?o2x2 (opsA_cons ?o3x2 (opsA_cons ?o4x2 (opsA_cons ?o5x2 (opsA_cons ?o6x2 (opsA_cons ?o7x2 (opsA_cons ?o8x2 (opsA_cons ?o9x2 (opsA_cons ?o10x2 (opsA_cons ?o11x2 (opsA_cons ?o12x2 (opsA_cons ?o13x2 (opsA_cons ?o14x2 (opsA_cons ?o15x2 (opsA_cons ?o16x2 (opsA_cons ?o17x2 (opsA_cons ?o18x2 (opsA_cons ?o19x2 (opsA_cons ?o20x2 (opsA_cons ?o21x2 (opsA_cons ?o22x2 (opsA_cons ?o23x2 opsA_nil)))))))))))))))))))))))) ?restx2
  case hAx2 =>
    intro ptrs
    simp only [full, foldSlots, filledE, postE, List.foldl_cons, List.foldl_nil, List.getD_cons_zero, List.getD_cons_succ, fill_val, fill_rowK, fill_newE, List.set_cons_zero, List.set_cons_succ]
    exact rfl
  case o0x2 =>
    intro ptrs w' hw hE
    exact opE_call (.val (.agg (idA 5))) rfl _ 29 Try.call29 rfl rfl _ rfl [.int .u8 5] rfl ((n_any 5 (by decide) _).mono fun e w' ⟨he, hg⟩ => ⟨_, he, hg, rfl⟩)
  case o1x2 => exact fun _ _ _ _ => opE_move (v := .slice (some ⟨qb, 0, none⟩) 2 2) _ rfl rfl rfl
  case o2x2 =>
    intro ptrs w' hw hE
    exact opE_call (.val (.agg (idA 6))) rfl _ 29 Try.call29 rfl rfl _ rfl [.int .u8 6] rfl ((n_any 6 (by decide) _).mono fun e w' ⟨he, hg⟩ => ⟨_, he, hg, rfl⟩)
  case o3x2 =>
    intro ptrs w' hw hE
    exact opE_call (.val (.bool true)) rfl _ 12 Try.call12 rfl rfl _ rfl [.agg (idA 5), .slice (some ⟨qb, 0, none⟩) 2 2, .agg (idA 6)] rfl ((Calls.bool (root_any 5 (some ⟨qb, 0, none⟩) 2 [9, 20] 6 _ (lt_top (by decide)) (lt_top (by decide)) ((HB).gro ((Gro.refl _).drew.trans hw)) (by decide)) (by kernel_rfl)).mono fun e w' ⟨he, hg⟩ => ⟨_, he, hg, rfl⟩)
  case o4x2 => exact fun _ _ _ _ => opE_move (v := .bool true) _ rfl rfl rfl
  case o5x2 =>
    intro ptrs w' hw hE
    exact opE_call (.val (.agg (idA 5))) rfl _ 29 Try.call29 rfl rfl _ rfl [.int .u8 5] rfl ((n_any 5 (by decide) _).mono fun e w' ⟨he, hg⟩ => ⟨_, he, hg, rfl⟩)
  case o6x2 => exact fun _ _ _ _ => opE_move (v := .slice (some ⟨qb, 0, none⟩) 2 2) _ rfl rfl rfl
  case o7x2 =>
    intro ptrs w' hw hE
    exact opE_call (.val (.agg (idA 6))) rfl _ 29 Try.call29 rfl rfl _ rfl [.int .u8 6] rfl ((n_any 6 (by decide) _).mono fun e w' ⟨he, hg⟩ => ⟨_, he, hg, rfl⟩)
  case o8x2 =>
    intro ptrs w' hw hE
    exact opE_call (rowK kI ([9, 20])) rfl _ 15 Try.call15 rfl rfl _ rfl [.agg (idA 5), .slice (some ⟨qb, 0, none⟩) 2 2, .agg (idA 6)] rfl ((RowR.to (M := [9, 20]) (by kernel_rfl) (RowN.r (owed_any 5 (some ⟨qb, 0, none⟩) 2 [9, 20] 6 _ (lt_top (by decide)) (lt_top (by decide)) ((HB).gro ((Gro.refl _).drew.trans hw)) (by decide)))).mono fun e w' ⟨ao, cap, he, hg, hr⟩ => ⟨_, he, hg, ao, cap, rfl, hr⟩)
  case o9x2 => exact fun _ _ _ _ => opE_move (v := .slice (some ⟨qb, 0, none⟩) 2 2) _ rfl rfl rfl
  case o10x2 =>
    intro ptrs w' hw hE
    obtain ⟨⟨ao8, cap8, h8, o8⟩, _, _⟩ := hE
    exact opE_call (.val (.bool true)) rfl _ 14 Try.call14 rfl rfl _ rfl [.slice ao8 ([9, 20]).length cap8, .slice (some ⟨qb, 0, none⟩) 2 2] (by show [ptrs 8, .slice (some ⟨qb, 0, none⟩) 2 2] = _; rw [h8]) ((same_idsK _ ao8 cap8 ([9, 20]) o8 (by simp) (some ⟨qb, 0, none⟩) 2 ([9, 20]) ((HB).gro ((Gro.refl _).drew.trans hw)) (by simp) rfl).mono fun e w' ⟨he, hg⟩ => ⟨_, he, hg, rfl⟩)
  case o11x2 => exact fun _ _ _ _ => opE_pick (v := .bool true) _ _ _ rfl rfl true rfl rfl
  case o12x2 => exact fun _ _ _ _ => opE_move (v := .bool true) _ rfl rfl rfl
  case o13x2 =>
    intro ptrs w' hw hE
    exact opE_call (.val (.agg (idA 5))) rfl _ 29 Try.call29 rfl rfl _ rfl [.int .u8 5] rfl ((n_any 5 (by decide) _).mono fun e w' ⟨he, hg⟩ => ⟨_, he, hg, rfl⟩)
  case o14x2 => exact fun _ _ _ _ => opE_move (v := .slice (some ⟨qb, 0, none⟩) 2 2) _ rfl rfl rfl
  case o15x2 =>
    intro ptrs w' hw hE
    exact opE_call (.val (.agg (idA 10))) rfl _ 29 Try.call29 rfl rfl _ rfl [.int .u8 10] rfl ((n_any 10 (by decide) _).mono fun e w' ⟨he, hg⟩ => ⟨_, he, hg, rfl⟩)
  case o16x2 =>
    intro ptrs w' hw hE
    exact opE_call (rowK kI ([9])) rfl _ 15 Try.call15 rfl rfl _ rfl [.agg (idA 5), .slice (some ⟨qb, 0, none⟩) 2 2, .agg (idA 10)] rfl ((RowR.to (M := [9]) (by kernel_rfl) (RowN.r (owed_any 5 (some ⟨qb, 0, none⟩) 2 [9, 20] 10 _ (lt_top (by decide)) (lt_top (by decide)) ((HB).gro ((Gro.refl _).drew.trans hw)) (by decide)))).mono fun e w' ⟨ao, cap, he, hg, hr⟩ => ⟨_, he, hg, ao, cap, rfl, hr⟩)
  case o17x2 => exact fun _ _ _ _ => opE_move (v := .slice (some ⟨qb, 0, none⟩) 2 2) _ rfl rfl rfl
  case o18x2 => exact fun _ _ _ _ => opE_value (v := .slice (some ⟨qb, 0, none⟩) 1 2) rfl (run_cut0X rIk _ _ rfl (some ⟨qb, 0, none⟩) 2 2 1 rfl rfl (by decide) _)
  case o19x2 =>
    intro ptrs w' hw hE
    obtain ⟨⟨ao16, cap16, h16, o16⟩, _, _⟩ := hE
    exact opE_call (.val (.bool true)) rfl _ 14 Try.call14 rfl rfl _ rfl [.slice ao16 ([9]).length cap16, .slice (some ⟨qb, 0, none⟩) 1 2] (by show [ptrs 16, .slice (some ⟨qb, 0, none⟩) 1 2] = _; rw [h16]) ((same_idsK _ ao16 cap16 ([9]) o16 (by simp) (some ⟨qb, 0, none⟩) 2 ([9]) (((HB).gro ((Gro.refl _).drew.trans hw)).pre 1) (by simp) rfl).mono fun e w' ⟨he, hg⟩ => ⟨_, he, hg, rfl⟩)
  case o20x2 => exact fun _ _ _ _ => opE_pick (v := .bool true) _ _ _ rfl rfl true rfl rfl
  case o21x2 => exact fun _ _ _ _ => opE_move (v := .bool true) _ rfl rfl rfl
  case o22x2 =>
    intro ptrs w' hw hE
    exact opE_call newE rfl _ 17 Try.call17 rfl rfl _ rfl [] rfl ((new_any _).mono fun e w' ⟨g, _, he, hg, _⟩ => ⟨_, he, hg, g, rfl⟩)
  case o23x2 =>
    intro ptrs w' hw hE
    obtain ⟨⟨g22, h22⟩, _⟩ := hE
    exact opE_value (v := .bool true) rfl (run_nenp 32 _ _ _ rfl _ (by exact h22) rfl Try.underlying32 _)
  intro ptrs w4 GD hxE
  simp only [List.drop_succ_cons, List.drop_zero]
  replace HB := HB.gro ((Gro.refl _).drew.trans GD)
  replace GG := GG.drew.trans GD
  obtain ⟨_, _, _, _⟩ := hxE
  clear GD
  refine s_val 29 rfl rfl (.bool true) (rfl) ?_
  refine nr ?_; intro U h; simp only [z0, z1] at h; subst h
  refine s_val 0 rfl rfl (.bool true) (rfl) ?_
  refine nr ?_; intro U h; simp only [z0] at h; subst h
  refine wpList_nil ?_
  refine then_n ?_
  refine wp_ret ?_
  refine bodyPost_ret (results_tmp Try.results11 _ _ _) rfl ?_
  exact ⟨rfl, GG⟩
end Go.Proofs.Ytjahegiopigblaa
