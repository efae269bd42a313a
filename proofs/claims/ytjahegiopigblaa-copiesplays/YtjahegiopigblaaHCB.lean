/- Whatever is marked and forgotten, what is due is the document's. -/
import Derived.Test.YtjahegiopigblaaHC7
import Derived.Test.YtjahegiopigblaaHC8
import Derived.Test.YtjahegiopigblaaHCA
import Derived.Test.YtjahegiopigblaaHV12c
import Derived.Test.YtjahegiopigblaaHFr23
namespace Go.Proofs.Ytjahegiopigblaa
open Go.RowKit
theorem bat {o : Oper} {A : Act} (x y : Operand) (ho : o.op = .indexAddr 44 x y) (g n cap j : Nat) (hx : A.eval x = .slice (some ⟨g, 0, none⟩) n cap) (hy : A.eval y = .int .i64 (j : Int)) (hj : j < n) (w : World) :
    (execOp A.eval o).run Try.prog w = .ok (.value (.pointer (some ⟨g, j, none⟩))) w := by
  rw [run_idx bT x y ho ⟨g, 0, none⟩ n cap j hx hy hj w, add_at, Nat.zero_add]
/-- Both books note the same. -/
structure BkC (L : List ((Nat × Nat) × VM)) (N : List NM) : Prop where
  ok : okV L
  rel : ∀ i k, (getM L (i, k)).getD zV = lastV N i k
theorem BkC.start : BkC [] [] := ⟨fun _ h => (by cases h), fun _ _ => rfl⟩
theorem BkC.mark {L : List ((Nat × Nat) × VM)} {N : List NM} (h : BkC L N) (hk : KNM L) (i k : Nat) {v : VM} (hv : v.ok) : BkC (mkB L (i, k) v) (markN N ⟨i, k, v⟩) :=
  ⟨h.ok.mk _ hv, fun a b => by
    rw [mkB_get hk, lastV_mark, h.rel]
    by_cases c : a = i ∧ b = k
    · rw [if_pos c, if_pos (by rw [c.1, c.2])]
    · rw [if_neg c, if_neg (fun e => c ⟨congrArg Prod.fst e, congrArg Prod.snd e⟩)]⟩
theorem BkC.retain {L L2 : List ((Nat × Nat) × VM)} {N : List NM} {l : List Nat} (h : BkC L N) (h2 : ∀ p, getM L2 p = if p.1 ∈ l then getM L p else none) (hs : ∀ x ∈ L2, x ∈ L) : BkC L2 (retN N l) :=
  ⟨fun x hx => h.ok x (hs x hx), fun a b => by
    rw [h2, lastV_ret]
    by_cases c : a ∈ l
    · rw [if_pos c, if_pos c]
      exact h.rel a b
    · rw [if_neg c, if_neg c]
      rfl⟩
theorem BkC.fun {L : List ((Nat × Nat) × VM)} {N : List NM} (h : BkC L N) : (fun i k => (getM L (i, k)).getD zV) = lastV N := funext fun i => funext fun k => h.rel i k
theorem markN_len (N : List NM) (x : NM) : (markN N x).length ≤ N.length + 1 := by
  unfold markN
  rw [List.length_append]
  exact Nat.add_le_add_right (List.length_filter_le _ _) 1
theorem retN_len (N : List NM) (l : List Nat) : (retN N l).length ≤ N.length := List.length_filter_le _ _
theorem RBk.nin {w : World} {C gr g : Nat} {N : List NM} {cs : Array Value} {t : TypeId} (h : RBk w C gr N) (kg : w.heap[g]? = some (.cells cs t (0, 0))) (ht : t ≠ 37) : g ∉ [gr] := fun hm => by
  obtain ⟨ao, cap, h1, _⟩ := h
  exact ne_type kg h1 ht (List.mem_singleton.1 hm)
theorem RBk.nm {w : World} {C gr mb : Nat} {N : List NM} {L : List ((Nat × Nat) × VM)} (h : RBk w C gr N) (HM : TB w mb L) : mb ∉ [gr] := fun hm => by
  obtain ⟨ao, cap, h1, _⟩ := h
  exact HM.nec h1 (List.mem_singleton.1 hm).symm
theorem RBk.gros {w w' : World} {C gr : Nat} {S : List Nat} {N : List NM} (h : RBk w C gr N) (G : GroS S w w') (hS : ∀ k ∈ S, ∃ cs t, w.heap[k]? = some (.cells cs t (0, 0)) ∧ t ≠ 37 ∧ t ≠ 79) : RBk w' C gr N := by
  obtain ⟨ao, cap, h1, h2⟩ := h
  refine ⟨ao, cap, G.has h1 (fun hm => ?_), h2.gros G fun k hk hm => ?_⟩
  · obtain ⟨cs, t, hc, ht, _⟩ := hS _ hm
    exact ne_type hc h1 ht rfl
  · obtain ⟨cs, t, hc, _, ht⟩ := hS _ hm
    obtain ⟨cur, hk2⟩ := (h2.own.at _ hk).2
    exact ne_type hc hk2 ht rfl
theorem RBk.sto {w w' : World} {C gr g : Nat} {N : List NM} {cs : Array Value} {t : TypeId} {x : Obj} (h : RBk w C gr N) (St : Stored w w' g x) (kg : w.heap[g]? = some (.cells cs t (0, 0))) (h1 : t ≠ 37) (h2 : t ≠ 79) : RBk w' C gr N :=
  h.gros St.gros fun k hk => ⟨cs, t, by rw [List.mem_singleton.1 hk]; exact kg, h1, h2⟩
theorem atDu {w : World} {ao : Option Addr} {cap : Nat} {l : List DM} (h : RK kdu w ao cap l) {j : Nat} (hj : j < l.length) : (l.getD j zD).ok := h.at hj
theorem getD_mD {l : List DM} {j : Nat} (hj : j < l.length) : l.getD j zD ∈ l := by
  rw [List.getD_eq_getElem?_getD, List.getElem?_eq_getElem hj]
  exact List.getElem_mem hj
theorem ab_at {l m : List DM} (h : l.map DM.ab = m.map DM.ab) {j : Nat} (hj : j < l.length) (hm : j < m.length) : (l.getD j zD).to = (m.getD j zD).to ∧ (l.getD j zD).it.sg = (m.getD j zD).it.sg := by
  have h1 : (l.map DM.ab)[j]? = (m.map DM.ab)[j]? := by rw [h]
  rw [List.getElem?_map, List.getElem?_map, List.getElem?_eq_getElem hj, List.getElem?_eq_getElem hm] at h1
  rw [List.getD_eq_getElem?_getD, List.getElem?_eq_getElem hj, List.getD_eq_getElem?_getD, List.getElem?_eq_getElem hm]
  simp only [Option.map_some, Option.some.injEq] at h1
  exact ⟨congrArg Prod.fst h1, congrArg Prod.snd h1⟩
/-- Items whose bytes can be written over. -/
def WBd (w : World) (B : Nat) (Z : List DM) : Prop := ∀ d ∈ Z, ∀ j, j < d.it.val.length → ∃ g cur n, d.it.ao = some ⟨g, 0, none⟩ ∧ B ≤ g ∧ w.heap[g]? = some (.cells cur 5 (0, 0)) ∧ cur[j]? = some (.int .u8 ((n : Nat) : Int))
theorem WBd.of {w : World} {B : Nat} {Z : List DM} (h : OBd w B Z) : WBd w B Z := fun d hd j hj => by
  obtain ⟨g, cur, h1, h2, h3, h4, h5, h6, h7⟩ := (h d hd).blk hj
  refine ⟨g, cur, d.it.val.getD j 0, h1, h2, h3, ?_⟩
  have h8 : (cur.toList.take d.it.val.length)[j]? = (d.it.val.map fun r : Nat => Value.int .u8 (r : Int))[j]? := by rw [h7]
  rw [List.getElem?_take, if_pos hj, List.getElem?_map, List.getElem?_eq_getElem hj, Array.getElem?_toList] at h8
  rw [h8, List.getD_eq_getElem?_getD, List.getElem?_eq_getElem hj]
  rfl
theorem WBd.gro {w w' : World} {B : Nat} {Z : List DM} (h : WBd w B Z) (G : Gro w w') : WBd w' B Z := fun d hd j hj => by
  obtain ⟨g, cur, n, h1, h2, h3, h4⟩ := h d hd j hj
  exact ⟨g, cur, n, h1, h2, G.has h3, h4⟩
theorem OBd.lens {w : World} {B : Nat} {Z : List DM} (h : OBd w B Z) : ∀ d ∈ Z, d.it.val.length ≤ 9223372036854775807 := fun d hd => by
  cases Nat.eq_zero_or_pos d.it.val.length with
  | inl h0 => omega
  | inr h0 =>
    obtain ⟨g, cur, _, _, _, h4, h5, _⟩ := (h d hd).blk h0
    simp only [maxLen] at h5
    omega
theorem OW.lens {α : Type} {K : Kd α} {e : TypeId} {w : World} {B : Nat} {ao : Option Addr} {cap : Nat} {l : List α} (h : OW K e w B ao cap l) : l.length ≤ 9223372036854775807 := by
  rcases h.own.row with ⟨_, _, h3⟩ | ⟨g, d, cur, _, _, _, h4, h5, _⟩
  · omega
  · simp only [maxLen] at h5
    omega
theorem splice_at (cur : Array Value) (k : Nat) (v : Value) (hk : k < cur.size) (j : Nat) : (splice cur k #[v])[j]? = if j = k then some v else cur[j]? := by
  rw [splice_one cur k v hk, Array.getElem?_setIfInBounds]
  by_cases e : k = j
  · rw [if_pos e, if_pos e.symm, if_pos (e ▸ hk)]
  · rw [if_neg e, if_neg (Ne.symm e)]
theorem WBd.put {w w' : World} {B : Nat} {Z : List DM} (h : WBd w B Z) {g k y : Nat} {cur : Array Value} (hg : w.heap[g]? = some (.cells cur 5 (0, 0))) (hk : k < cur.size) (St : Stored w w' g (.cells (splice cur k #[.int .u8 ((y : Nat) : Int)]) 5 (0, 0))) : WBd w' B Z := fun d hd j hj => by
  obtain ⟨a, cur2, n, h1, h2, h3, h4⟩ := h d hd j hj
  by_cases e : a = g
  · subst e
    rw [hg] at h3
    cases h3
    by_cases ej : j = k
    · exact ⟨a, _, y, h1, h2, St.new, by rw [splice_at _ _ _ hk, if_pos ej]⟩
    · exact ⟨a, _, n, h1, h2, St.new, by rw [splice_at _ _ _ hk, if_neg ej]; exact h4⟩
  · exact ⟨a, cur2, n, h1, h2, St.has e h3, h4⟩
theorem getD_mO {l : List OQ} {j : Nat} (hj : j < l.length) : l.getD j zO ∈ l := by
  rw [List.getD_eq_getElem?_getD, List.getElem?_eq_getElem hj]
  exact List.getElem_mem hj
theorem run_ld5 {o : Oper} {A : Act} {w : World} (x : Operand) (ho : o.op = .load 5 x) (g j : Nat) (hx : A.eval x = .pointer (some ⟨g, j, none⟩)) {cur : Array Value} (hg : w.heap[g]? = some (.cells cur 5 (0, 0))) {v : Value} (hv : cur[j]? = some v) : (execOp A.eval o).run Try.prog w = .ok (.value v) w :=
  run_ld bT x ho ⟨g, j, none⟩ hx w v (by rw [cell_of_row w g j cur 5 _ hg]; exact hv)
set_option maxRecDepth 100000 in
set_option maxHeartbeats 4000000 in
theorem copiesPlays_any (ao : Option Addr) (cap : Nat) (l : List OQ) (w : World) (HA : RK koq w ao cap l) (HN : ∀ o ∈ l, OQ.good w o) (hbig : ∀ o ∈ l, ∀ z ∈ o.its, z.val.length ≤ 140737488355000) : Calls Try.prog 4 #[.slice ao l.length cap] w (fun e w' => e = .returned (.bool true) ∧ Gro w w') := by
  refine s_enter Try.func4 rfl Try.ntmps4 [.slice ao l.length cap] [.slice ao l.length cap, undef, undef, undef, undef, undef, undef, undef, undef, undef, undef, undef, undef, undef, undef, undef, undef, undef, undef, undef, undef, undef, undef, undef, undef, undef, undef, undef, undef, undef, undef, undef, undef, undef, undef, undef, undef, undef, undef, undef, undef, undef, undef, undef, undef, undef, undef, undef, undef, undef, undef, undef, undef, undef, undef, undef, undef, undef, undef, undef, undef, undef, undef, undef, undef, undef, undef, undef, undef, undef, undef, undef, undef, undef, undef, undef, undef, undef, undef, undef, undef, undef, undef, undef, undef, undef, undef, undef, undef, undef, undef, undef, undef, undef, undef, undef, undef, undef, undef, undef, undef, undef, undef, undef, undef, undef, undef, undef, undef, undef, undef, undef, undef, undef, undef, undef, undef, undef, undef, undef, undef, undef, undef, undef, undef, undef, undef, undef, undef, undef, undef, undef, undef, undef, undef, undef, undef, undef, undef, undef, undef, undef, undef, undef, undef] rfl ?_
  have GG := Gro.refl w
  refine wp_seq ?_
  refine wp_region_lit ?_
  refine s_val 2 rfl rfl (.bool false) (rfl) ?_
  refine nr ?_; intro U h; simp only [z0, z1] at h; subst h
  refine wpList_nil ?_
  refine then_n ?_
  refine wp_seq ?_
  refine wp_region_lit ?_
  refine s_callx 14 rfl rfl _ 17 Try.call17 rfl rfl _ rfl [] rfl (new_any _) (by rintro _ _ ⟨_, _, he, _, _, _, _, _⟩; exact ⟨_, he⟩) ?_
  rintro v w1 ⟨gb, mb, he, G, kgb, HM, bgb, bmb⟩
  cases he
  replace bgb := Nat.le_trans GG.size bgb
  replace bmb := Nat.le_trans GG.size bmb
  replace GG := GG.trans G
  clear G
  refine nr ?_; intro U h; simp only [z0, z1] at h; subst h
  refine s_val 3 rfl rfl (.pointer (some ⟨gb, 0, none⟩)) (rfl) ?_
  refine nr ?_; intro U h; simp only [z0, z1] at h; subst h
  refine wpList_nil ?_
  refine then_n ?_
  refine wp_seq ?_
  refine wp_region_lit ?_
  refine s_val 15 rfl rfl (.agg (rbA none 0 0)) (run_bd 37 _ rfl [] rfl _ (bdRb _)) ?_
  refine nr ?_; intro U h; simp only [z0, z1] at h; subst h
  refine s_box 16 rfl rfl 37 _ rfl _ rfl (rbA none 0 0) rfl ?_
  intro w2 gr G eg kgr
  have bgr := size_base GG eg
  replace kgb := G.has kgb
  replace HM := HM.gro G
  replace GG := GG.trans G
  clear G
  clear eg
  have HB : RBk w2 w.heap.size gr [] := ⟨none, 0, kgr, OW.nil _ _⟩
  clear kgr
  refine nr ?_; intro U h; simp only [z0, z1] at h; subst h
  refine s_val 4 rfl rfl (.pointer (some ⟨gr, 0, none⟩)) (rfl) ?_
  refine nr ?_; intro U h; simp only [z0, z1] at h; subst h
  refine wpList_nil ?_
  refine then_n ?_
  refine wp_seq ?_
  refine wp_seq ?_
  refine wp_region_opq ?_
  intro OPS hY
  have y2 := hY 2 19 rfl
  clear hY
  refine s_val 17 rfl rfl (.pointer (some ⟨gb, 0, none⟩)) (rfl) ?_
  refine nr ?_; intro U h; simp only [z0, z1] at h; subst h
  refine s_val 18 rfl rfl (.bool false) (run_eqnp 32 _ _ _ rfl _ rfl rfl Try.underlying32 _) ?_
  refine nr ?_; intro U h; simp only [z0, z1] at h; subst h
  refine s_val 19 rfl rfl (.bool false) (rfl) ?_
  refine nr ?_; intro U h; simp only [z0, z1] at h; subst h
  refine s_gcallvY 20 rfl rfl y2 rfl _ 11 Try.call11 rfl rfl _ rfl [] rfl (fixed_any _) ?_
  intro w3 G
  replace kgb := G.has kgb
  replace HM := HM.gro G
  replace HB := HB.gro G
  replace GG := GG.trans G
  clear G
  refine nr ?_; intro U h; simp only [z0, z1] at h; subst h
  refine s_gvalY 21 rfl rfl y2 rfl (.bool false) (run_nt _ _ rfl true rfl) ?_
  refine nr ?_; intro U h; simp only [z0, z1] at h; subst h
  refine s_val 22 rfl rfl (.bool false) (rfl) ?_
  refine nr ?_; intro U h; simp only [z0, z1] at h; subst h
  refine wpList_nil ?_
  refine then_n ?_
  refine wp_cond_false rfl ?_
  refine wp_skip ?_
  refine then_n ?_
  refine wp_seq ?_
  refine wp_seq ?_
  refine wp_region_lit ?_
  refine s_val 23 rfl rfl (.slice ao l.length cap) (rfl) ?_
  refine nr ?_; intro U h; simp only [z0, z1] at h; subst h
  refine s_val 24 rfl rfl (.int .i64 ((l.length : Nat) : Int)) (run_len Try.underlying31 _ rfl _ _ _ rfl _) ?_
  refine nr ?_; intro U h; simp only [z0, z1] at h; subst h
  refine s_val 25 rfl rfl (.int .i64 0) (rfl) ?_
  refine nr ?_; intro U h; simp only [z0, z1] at h; subst h
  refine wpList_nil ?_
  refine then_n ?_
  refine wp_block ?_
  refine wp_loopN (fun mz az wv => ∃ (i : Nat) (Lc : List ((Nat × Nat) × VM)) (Nl : List NM) (us1 : Nat → Value), mz = l.length - i ∧ az = ⟨[.slice ao l.length cap, undef, us1 0, .pointer (some ⟨gb, 0, none⟩), .pointer (some ⟨gr, 0, none⟩), us1 1, us1 2, us1 3, us1 4, us1 5, us1 6, us1 7, us1 8, us1 9, .pointer (some ⟨gb, 0, none⟩), .agg (rbA none 0 0), .pointer (some ⟨gr, 0, none⟩), .pointer (some ⟨gb, 0, none⟩), .bool false, .bool false, .bool true, .bool false, .bool false, .slice ao l.length cap, .int .i64 ((l.length : Nat) : Int), .int .i64 ((i : Nat) : Int), us1 10, us1 11, us1 12, us1 13, us1 14, us1 15, us1 16, us1 17, us1 18, us1 19, us1 20, us1 21, us1 22, us1 23, us1 24, us1 25, us1 26, us1 27, us1 28, us1 29, us1 30, us1 31, us1 32, us1 33, us1 34, us1 35, us1 36, us1 37, us1 38, us1 39, us1 40, us1 41, us1 42, us1 43, us1 44, us1 45, us1 46, us1 47, us1 48, us1 49, us1 50, us1 51, us1 52, us1 53, us1 54, us1 55, us1 56, us1 57, us1 58, us1 59, us1 60, us1 61, us1 62, us1 63, us1 64, us1 65, us1 66, us1 67, us1 68, us1 69, us1 70, us1 71, us1 72, us1 73, us1 74, us1 75, us1 76, us1 77, us1 78, us1 79, us1 80, us1 81, us1 82, us1 83, us1 84, us1 85, us1 86, us1 87, us1 88, us1 89, us1 90, us1 91, us1 92, us1 93, us1 94, us1 95, us1 96, us1 97, us1 98, us1 99, us1 100, us1 101, us1 102, us1 103, us1 104, us1 105, us1 106, us1 107, us1 108, us1 109, us1 110, us1 111, us1 112, us1 113, us1 114, us1 115, us1 116, us1 117, us1 118, us1 119, us1 120, us1 121, us1 122, us1 123, us1 124, us1 125, us1 126, us1 127, us1 128].toArray, []⟩ ∧ Gro w wv ∧ wv.heap[gb]? = some (.cells (bkA mb) 75 (0, 0)) ∧ TB wv mb Lc ∧ RBk wv w.heap.size gr Nl ∧ BkC Lc Nl ∧ (i ≤ l.length ∧ i ≤ 101 ∧ Nl.length ≤ i)) ?_ _ ⟨0, [], [], (fun kz => ([.bool false, undef, undef, undef, undef, undef, undef, undef, undef, undef, undef, undef, undef, undef, undef, undef, undef, undef, undef, undef, undef, undef, undef, undef, undef, undef, undef, undef, undef, undef, undef, undef, undef, undef, undef, undef, undef, undef, undef, undef, undef, undef, undef, undef, undef, undef, undef, undef, undef, undef, undef, undef, undef, undef, undef, undef, undef, undef, undef, undef, undef, undef, undef, undef, undef, undef, undef, undef, undef, undef, undef, undef, undef, undef, undef, undef, undef, undef, undef, undef, undef, undef, undef, undef, undef, undef, undef, undef, undef, undef, undef, undef, undef, undef, undef, undef, undef, undef, undef, undef, undef, undef, undef, undef, undef, undef, undef, undef, undef, undef, undef, undef, undef, undef, undef, undef, undef, undef, undef, undef, undef, undef, undef, undef, undef, undef, undef, undef, undef] : List Value).getD kz undef), rfl, rfl, GG, kgb, HM, HB, BkC.start, ⟨Nat.zero_le _, Nat.zero_le _, Nat.zero_le _⟩⟩
  clear GG kgb HM HB
  rintro mz az wv ⟨i, Lc, Nl, us1, rfl, rfl, GG, kgb, HM, HB, hC, hi⟩
  refine wp_seq ?_
  cases t1 : decide (((i : Nat) : Int) < ((l.length : Nat) : Int))
  · refine wp_region_lit ?_
    refine s_val 26 rfl rfl (.bool false) (run_lssT 3 _ _ _ rfl ((i : Nat) : Int) ((l.length : Nat) : Int) rfl rfl false t1 _) ?_
    refine nr ?_; intro U h; simp only [z0, z1] at h; subst h
    refine wpList_nil ?_
    refine then_n ?_
    refine wp_seq ?_
    refine wp_cond_false rfl ?_
    refine wp_exit ?_
    refine then_x ?_
    refine then_x ?_
    refine blk_x ?_
    refine then_n ?_
    refine wp_seq ?_
    refine wp_region_lit ?_
    refine s_val 2 rfl rfl (.bool true) (rfl) ?_
    refine nr ?_; intro U h; simp only [z0, z1] at h; subst h
    refine wpList_nil ?_
    refine then_n ?_
    refine wp_ret ?_
    refine bodyPost_ret (results_tmp Try.results4 _ _ _) rfl ?_
    exact ⟨rfl, GG⟩
  · have hlt : i < l.length := by have := of_decide_eq_true t1; omega
    refine wp_region_lit ?_
    refine s_val 26 rfl rfl (.bool true) (run_lssT 3 _ _ _ rfl ((i : Nat) : Int) ((l.length : Nat) : Int) rfl rfl true t1 _) ?_
    refine nr ?_; intro U h; simp only [z0, z1] at h; subst h
    refine wpList_nil ?_
    refine then_n ?_
    refine wp_seq ?_
    refine wp_cond_true rfl ?_
    refine wp_skip ?_
    refine then_n ?_
    refine wp_seq ?_
    refine wp_block ?_
    refine wp_seq ?_
    obtain ⟨q, hqd⟩ : ∃ q, l.getD i zO = q := ⟨_, rfl⟩
    have hqm : q ∈ l := hqd ▸ getD_mO hlt
    have hq := HN q hqm
    have hqb := hbig q hqm
    obtain ⟨ids, hids⟩ : ∃ ids, q.ids.take 12 = ids := ⟨_, rfl⟩
    have HIs : RK kI w q.io ids.length ids := hids ▸ hq.2.1.take 12
    have hidl : ids.length ≤ 12 := by rw [← hids, List.length_take]; omega
    obtain ⟨its, hits⟩ : ∃ its, q.its.take 12 = its := ⟨_, rfl⟩
    have HMs : RK kM w q.mo its.length its := hits ▸ hq.2.2.1.take 12
    have hitl : its.length ≤ 12 := by rw [← hits, List.length_take]; omega
    have NIs : NCs w its := fun x hx => hq.2.2.2 x (by rw [← hits] at hx; exact List.mem_of_mem_take hx)
    have hbs : ∀ x ∈ its, x.val.length ≤ 140737488355000 := fun x hx => hqb x (by rw [← hits] at hx; exact List.mem_of_mem_take hx)
    refine wp_region_lit ?_
    refine s_val 27 rfl rfl (.int .i64 ((i : Nat) : Int)) (rfl) ?_
    refine nr ?_; intro U h; simp only [z0, z1] at h; subst h
    refine s_val 28 rfl rfl (.pointer (pK koq ao i 0)) (run_ixK roq31 ((HA.gro GG)) _ _ rfl rfl i rfl (by omega)) ?_
    refine nr ?_; intro U h; simp only [z0, z1] at h; subst h
    refine s_val 29 rfl rfl (.agg (oqA q)) (by rw [← hqd]; exact rldOq0 (HA.gro GG) _ rfl i rfl hlt) ?_
    refine nr ?_; intro U h; simp only [z0, z1] at h; subst h
    refine s_alloc 6 rfl rfl 42 rfl _ zerooq42 (oqA zO) rfl ?_
    intro w4 g1 G eg1 kg1
    have bg1 := size_base GG eg1
    have dgbg1 := lt_new kgb eg1
    have dHMg1 := HM.ne eg1
    replace kgb := G.has kgb
    replace HM := HM.gro G
    replace HB := HB.gro G
    replace GG := GG.trans G
    clear G
    clear eg1
    refine nr ?_; intro U h; simp only [z0, z1] at h; subst h
    refine s_val 5 rfl rfl (.int .i64 ((i : Nat) : Int)) (rfl) ?_
    refine nr ?_; intro U h; simp only [z0, z1] at h; subst h
    refine s_store rfl rfl 42 _ _ rfl g1 0 rfl (.agg (oqA q)) rfl 42 _ kg1 (oqA q) rfl (sioq42' _) (oqA_fit _ _) (oqA_one _) (oqA q) (splice_whole _ _ (oqA_sz _ _)) ?_
    intro w5 St
    replace kgb := St.has (by omega) kgb
    replace HM := HM.st St dHMg1
    replace HB := HB.sto St kg1 (by decide) (by decide)
    replace GG := GG.store St bg1
    replace kg1 := St.new
    clear St
    refine wpList_nil ?_
    refine then_n ?_
    refine wp_seq ?_
    refine wp_seq ?_
    cases h100 : decide ((100 : Int) < ((i : Nat) : Int))
    · have hi100 := of_decide_eq_false h100
      refine wp_region_lit ?_
      refine s_val 30 rfl rfl (.int .i64 ((i : Nat) : Int)) (rfl) ?_
      refine nr ?_; intro U h; simp only [z0, z1] at h; subst h
      refine s_val 31 rfl rfl (.bool false) (run_gtrT 3 _ _ _ rfl ((i : Nat) : Int) 100 rfl rfl false h100 _) ?_
      refine nr ?_; intro U h; simp only [z0, z1] at h; subst h
      refine wpList_nil ?_
      refine then_n ?_
      refine wp_cond_false rfl ?_
      refine wp_skip ?_
      refine then_n ?_
      refine wp_seq ?_
      refine wp_region_exA (A := ?Ax1) 5 [(0, 32), (1, 33), (2, 34), (3, 35), (4, 36)] [.val (.pointer (some ⟨g1, 50, none⟩)), .val (.slice q.io q.ids.length q.ic), .val (.slice q.io ids.length ids.length), .val (.pointer (some ⟨g1, 51, none⟩)), .val (.slice q.mo q.its.length q.mc)] follows (by kernel_rfl) rfl ?hAx1 (opsA_cons ?o0x1 (opsA_cons ?o1x1 (opsA_cons ?o2x1 (opsA_cons ?o3x1 (opsA_cons ?o4x1 opsA_nil))))) ?restx1
      case hAx1 =>
        intro ptrs
        simp only [full, foldSlots, filledE, postE, List.foldl_cons, List.foldl_nil, List.getD_cons_zero, List.getD_cons_succ, fill_val, List.set_cons_zero, List.set_cons_succ]
        exact rfl
      case o0x1 => exact fun _ _ _ _ => opE_value (v := .pointer (some ⟨g1, 50, none⟩)) rfl (run_fld 42 _ 4 rfl g1 0 rfl 50 (by kernel_rfl))
      case o1x1 => exact fun _ _ hw _ => opE_value (v := .slice q.io q.ids.length q.ic) rfl (ldOqi _ rfl g1 rfl (hw.has kg1))
      case o2x1 =>
        intro ptrs w' hw hE
        exact opE_call (.val (.slice q.io ids.length ids.length)) rfl _ 9 Try.call9 rfl rfl _ rfl [.slice q.io q.ids.length q.ic, .int .i64 12] rfl ((Calls.valV (cutI_any q.io q.ic q.ids _ (hq.2.1.gro (GG.drew.trans hw)) 12) (by rw [hids])).mono fun e w' ⟨he, hg⟩ => ⟨_, he, hg, rfl⟩)
      case o3x1 => exact fun _ _ _ _ => opE_value (v := .pointer (some ⟨g1, 51, none⟩)) rfl (run_fld 42 _ 5 rfl g1 0 rfl 51 (by kernel_rfl))
      case o4x1 => exact fun _ _ hw _ => opE_value (v := .slice q.mo q.its.length q.mc) rfl (ldOqm _ rfl g1 rfl (hw.has kg1))
      intro ptrs w6 GD hxE
      simp only [List.drop_succ_cons, List.drop_zero]
      replace kgb := GD.has kgb
      replace kg1 := GD.has kg1
      replace HM := HM.gro ((Gro.refl _).drew.trans GD)
      replace HB := HB.gro ((Gro.refl _).drew.trans GD)
      replace GG := GG.drew.trans GD
      clear GD
      refine s_callv 37 rfl rfl _ 18 Try.call18 rfl rfl _ rfl [.slice q.mo q.its.length q.mc, .int .i64 12] rfl (Calls.valV (cutM_any q.mo q.mc q.its _ (hq.2.2.1.gro GG) 12) (by rw [hits])) ?_
      intro w7 G
      replace kgb := G.has kgb
      replace kg1 := G.has kg1
      replace HM := HM.gro G
      replace HB := HB.gro G
      replace GG := GG.trans G
      clear G
      refine nr ?_; intro U h; simp only [z0, z1] at h; subst h
      refine s_val 7 rfl rfl (.slice q.io ids.length ids.length) (rfl) ?_
      refine nr ?_; intro U h; simp only [z0, z1] at h; subst h
      refine s_val 8 rfl rfl (.slice q.mo its.length its.length) (rfl) ?_
      refine nr ?_; intro U h; simp only [z0, z1] at h; subst h
      refine wpList_nil ?_
      refine then_n ?_
      refine wp_seq ?_
      refine wp_region_lit ?_
      refine s_val 38 rfl rfl (.pointer (some ⟨g1, 0, none⟩)) (run_fld 42 _ 0 rfl g1 0 rfl 0 (by kernel_rfl)) ?_
      refine nr ?_; intro U h; simp only [z0, z1] at h; subst h
      refine s_val 39 rfl rfl (.int .i64 q.kind) (ldOqk _ rfl g1 rfl (kg1)) ?_
      refine nr ?_; intro U h; simp only [z0, z1] at h; subst h
      refine wpList_nil ?_
      refine then_n ?_
      refine wp_block ?_
      refine wp_seq ?_
      rcases (by omega : q.kind = 0 ∨ q.kind = 1 ∨ (q.kind ≠ 0 ∧ q.kind ≠ 1)) with hkk | hkk | hkk
      · skip
        have k0 : decide (q.kind = 0) = true := decide_eq_true (by omega)
        refine wp_region_lit ?_
        refine s_val 119 rfl rfl (.bool true) (run_eq_k 3 .i64 _ _ _ rfl Try.underlying3 q.kind 0 rfl rfl true k0 _) ?_
        refine nr ?_; intro U h; simp only [z0, z1] at h; subst h
        refine s_val 118 rfl rfl (.bool true) (rfl) ?_
        refine nr ?_; intro U h; simp only [z0, z1] at h; subst h
        refine wpList_nil ?_
        refine then_n ?_
        refine wp_cond_true rfl ?_
        refine wp_seq ?_
        refine wp_region_lit ?_
        refine s_val 120 rfl rfl (.pointer (some ⟨gb, 0, none⟩)) (rfl) ?_
        refine nr ?_; intro U h; simp only [z0, z1] at h; subst h
        refine s_val 121 rfl rfl (.pointer (some ⟨g1, 1, none⟩)) (run_fld 42 _ 1 rfl g1 0 rfl 1 (by kernel_rfl)) ?_
        refine nr ?_; intro U h; simp only [z0, z1] at h; subst h
        refine s_val 122 rfl rfl (.agg (idA q.a)) (ldOqa _ rfl g1 rfl (kg1)) ?_
        refine nr ?_; intro U h; simp only [z0, z1] at h; subst h
        refine s_val 123 rfl rfl (.pointer (some ⟨g1, 17, none⟩)) (run_fld 42 _ 2 rfl g1 0 rfl 17 (by kernel_rfl)) ?_
        refine nr ?_; intro U h; simp only [z0, z1] at h; subst h
        refine s_val 124 rfl rfl (.agg (idA q.b)) (ldOqb _ rfl g1 rfl (kg1)) ?_
        refine nr ?_; intro U h; simp only [z0, z1] at h; subst h
        refine s_val 125 rfl rfl (.pointer (some ⟨g1, 33, none⟩)) (run_fld 42 _ 3 rfl g1 0 rfl 33 (by kernel_rfl)) ?_
        refine nr ?_; intro U h; simp only [z0, z1] at h; subst h
        refine s_val 126 rfl rfl (.agg (veA q.ver)) (ldOqv _ rfl g1 rfl (kg1)) ?_
        refine nr ?_; intro U h; simp only [z0, z1] at h; subst h
        refine s_callx 127 rfl rfl _ 19 Try.call19 rfl rfl _ rfl [.pointer (some ⟨gb, 0, none⟩), .agg (idA q.a), .agg (idA q.b), .agg (veA q.ver)] rfl (mark_any gb mb q.a q.b q.ver Lc _ hq.1.a hq.1.b hq.1.ver kgb HM) (by rintro _ _ ⟨he, _, _⟩; exact ⟨_, he⟩) ?_
        rintro v w8 ⟨he, G, HM2⟩
        cases he
        have HMo := HM
        replace kgb := G.has kgb (fun hm => HM.nec kgb (List.mem_singleton.1 hm))
        replace kg1 := G.has kg1 (fun hm => HM.nec kg1 (List.mem_singleton.1 hm))
        replace HB := HB.map HM G
        replace GG := G.gro GG (fun k hk => by rw [List.mem_singleton.1 hk]; exact bmb)
        clear HM
        have HM := HM2
        clear HM2 G
        have hC2 := hC.mark HMo.kn q.a q.b hq.1.ver
        clear HMo
        refine nr ?_; intro U h; simp only [z0, z1] at h; subst h
        refine wpList_nil ?_
        refine then_n ?_
        refine wp_region_lit ?_
        refine s_val 128 rfl rfl (.pointer (some ⟨gr, 0, none⟩)) (rfl) ?_
        refine nr ?_; intro U h; simp only [z0, z1] at h; subst h
        refine s_val 129 rfl rfl (.pointer (some ⟨g1, 1, none⟩)) (run_fld 42 _ 1 rfl g1 0 rfl 1 (by kernel_rfl)) ?_
        refine nr ?_; intro U h; simp only [z0, z1] at h; subst h
        refine s_val 130 rfl rfl (.agg (idA q.a)) (ldOqa _ rfl g1 rfl (kg1)) ?_
        refine nr ?_; intro U h; simp only [z0, z1] at h; subst h
        refine s_val 131 rfl rfl (.pointer (some ⟨g1, 17, none⟩)) (run_fld 42 _ 2 rfl g1 0 rfl 17 (by kernel_rfl)) ?_
        refine nr ?_; intro U h; simp only [z0, z1] at h; subst h
        refine s_val 132 rfl rfl (.agg (idA q.b)) (ldOqb _ rfl g1 rfl (kg1)) ?_
        refine nr ?_; intro U h; simp only [z0, z1] at h; subst h
        refine s_val 133 rfl rfl (.pointer (some ⟨g1, 33, none⟩)) (run_fld 42 _ 3 rfl g1 0 rfl 33 (by kernel_rfl)) ?_
        refine nr ?_; intro U h; simp only [z0, z1] at h; subst h
        refine s_val 134 rfl rfl (.agg (veA q.ver)) (ldOqv _ rfl g1 rfl (kg1)) ?_
        refine nr ?_; intro U h; simp only [z0, z1] at h; subst h
        refine s_callx 135 rfl rfl _ 20 Try.call20 rfl rfl _ rfl [.pointer (some ⟨gr, 0, none⟩), .agg (idA q.a), .agg (idA q.b), .agg (veA q.ver)] rfl (rmark_any gr w.heap.size q.a q.b q.ver Nl _ hq.1.a hq.1.b hq.1.ver GG.size (by omega) HB) (by rintro _ _ ⟨he, _, _⟩; exact ⟨_, he⟩) ?_
        rintro v w9 ⟨he, G, HB2⟩
        cases he
        replace kgb := G.has kgb (HB.nin kgb (by decide))
        replace kg1 := G.has kg1 (HB.nin kg1 (by decide))
        replace HM := HM.gros G (HB.nm HM)
        replace GG := G.gro GG (fun k hk => by rw [List.mem_singleton.1 hk]; exact bgr)
        clear HB
        have HB := HB2
        clear HB2 G
        refine nr ?_; intro U h; simp only [z0, z1] at h; subst h
        refine wpList_nil ?_
        refine blk_n ?_
        refine blk_n ?_
        refine then_n ?_
        refine wp_region_lit ?_
        refine s_val 144 rfl rfl (.int .i64 ((i + 1 : Nat) : Int)) (run_addI 3 _ _ _ rfl ((i : Nat) : Int) 1 ((i + 1 : Nat) : Int) rfl rfl (by omega) (by omega) (by omega) _) ?_
        refine nr ?_; intro U h; simp only [z0, z1] at h; subst h
        refine s_val 25 rfl rfl (.int .i64 ((i + 1 : Nat) : Int)) (rfl) ?_
        refine nr ?_; intro U h; simp only [z0, z1] at h; subst h
        refine wpList_nil ?_
        refine then_n ?_
        exact ⟨_, by omega, i + 1, _, _, (fun kz => ([us1 0, .int .i64 ((i : Nat) : Int), .pointer (some ⟨g1, 0, none⟩), .slice q.io ids.length ids.length, .slice q.mo its.length its.length, us1 5, us1 6, us1 7, us1 8, us1 9, .bool true, .int .i64 ((i : Nat) : Int), .pointer (pK koq ao i 0), .agg (oqA q), .int .i64 ((i : Nat) : Int), .bool false, .pointer (some ⟨g1, 50, none⟩), .slice q.io q.ids.length q.ic, .slice q.io ids.length ids.length, .pointer (some ⟨g1, 51, none⟩), .slice q.mo q.its.length q.mc, .slice q.mo its.length its.length, .pointer (some ⟨g1, 0, none⟩), .int .i64 q.kind, us1 24, us1 25, us1 26, us1 27, us1 28, us1 29, us1 30, us1 31, us1 32, us1 33, us1 34, us1 35, us1 36, us1 37, us1 38, us1 39, us1 40, us1 41, us1 42, us1 43, us1 44, us1 45, us1 46, us1 47, us1 48, us1 49, us1 50, us1 51, us1 52, us1 53, us1 54, us1 55, us1 56, us1 57, us1 58, us1 59, us1 60, us1 61, us1 62, us1 63, us1 64, us1 65, us1 66, us1 67, us1 68, us1 69, us1 70, us1 71, us1 72, us1 73, us1 74, us1 75, us1 76, us1 77, us1 78, us1 79, us1 80, us1 81, us1 82, us1 83, us1 84, us1 85, us1 86, us1 87, us1 88, us1 89, us1 90, us1 91, us1 92, us1 93, us1 94, us1 95, us1 96, us1 97, us1 98, us1 99, us1 100, us1 101, .bool true, .bool true, .pointer (some ⟨gb, 0, none⟩), .pointer (some ⟨g1, 1, none⟩), .agg (idA q.a), .pointer (some ⟨g1, 17, none⟩), .agg (idA q.b), .pointer (some ⟨g1, 33, none⟩), .agg (veA q.ver), .tuple #[], .pointer (some ⟨gr, 0, none⟩), .pointer (some ⟨g1, 1, none⟩), .agg (idA q.a), .pointer (some ⟨g1, 17, none⟩), .agg (idA q.b), .pointer (some ⟨g1, 33, none⟩), .agg (veA q.ver), .tuple #[], us1 120, us1 121, us1 122, us1 123, us1 124, us1 125, us1 126, us1 127, .int .i64 ((i + 1 : Nat) : Int)] : List Value).getD kz undef), rfl, rfl, GG, kgb, HM, HB, hC2, ⟨by omega, by omega, by have := markN_len Nl ⟨q.a, q.b, q.ver⟩; omega⟩⟩
      · skip
        have k0 : decide (q.kind = 0) = false := decide_eq_false (by omega)
        have k1 : decide (q.kind = 1) = true := decide_eq_true (by omega)
        refine wp_region_lit ?_
        refine s_val 119 rfl rfl (.bool false) (run_eq_k 3 .i64 _ _ _ rfl Try.underlying3 q.kind 0 rfl rfl false k0 _) ?_
        refine nr ?_; intro U h; simp only [z0, z1] at h; subst h
        refine s_val 118 rfl rfl (.bool false) (rfl) ?_
        refine nr ?_; intro U h; simp only [z0, z1] at h; subst h
        refine wpList_nil ?_
        refine then_n ?_
        refine wp_cond_false rfl ?_
        refine wp_seq ?_
        refine wp_region_lit ?_
        refine s_val 137 rfl rfl (.bool true) (run_eq_k 3 .i64 _ _ _ rfl Try.underlying3 q.kind 1 rfl rfl true k1 _) ?_
        refine nr ?_; intro U h; simp only [z0, z1] at h; subst h
        refine s_val 136 rfl rfl (.bool true) (rfl) ?_
        refine nr ?_; intro U h; simp only [z0, z1] at h; subst h
        refine wpList_nil ?_
        refine then_n ?_
        refine wp_cond_true rfl ?_
        refine wp_seq ?_
        refine wp_region_lit ?_
        refine s_val 138 rfl rfl (.pointer (some ⟨gb, 0, none⟩)) (rfl) ?_
        refine nr ?_; intro U h; simp only [z0, z1] at h; subst h
        refine s_val 139 rfl rfl (.slice q.io ids.length ids.length) (rfl) ?_
        refine nr ?_; intro U h; simp only [z0, z1] at h; subst h
        refine s_callx 140 rfl rfl _ 21 Try.call21 rfl rfl _ rfl [.pointer (some ⟨gb, 0, none⟩), .slice q.io ids.length ids.length] rfl (retain_any gb mb q.io ids.length ids Lc _ kgb HM (HIs.gro GG) (by omega)) (by rintro _ _ ⟨he, _, _, _, _, _⟩; exact ⟨_, he⟩) ?_
        rintro v w8 ⟨he, G, L2, HM2, hL2, hs2⟩
        cases he
        have HMo := HM
        replace kgb := G.has kgb (fun hm => HM.nec kgb (List.mem_singleton.1 hm))
        replace kg1 := G.has kg1 (fun hm => HM.nec kg1 (List.mem_singleton.1 hm))
        replace HB := HB.map HM G
        replace GG := G.gro GG (fun k hk => by rw [List.mem_singleton.1 hk]; exact bmb)
        clear HM
        have HM := HM2
        clear HM2 G
        have hC2 := hC.retain hL2 hs2
        clear HMo
        refine nr ?_; intro U h; simp only [z0, z1] at h; subst h
        refine wpList_nil ?_
        refine then_n ?_
        refine wp_region_lit ?_
        refine s_val 141 rfl rfl (.pointer (some ⟨gr, 0, none⟩)) (rfl) ?_
        refine nr ?_; intro U h; simp only [z0, z1] at h; subst h
        refine s_val 142 rfl rfl (.slice q.io ids.length ids.length) (rfl) ?_
        refine nr ?_; intro U h; simp only [z0, z1] at h; subst h
        refine s_callx 143 rfl rfl _ 22 Try.call22 rfl rfl _ rfl [.pointer (some ⟨gr, 0, none⟩), .slice q.io ids.length ids.length] rfl (rretain_any gr w.heap.size q.io ids.length ids Nl _ GG.size (by omega) HB (HIs.gro GG) (by omega)) (by rintro _ _ ⟨he, _, _⟩; exact ⟨_, he⟩) ?_
        rintro v w9 ⟨he, G, HB2⟩
        cases he
        replace kgb := G.has kgb (HB.nin kgb (by decide))
        replace kg1 := G.has kg1 (HB.nin kg1 (by decide))
        replace HM := HM.gros G (HB.nm HM)
        replace GG := G.gro GG (fun k hk => by rw [List.mem_singleton.1 hk]; exact bgr)
        clear HB
        have HB := HB2
        clear HB2 G
        refine nr ?_; intro U h; simp only [z0, z1] at h; subst h
        refine wpList_nil ?_
        refine blk_n ?_
        refine blk_n ?_
        refine then_n ?_
        refine wp_region_lit ?_
        refine s_val 144 rfl rfl (.int .i64 ((i + 1 : Nat) : Int)) (run_addI 3 _ _ _ rfl ((i : Nat) : Int) 1 ((i + 1 : Nat) : Int) rfl rfl (by omega) (by omega) (by omega) _) ?_
        refine nr ?_; intro U h; simp only [z0, z1] at h; subst h
        refine s_val 25 rfl rfl (.int .i64 ((i + 1 : Nat) : Int)) (rfl) ?_
        refine nr ?_; intro U h; simp only [z0, z1] at h; subst h
        refine wpList_nil ?_
        refine then_n ?_
        exact ⟨_, by omega, i + 1, _, _, (fun kz => ([us1 0, .int .i64 ((i : Nat) : Int), .pointer (some ⟨g1, 0, none⟩), .slice q.io ids.length ids.length, .slice q.mo its.length its.length, us1 5, us1 6, us1 7, us1 8, us1 9, .bool true, .int .i64 ((i : Nat) : Int), .pointer (pK koq ao i 0), .agg (oqA q), .int .i64 ((i : Nat) : Int), .bool false, .pointer (some ⟨g1, 50, none⟩), .slice q.io q.ids.length q.ic, .slice q.io ids.length ids.length, .pointer (some ⟨g1, 51, none⟩), .slice q.mo q.its.length q.mc, .slice q.mo its.length its.length, .pointer (some ⟨g1, 0, none⟩), .int .i64 q.kind, us1 24, us1 25, us1 26, us1 27, us1 28, us1 29, us1 30, us1 31, us1 32, us1 33, us1 34, us1 35, us1 36, us1 37, us1 38, us1 39, us1 40, us1 41, us1 42, us1 43, us1 44, us1 45, us1 46, us1 47, us1 48, us1 49, us1 50, us1 51, us1 52, us1 53, us1 54, us1 55, us1 56, us1 57, us1 58, us1 59, us1 60, us1 61, us1 62, us1 63, us1 64, us1 65, us1 66, us1 67, us1 68, us1 69, us1 70, us1 71, us1 72, us1 73, us1 74, us1 75, us1 76, us1 77, us1 78, us1 79, us1 80, us1 81, us1 82, us1 83, us1 84, us1 85, us1 86, us1 87, us1 88, us1 89, us1 90, us1 91, us1 92, us1 93, us1 94, us1 95, us1 96, us1 97, us1 98, us1 99, us1 100, us1 101, .bool false, .bool false, us1 104, us1 105, us1 106, us1 107, us1 108, us1 109, us1 110, us1 111, us1 112, us1 113, us1 114, us1 115, us1 116, us1 117, us1 118, us1 119, .bool true, .bool true, .pointer (some ⟨gb, 0, none⟩), .slice q.io ids.length ids.length, .tuple #[], .pointer (some ⟨gr, 0, none⟩), .slice q.io ids.length ids.length, .tuple #[], .int .i64 ((i + 1 : Nat) : Int)] : List Value).getD kz undef), rfl, rfl, GG, kgb, HM, HB, hC2, ⟨by omega, by omega, by have := retN_len Nl ids; omega⟩⟩
      · skip
        have k0 : decide (q.kind = 0) = false := decide_eq_false (by omega)
        have k1 : decide (q.kind = 1) = false := decide_eq_false (by omega)
        refine wp_region_lit ?_
        refine s_val 119 rfl rfl (.bool false) (run_eq_k 3 .i64 _ _ _ rfl Try.underlying3 q.kind 0 rfl rfl false k0 _) ?_
        refine nr ?_; intro U h; simp only [z0, z1] at h; subst h
        refine s_val 118 rfl rfl (.bool false) (rfl) ?_
        refine nr ?_; intro U h; simp only [z0, z1] at h; subst h
        refine wpList_nil ?_
        refine then_n ?_
        refine wp_cond_false rfl ?_
        refine wp_seq ?_
        refine wp_region_lit ?_
        refine s_val 137 rfl rfl (.bool false) (run_eq_k 3 .i64 _ _ _ rfl Try.underlying3 q.kind 1 rfl rfl false k1 _) ?_
        refine nr ?_; intro U h; simp only [z0, z1] at h; subst h
        refine s_val 136 rfl rfl (.bool false) (rfl) ?_
        refine nr ?_; intro U h; simp only [z0, z1] at h; subst h
        refine wpList_nil ?_
        refine then_n ?_
        refine wp_cond_false rfl ?_
        refine wp_seq ?_
        refine wp_region_lit ?_
        refine s_val 40 rfl rfl (.pointer (some ⟨gb, 0, none⟩)) (rfl) ?_
        refine nr ?_; intro U h; simp only [z0, z1] at h; subst h
        refine s_val 41 rfl rfl (.pointer (some ⟨g1, 1, none⟩)) (run_fld 42 _ 1 rfl g1 0 rfl 1 (by kernel_rfl)) ?_
        refine nr ?_; intro U h; simp only [z0, z1] at h; subst h
        refine s_val 42 rfl rfl (.agg (idA q.a)) (ldOqa _ rfl g1 rfl (kg1)) ?_
        refine nr ?_; intro U h; simp only [z0, z1] at h; subst h
        refine s_val 43 rfl rfl (.slice q.io ids.length ids.length) (rfl) ?_
        refine nr ?_; intro U h; simp only [z0, z1] at h; subst h
        refine s_val 44 rfl rfl (.slice q.mo its.length its.length) (rfl) ?_
        refine nr ?_; intro U h; simp only [z0, z1] at h; subst h
        obtain ⟨B1, hB1⟩ : ∃ B1, w7.heap.size = B1 := ⟨_, rfl⟩
        have hwB : w.heap.size ≤ B1 := hB1 ▸ GG.size
        refine s_callx 45 rfl rfl _ 23 Try.call23 rfl rfl _ rfl [.pointer (some ⟨gb, 0, none⟩), .agg (idA q.a), .slice q.io ids.length ids.length, .slice q.mo its.length its.length] rfl (due_any gb mb q.a q.io q.mo ids.length its.length ids its Lc _ hq.1.a hC.ok kgb HM (HIs.gro GG) (by omega) (HMs.gro GG) (by omega) (NIs.gro GG) hbs) (by rintro _ _ ⟨_, _, _, he, _, _, _, _⟩; exact ⟨_, he⟩) ?_
        rintro v w8 ⟨ro, rc, Z, he, G, HZ, HO, hE⟩
        cases he
        rw [hB1] at HZ HO
        replace kgb := G.has kgb
        replace kg1 := G.has kg1
        replace HM := HM.gro G
        replace HB := HB.gro G
        replace GG := GG.trans G
        clear G
        have hzm := HZ.lens
        have hvm := HO.lens
        refine nr ?_; intro U h; simp only [z0, z1] at h; subst h
        refine s_val 9 rfl rfl (.slice ro Z.length rc) (rfl) ?_
        refine nr ?_; intro U h; simp only [z0, z1] at h; subst h
        refine wpList_nil ?_
        refine then_n ?_
        refine wp_seq ?_
        refine wp_region_lit ?_
        refine s_val 46 rfl rfl (.pointer (some ⟨gr, 0, none⟩)) (rfl) ?_
        refine nr ?_; intro U h; simp only [z0, z1] at h; subst h
        refine s_val 47 rfl rfl (.pointer (some ⟨g1, 1, none⟩)) (run_fld 42 _ 1 rfl g1 0 rfl 1 (by kernel_rfl)) ?_
        refine nr ?_; intro U h; simp only [z0, z1] at h; subst h
        refine s_val 48 rfl rfl (.agg (idA q.a)) (ldOqa _ rfl g1 rfl (kg1)) ?_
        refine nr ?_; intro U h; simp only [z0, z1] at h; subst h
        refine s_val 49 rfl rfl (.slice q.io ids.length ids.length) (rfl) ?_
        refine nr ?_; intro U h; simp only [z0, z1] at h; subst h
        refine s_val 50 rfl rfl (.slice q.mo its.length its.length) (rfl) ?_
        refine nr ?_; intro U h; simp only [z0, z1] at h; subst h
        refine s_callx 51 rfl rfl _ 24 Try.call24 rfl rfl _ rfl [.pointer (some ⟨gr, 0, none⟩), .agg (idA q.a), .slice q.io ids.length ids.length, .slice q.mo its.length its.length] rfl (rdue_any gr w.heap.size q.a q.io q.mo ids.length its.length ids its Nl _ hq.1.a (by omega) HB (HIs.gro GG) (by omega) (HMs.gro GG) (by omega) (NIs.gro GG)) (by rintro _ _ ⟨_, _, _, he, _, _, _, _⟩; exact ⟨_, he⟩) ?_
        rintro v w9 ⟨ro2, rc2, Z2, he, G, HZ2, hZI, hE2⟩
        cases he
        replace kgb := G.has kgb
        replace kg1 := G.has kg1
        replace HM := HM.gro G
        replace HB := HB.gro G
        replace HZ := HZ.gro G
        replace HO := HO.gro G
        replace GG := GG.trans G
        clear G
        have hab : Z.map DM.ab = Z2.map DM.ab := by rw [hE, hE2, hC.fun]
        have hzl : Z.length = Z2.length := by have := congrArg List.length hab; rwa [List.length_map, List.length_map] at this
        have kl : decide (((Z.length : Nat) : Int) = ((Z2.length : Nat) : Int)) = true := decide_eq_true (by rw [hzl])
        clear hE hE2
        refine nr ?_; intro U h; simp only [z0, z1] at h; subst h
        refine s_val 10 rfl rfl (.slice ro2 Z2.length rc2) (rfl) ?_
        refine nr ?_; intro U h; simp only [z0, z1] at h; subst h
        refine wpList_nil ?_
        refine then_n ?_
        refine wp_seq ?_
        refine wp_seq ?_
        refine wp_region_lit ?_
        refine s_val 52 rfl rfl (.slice ro Z.length rc) (rfl) ?_
        refine nr ?_; intro U h; simp only [z0, z1] at h; subst h
        refine s_val 53 rfl rfl (.int .i64 ((Z.length : Nat) : Int)) (run_len Try.underlying49 _ rfl _ _ _ rfl _) ?_
        refine nr ?_; intro U h; simp only [z0, z1] at h; subst h
        refine s_val 54 rfl rfl (.slice ro2 Z2.length rc2) (rfl) ?_
        refine nr ?_; intro U h; simp only [z0, z1] at h; subst h
        refine s_val 55 rfl rfl (.int .i64 ((Z2.length : Nat) : Int)) (run_len Try.underlying51 _ rfl _ _ _ rfl _) ?_
        refine nr ?_; intro U h; simp only [z0, z1] at h; subst h
        refine s_val 56 rfl rfl (.bool false) (run_neq_k 3 .i64 _ _ _ rfl Try.underlying3 ((Z.length : Nat) : Int) ((Z2.length : Nat) : Int) rfl rfl false kl _) ?_
        refine nr ?_; intro U h; simp only [z0, z1] at h; subst h
        refine wpList_nil ?_
        refine then_n ?_
        refine wp_cond_false rfl ?_
        refine wp_skip ?_
        refine then_n ?_
        refine wp_seq ?_
        refine wp_seq ?_
        refine wp_region_lit ?_
        refine s_val 57 rfl rfl (.slice ro Z.length rc) (rfl) ?_
        refine nr ?_; intro U h; simp only [z0, z1] at h; subst h
        refine s_val 58 rfl rfl (.int .i64 ((Z.length : Nat) : Int)) (run_len Try.underlying49 _ rfl _ _ _ rfl _) ?_
        refine nr ?_; intro U h; simp only [z0, z1] at h; subst h
        refine s_val 59 rfl rfl (.int .i64 0) (rfl) ?_
        refine nr ?_; intro U h; simp only [z0, z1] at h; subst h
        refine wpList_nil ?_
        refine then_n ?_
        refine wp_block ?_
        refine wp_loopN (fun mz az wv2 => ∃ (k : Nat) (us2 : Nat → Value), mz = Z.length - k ∧ az = ⟨[.slice ao l.length cap, undef, us2 0, .pointer (some ⟨gb, 0, none⟩), .pointer (some ⟨gr, 0, none⟩), .int .i64 ((i : Nat) : Int), .pointer (some ⟨g1, 0, none⟩), .slice q.io ids.length ids.length, .slice q.mo its.length its.length, .slice ro Z.length rc, .slice ro2 Z2.length rc2, us2 1, us1 8, us1 9, .pointer (some ⟨gb, 0, none⟩), .agg (rbA none 0 0), .pointer (some ⟨gr, 0, none⟩), .pointer (some ⟨gb, 0, none⟩), .bool false, .bool false, .bool true, .bool false, .bool false, .slice ao l.length cap, .int .i64 ((l.length : Nat) : Int), .int .i64 ((i : Nat) : Int), .bool true, .int .i64 ((i : Nat) : Int), .pointer (pK koq ao i 0), .agg (oqA q), .int .i64 ((i : Nat) : Int), .bool false, .pointer (some ⟨g1, 50, none⟩), .slice q.io q.ids.length q.ic, .slice q.io ids.length ids.length, .pointer (some ⟨g1, 51, none⟩), .slice q.mo q.its.length q.mc, .slice q.mo its.length its.length, .pointer (some ⟨g1, 0, none⟩), .int .i64 q.kind, .pointer (some ⟨gb, 0, none⟩), .pointer (some ⟨g1, 1, none⟩), .agg (idA q.a), .slice q.io ids.length ids.length, .slice q.mo its.length its.length, .slice ro Z.length rc, .pointer (some ⟨gr, 0, none⟩), .pointer (some ⟨g1, 1, none⟩), .agg (idA q.a), .slice q.io ids.length ids.length, .slice q.mo its.length its.length, .slice ro2 Z2.length rc2, .slice ro Z.length rc, .int .i64 ((Z.length : Nat) : Int), .slice ro2 Z2.length rc2, .int .i64 ((Z2.length : Nat) : Int), .bool false, .slice ro Z.length rc, .int .i64 ((Z.length : Nat) : Int), .int .i64 ((k : Nat) : Int), us2 2, us2 3, us2 4, us2 5, us2 6, us2 7, us2 8, us2 9, us2 10, us2 11, us2 12, us2 13, us2 14, us2 15, us2 16, us2 17, us2 18, us2 19, us2 20, us2 21, us2 22, us2 23, us2 24, us2 25, us2 26, us2 27, us2 28, us2 29, us2 30, us2 31, us1 74, us1 75, us1 76, us1 77, us1 78, us1 79, us1 80, us1 81, us1 82, us1 83, us1 84, us1 85, us1 86, us1 87, us1 88, us1 89, us1 90, us1 91, us1 92, us1 93, us1 94, us1 95, us1 96, us1 97, us1 98, us1 99, us1 100, us1 101, .bool false, .bool false, us1 104, us1 105, us1 106, us1 107, us1 108, us1 109, us1 110, us1 111, us1 112, us1 113, us1 114, us1 115, us1 116, us1 117, us1 118, us1 119, .bool false, .bool false, us1 122, us1 123, us1 124, us1 125, us1 126, us1 127, us1 128].toArray, []⟩ ∧ Gro w wv2 ∧ wv2.heap[gb]? = some (.cells (bkA mb) 75 (0, 0)) ∧ TB wv2 mb Lc ∧ RBk wv2 w.heap.size gr Nl ∧ OW kdu 54 wv2 B1 ro rc Z ∧ OBd wv2 B1 Z ∧ RK kdu wv2 ro2 rc2 Z2 ∧ k ≤ Z.length) ?_ _ ⟨0, (fun kz => ([us1 0, us1 7, us1 44, us1 45, us1 46, us1 47, us1 48, us1 49, us1 50, us1 51, us1 52, us1 53, us1 54, us1 55, us1 56, us1 57, us1 58, us1 59, us1 60, us1 61, us1 62, us1 63, us1 64, us1 65, us1 66, us1 67, us1 68, us1 69, us1 70, us1 71, us1 72, us1 73] : List Value).getD kz undef), rfl, rfl, GG, kgb, HM, HB, HZ, HO, HZ2, Nat.zero_le _⟩
        clear GG kgb HM HB HZ HO HZ2
        rintro mz az wv2 ⟨k, us2, rfl, rfl, GG, kgb, HM, HB, HZ, HO, HZ2, hk⟩
        refine wp_seq ?_
        cases t3 : decide (((k : Nat) : Int) < ((Z.length : Nat) : Int))
        · refine wp_region_lit ?_
          refine s_val 60 rfl rfl (.bool false) (run_lssT 3 _ _ _ rfl ((k : Nat) : Int) ((Z.length : Nat) : Int) rfl rfl false t3 _) ?_
          refine nr ?_; intro U h; simp only [z0, z1] at h; subst h
          refine wpList_nil ?_
          refine then_n ?_
          refine wp_seq ?_
          refine wp_cond_false rfl ?_
          refine wp_exit ?_
          refine then_x ?_
          refine then_x ?_
          refine blk_x ?_
          refine then_n ?_
          refine wp_seq ?_
          refine wp_region_lit ?_
          refine s_val 90 rfl rfl (.slice ro Z.length rc) (rfl) ?_
          refine nr ?_; intro U h; simp only [z0, z1] at h; subst h
          refine s_val 91 rfl rfl (.int .i64 ((Z.length : Nat) : Int)) (run_len Try.underlying49 _ rfl _ _ _ rfl _) ?_
          refine nr ?_; intro U h; simp only [z0, z1] at h; subst h
          refine s_val 92 rfl rfl (.int .i64 0) (rfl) ?_
          refine nr ?_; intro U h; simp only [z0, z1] at h; subst h
          refine wpList_nil ?_
          refine then_n ?_
          refine wp_block ?_
          have HW := WBd.of HO
          refine wp_loopN (fun mz az wv3 => ∃ (e : Nat) (us3 : Nat → Value), mz = Z.length - e ∧ az = ⟨[.slice ao l.length cap, undef, us2 0, .pointer (some ⟨gb, 0, none⟩), .pointer (some ⟨gr, 0, none⟩), .int .i64 ((i : Nat) : Int), .pointer (some ⟨g1, 0, none⟩), .slice q.io ids.length ids.length, .slice q.mo its.length its.length, .slice ro Z.length rc, .slice ro2 Z2.length rc2, us2 1, us3 0, us3 1, .pointer (some ⟨gb, 0, none⟩), .agg (rbA none 0 0), .pointer (some ⟨gr, 0, none⟩), .pointer (some ⟨gb, 0, none⟩), .bool false, .bool false, .bool true, .bool false, .bool false, .slice ao l.length cap, .int .i64 ((l.length : Nat) : Int), .int .i64 ((i : Nat) : Int), .bool true, .int .i64 ((i : Nat) : Int), .pointer (pK koq ao i 0), .agg (oqA q), .int .i64 ((i : Nat) : Int), .bool false, .pointer (some ⟨g1, 50, none⟩), .slice q.io q.ids.length q.ic, .slice q.io ids.length ids.length, .pointer (some ⟨g1, 51, none⟩), .slice q.mo q.its.length q.mc, .slice q.mo its.length its.length, .pointer (some ⟨g1, 0, none⟩), .int .i64 q.kind, .pointer (some ⟨gb, 0, none⟩), .pointer (some ⟨g1, 1, none⟩), .agg (idA q.a), .slice q.io ids.length ids.length, .slice q.mo its.length its.length, .slice ro Z.length rc, .pointer (some ⟨gr, 0, none⟩), .pointer (some ⟨g1, 1, none⟩), .agg (idA q.a), .slice q.io ids.length ids.length, .slice q.mo its.length its.length, .slice ro2 Z2.length rc2, .slice ro Z.length rc, .int .i64 ((Z.length : Nat) : Int), .slice ro2 Z2.length rc2, .int .i64 ((Z2.length : Nat) : Int), .bool false, .slice ro Z.length rc, .int .i64 ((Z.length : Nat) : Int), .int .i64 ((k : Nat) : Int), .bool false, us2 3, us2 4, us2 5, us2 6, us2 7, us2 8, us2 9, us2 10, us2 11, us2 12, us2 13, us2 14, us2 15, us2 16, us2 17, us2 18, us2 19, us2 20, us2 21, us2 22, us2 23, us2 24, us2 25, us2 26, us2 27, us2 28, us2 29, us2 30, us2 31, .slice ro Z.length rc, .int .i64 ((Z.length : Nat) : Int), .int .i64 ((e : Nat) : Int), us3 2, us3 3, us3 4, us3 5, us3 6, us3 7, us3 8, us3 9, us3 10, us3 11, us3 12, us3 13, us3 14, us3 15, us3 16, us3 17, us3 18, us3 19, us3 20, us3 21, us3 22, us3 23, us3 24, us3 25, us3 26, .bool false, .bool false, us1 104, us1 105, us1 106, us1 107, us1 108, us1 109, us1 110, us1 111, us1 112, us1 113, us1 114, us1 115, us1 116, us1 117, us1 118, us1 119, .bool false, .bool false, us1 122, us1 123, us1 124, us1 125, us1 126, us1 127, us1 128].toArray, []⟩ ∧ Gro w wv3 ∧ wv3.heap[gb]? = some (.cells (bkA mb) 75 (0, 0)) ∧ TB wv3 mb Lc ∧ RBk wv3 w.heap.size gr Nl ∧ OW kdu 54 wv3 B1 ro rc Z ∧ WBd wv3 B1 Z ∧ e ≤ Z.length) ?_ _ ⟨0, (fun kz => ([us1 8, us1 9, us1 77, us1 78, us1 79, us1 80, us1 81, us1 82, us1 83, us1 84, us1 85, us1 86, us1 87, us1 88, us1 89, us1 90, us1 91, us1 92, us1 93, us1 94, us1 95, us1 96, us1 97, us1 98, us1 99, us1 100, us1 101] : List Value).getD kz undef), rfl, rfl, GG, kgb, HM, HB, HZ, HW, Nat.zero_le _⟩
          clear GG kgb HM HB HZ HO HZ2 hk t3
          rintro mz az wv3 ⟨e, us3, rfl, rfl, GG, kgb, HM, HB, HZ, HW, hk⟩
          refine wp_seq ?_
          cases t4 : decide (((e : Nat) : Int) < ((Z.length : Nat) : Int))
          · refine wp_region_lit ?_
            refine s_val 93 rfl rfl (.bool false) (run_lssT 3 _ _ _ rfl ((e : Nat) : Int) ((Z.length : Nat) : Int) rfl rfl false t4 _) ?_
            refine nr ?_; intro U h; simp only [z0, z1] at h; subst h
            refine wpList_nil ?_
            refine then_n ?_
            refine wp_seq ?_
            refine wp_cond_false rfl ?_
            refine wp_exit ?_
            refine then_x ?_
            refine then_x ?_
            refine blk_x ?_
            refine blk_n ?_
            refine blk_n ?_
            refine then_n ?_
            refine wp_region_lit ?_
            refine s_val 144 rfl rfl (.int .i64 ((i + 1 : Nat) : Int)) (run_addI 3 _ _ _ rfl ((i : Nat) : Int) 1 ((i + 1 : Nat) : Int) rfl rfl (by omega) (by omega) (by omega) _) ?_
            refine nr ?_; intro U h; simp only [z0, z1] at h; subst h
            refine s_val 25 rfl rfl (.int .i64 ((i + 1 : Nat) : Int)) (rfl) ?_
            refine nr ?_; intro U h; simp only [z0, z1] at h; subst h
            refine wpList_nil ?_
            refine then_n ?_
            exact ⟨_, by omega, i + 1, Lc, Nl, (fun kz => ([us2 0, .int .i64 ((i : Nat) : Int), .pointer (some ⟨g1, 0, none⟩), .slice q.io ids.length ids.length, .slice q.mo its.length its.length, .slice ro Z.length rc, .slice ro2 Z2.length rc2, us2 1, us3 0, us3 1, .bool true, .int .i64 ((i : Nat) : Int), .pointer (pK koq ao i 0), .agg (oqA q), .int .i64 ((i : Nat) : Int), .bool false, .pointer (some ⟨g1, 50, none⟩), .slice q.io q.ids.length q.ic, .slice q.io ids.length ids.length, .pointer (some ⟨g1, 51, none⟩), .slice q.mo q.its.length q.mc, .slice q.mo its.length its.length, .pointer (some ⟨g1, 0, none⟩), .int .i64 q.kind, .pointer (some ⟨gb, 0, none⟩), .pointer (some ⟨g1, 1, none⟩), .agg (idA q.a), .slice q.io ids.length ids.length, .slice q.mo its.length its.length, .slice ro Z.length rc, .pointer (some ⟨gr, 0, none⟩), .pointer (some ⟨g1, 1, none⟩), .agg (idA q.a), .slice q.io ids.length ids.length, .slice q.mo its.length its.length, .slice ro2 Z2.length rc2, .slice ro Z.length rc, .int .i64 ((Z.length : Nat) : Int), .slice ro2 Z2.length rc2, .int .i64 ((Z2.length : Nat) : Int), .bool false, .slice ro Z.length rc, .int .i64 ((Z.length : Nat) : Int), .int .i64 ((k : Nat) : Int), .bool false, us2 3, us2 4, us2 5, us2 6, us2 7, us2 8, us2 9, us2 10, us2 11, us2 12, us2 13, us2 14, us2 15, us2 16, us2 17, us2 18, us2 19, us2 20, us2 21, us2 22, us2 23, us2 24, us2 25, us2 26, us2 27, us2 28, us2 29, us2 30, us2 31, .slice ro Z.length rc, .int .i64 ((Z.length : Nat) : Int), .int .i64 ((e : Nat) : Int), .bool false, us3 3, us3 4, us3 5, us3 6, us3 7, us3 8, us3 9, us3 10, us3 11, us3 12, us3 13, us3 14, us3 15, us3 16, us3 17, us3 18, us3 19, us3 20, us3 21, us3 22, us3 23, us3 24, us3 25, us3 26, .bool false, .bool false, us1 104, us1 105, us1 106, us1 107, us1 108, us1 109, us1 110, us1 111, us1 112, us1 113, us1 114, us1 115, us1 116, us1 117, us1 118, us1 119, .bool false, .bool false, us1 122, us1 123, us1 124, us1 125, us1 126, us1 127, .int .i64 ((i + 1 : Nat) : Int)] : List Value).getD kz undef), rfl, rfl, GG, kgb, HM, HB, hC, ⟨by omega, by omega, by omega⟩⟩
          · have hkt : e < Z.length := by have := of_decide_eq_true t4; omega
            refine wp_region_lit ?_
            refine s_val 93 rfl rfl (.bool true) (run_lssT 3 _ _ _ rfl ((e : Nat) : Int) ((Z.length : Nat) : Int) rfl rfl true t4 _) ?_
            refine nr ?_; intro U h; simp only [z0, z1] at h; subst h
            refine wpList_nil ?_
            refine then_n ?_
            refine wp_seq ?_
            refine wp_cond_true rfl ?_
            refine wp_skip ?_
            refine then_n ?_
            refine wp_seq ?_
            refine wp_block ?_
            refine wp_seq ?_
            refine wp_region_lit ?_
            refine s_val 94 rfl rfl (.int .i64 ((e : Nat) : Int)) (rfl) ?_
            refine nr ?_; intro U h; simp only [z0, z1] at h; subst h
            refine s_val 12 rfl rfl (.int .i64 ((e : Nat) : Int)) (rfl) ?_
            refine nr ?_; intro U h; simp only [z0, z1] at h; subst h
            refine wpList_nil ?_
            refine then_n ?_
            refine wp_seq ?_
            refine wp_region_lit ?_
            refine s_val 95 rfl rfl (.slice ro Z.length rc) (rfl) ?_
            refine nr ?_; intro U h; simp only [z0, z1] at h; subst h
            refine s_val 96 rfl rfl (.int .i64 ((e : Nat) : Int)) (rfl) ?_
            refine nr ?_; intro U h; simp only [z0, z1] at h; subst h
            refine s_val 97 rfl rfl (.pointer (pK kdu ro e 0)) (run_ixK rdu49 (HZ.re) _ _ rfl rfl e rfl hkt) ?_
            refine nr ?_; intro U h; simp only [z0, z1] at h; subst h
            refine s_val 98 rfl rfl (.pointer (pK kdu ro e 16)) (run_fdK (HZ.re) 54 _ 1 16 (fddu54_1 _) rfl e rfl hkt) ?_
            refine nr ?_; intro U h; simp only [z0, z1] at h; subst h
            refine s_val 99 rfl rfl (.pointer (pK kdu ro e 49)) (run_fdKq (HZ.re) 46 _ 2 16 33 (fdM_2 _) rfl e rfl hkt) ?_
            refine nr ?_; intro U h; simp only [z0, z1] at h; subst h
            refine s_val 100 rfl rfl (.slice (Z.getD e zD).it.ao (Z.getD e zD).it.val.length (Z.getD e zD).it.cap) (rldDur (HZ.re) _ rfl e rfl hkt) ?_
            refine nr ?_; intro U h; simp only [z0, z1] at h; subst h
            refine s_val 101 rfl rfl (.int .i64 (((Z.getD e zD).it.val.length : Nat) : Int)) (run_len Try.underlying44 _ rfl _ _ _ rfl _) ?_
            refine nr ?_; intro U h; simp only [z0, z1] at h; subst h
            refine s_val 102 rfl rfl (.int .i64 0) (rfl) ?_
            refine nr ?_; intro U h; simp only [z0, z1] at h; subst h
            refine wpList_nil ?_
            refine then_n ?_
            refine wp_block ?_
            refine wp_loopN (fun mz az wv4 => ∃ (j : Nat) (us4 : Nat → Value), mz = (Z.getD e zD).it.val.length - j ∧ az = ⟨[.slice ao l.length cap, undef, us2 0, .pointer (some ⟨gb, 0, none⟩), .pointer (some ⟨gr, 0, none⟩), .int .i64 ((i : Nat) : Int), .pointer (some ⟨g1, 0, none⟩), .slice q.io ids.length ids.length, .slice q.mo its.length its.length, .slice ro Z.length rc, .slice ro2 Z2.length rc2, us2 1, .int .i64 ((e : Nat) : Int), us4 0, .pointer (some ⟨gb, 0, none⟩), .agg (rbA none 0 0), .pointer (some ⟨gr, 0, none⟩), .pointer (some ⟨gb, 0, none⟩), .bool false, .bool false, .bool true, .bool false, .bool false, .slice ao l.length cap, .int .i64 ((l.length : Nat) : Int), .int .i64 ((i : Nat) : Int), .bool true, .int .i64 ((i : Nat) : Int), .pointer (pK koq ao i 0), .agg (oqA q), .int .i64 ((i : Nat) : Int), .bool false, .pointer (some ⟨g1, 50, none⟩), .slice q.io q.ids.length q.ic, .slice q.io ids.length ids.length, .pointer (some ⟨g1, 51, none⟩), .slice q.mo q.its.length q.mc, .slice q.mo its.length its.length, .pointer (some ⟨g1, 0, none⟩), .int .i64 q.kind, .pointer (some ⟨gb, 0, none⟩), .pointer (some ⟨g1, 1, none⟩), .agg (idA q.a), .slice q.io ids.length ids.length, .slice q.mo its.length its.length, .slice ro Z.length rc, .pointer (some ⟨gr, 0, none⟩), .pointer (some ⟨g1, 1, none⟩), .agg (idA q.a), .slice q.io ids.length ids.length, .slice q.mo its.length its.length, .slice ro2 Z2.length rc2, .slice ro Z.length rc, .int .i64 ((Z.length : Nat) : Int), .slice ro2 Z2.length rc2, .int .i64 ((Z2.length : Nat) : Int), .bool false, .slice ro Z.length rc, .int .i64 ((Z.length : Nat) : Int), .int .i64 ((k : Nat) : Int), .bool false, us2 3, us2 4, us2 5, us2 6, us2 7, us2 8, us2 9, us2 10, us2 11, us2 12, us2 13, us2 14, us2 15, us2 16, us2 17, us2 18, us2 19, us2 20, us2 21, us2 22, us2 23, us2 24, us2 25, us2 26, us2 27, us2 28, us2 29, us2 30, us2 31, .slice ro Z.length rc, .int .i64 ((Z.length : Nat) : Int), .int .i64 ((e : Nat) : Int), .bool true, .int .i64 ((e : Nat) : Int), .slice ro Z.length rc, .int .i64 ((e : Nat) : Int), .pointer (pK kdu ro e 0), .pointer (pK kdu ro e 16), .pointer (pK kdu ro e 49), .slice (Z.getD e zD).it.ao (Z.getD e zD).it.val.length (Z.getD e zD).it.cap, .int .i64 (((Z.getD e zD).it.val.length : Nat) : Int), .int .i64 ((j : Nat) : Int), us4 1, us4 2, us4 3, us4 4, us4 5, us4 6, us4 7, us4 8, us4 9, us4 10, us4 11, us4 12, us4 13, us4 14, us3 26, .bool false, .bool false, us1 104, us1 105, us1 106, us1 107, us1 108, us1 109, us1 110, us1 111, us1 112, us1 113, us1 114, us1 115, us1 116, us1 117, us1 118, us1 119, .bool false, .bool false, us1 122, us1 123, us1 124, us1 125, us1 126, us1 127, us1 128].toArray, []⟩ ∧ Gro w wv4 ∧ wv4.heap[gb]? = some (.cells (bkA mb) 75 (0, 0)) ∧ TB wv4 mb Lc ∧ RBk wv4 w.heap.size gr Nl ∧ OW kdu 54 wv4 B1 ro rc Z ∧ WBd wv4 B1 Z ∧ j ≤ (Z.getD e zD).it.val.length) ?_ _ ⟨0, (fun kz => ([us3 1, us3 12, us3 13, us3 14, us3 15, us3 16, us3 17, us3 18, us3 19, us3 20, us3 21, us3 22, us3 23, us3 24, us3 25] : List Value).getD kz undef), rfl, rfl, GG, kgb, HM, HB, HZ, HW, Nat.zero_le _⟩
            clear GG kgb HM HB HZ HW
            rintro mz az wv4 ⟨j, us4, rfl, rfl, GG, kgb, HM, HB, HZ, HW, hj⟩
            refine wp_seq ?_
            cases t5 : decide (((j : Nat) : Int) < (((Z.getD e zD).it.val.length : Nat) : Int))
            · refine wp_region_lit ?_
              refine s_val 103 rfl rfl (.bool false) (run_lssT 3 _ _ _ rfl ((j : Nat) : Int) (((Z.getD e zD).it.val.length : Nat) : Int) rfl rfl false t5 _) ?_
              refine nr ?_; intro U h; simp only [z0, z1] at h; subst h
              refine wpList_nil ?_
              refine then_n ?_
              refine wp_seq ?_
              refine wp_cond_false rfl ?_
              refine wp_exit ?_
              refine then_x ?_
              refine then_x ?_
              refine blk_x ?_
              refine blk_n ?_
              refine then_n ?_
              refine wp_region_lit ?_
              refine s_val 117 rfl rfl (.int .i64 ((e + 1 : Nat) : Int)) (run_addI 3 _ _ _ rfl ((e : Nat) : Int) 1 ((e + 1 : Nat) : Int) rfl rfl (by omega) (by omega) (by omega) _) ?_
              refine nr ?_; intro U h; simp only [z0, z1] at h; subst h
              refine s_val 92 rfl rfl (.int .i64 ((e + 1 : Nat) : Int)) (rfl) ?_
              refine nr ?_; intro U h; simp only [z0, z1] at h; subst h
              refine wpList_nil ?_
              refine then_n ?_
              exact ⟨_, by omega, e + 1, (fun kz => ([.int .i64 ((e : Nat) : Int), us4 0, .bool true, .int .i64 ((e : Nat) : Int), .slice ro Z.length rc, .int .i64 ((e : Nat) : Int), .pointer (pK kdu ro e 0), .pointer (pK kdu ro e 16), .pointer (pK kdu ro e 49), .slice (Z.getD e zD).it.ao (Z.getD e zD).it.val.length (Z.getD e zD).it.cap, .int .i64 (((Z.getD e zD).it.val.length : Nat) : Int), .int .i64 ((j : Nat) : Int), .bool false, us4 2, us4 3, us4 4, us4 5, us4 6, us4 7, us4 8, us4 9, us4 10, us4 11, us4 12, us4 13, us4 14, .int .i64 ((e + 1 : Nat) : Int)] : List Value).getD kz undef), rfl, rfl, GG, kgb, HM, HB, HZ, HW, by omega⟩
            · have hjt : j < (Z.getD e zD).it.val.length := by have := of_decide_eq_true t5; omega
              have hve := hvm _ (getD_mD hkt)
              obtain ⟨gi, cur, n, hgi, hBi, ki, hcn⟩ := HW _ (getD_mD hkt) j hjt
              have hjc : j < cur.size := (Array.getElem?_eq_some_iff.1 hcn).1
              refine wp_region_lit ?_
              refine s_val 103 rfl rfl (.bool true) (run_lssT 3 _ _ _ rfl ((j : Nat) : Int) (((Z.getD e zD).it.val.length : Nat) : Int) rfl rfl true t5 _) ?_
              refine nr ?_; intro U h; simp only [z0, z1] at h; subst h
              refine wpList_nil ?_
              refine then_n ?_
              refine wp_seq ?_
              refine wp_cond_true rfl ?_
              refine wp_skip ?_
              refine then_n ?_
              refine wp_seq ?_
              refine wp_block ?_
              refine wp_seq ?_
              refine wp_region_lit ?_
              refine s_val 104 rfl rfl (.int .i64 ((j : Nat) : Int)) (rfl) ?_
              refine nr ?_; intro U h; simp only [z0, z1] at h; subst h
              refine s_val 13 rfl rfl (.int .i64 ((j : Nat) : Int)) (rfl) ?_
              refine nr ?_; intro U h; simp only [z0, z1] at h; subst h
              refine wpList_nil ?_
              refine then_n ?_
              refine wp_region_lit ?_
              refine s_val 105 rfl rfl (.slice ro Z.length rc) (rfl) ?_
              refine nr ?_; intro U h; simp only [z0, z1] at h; subst h
              refine s_val 106 rfl rfl (.int .i64 ((e : Nat) : Int)) (rfl) ?_
              refine nr ?_; intro U h; simp only [z0, z1] at h; subst h
              refine s_val 107 rfl rfl (.pointer (pK kdu ro e 0)) (run_ixK rdu49 (HZ.re) _ _ rfl rfl e rfl hkt) ?_
              refine nr ?_; intro U h; simp only [z0, z1] at h; subst h
              refine s_val 108 rfl rfl (.pointer (pK kdu ro e 16)) (run_fdK (HZ.re) 54 _ 1 16 (fddu54_1 _) rfl e rfl hkt) ?_
              refine nr ?_; intro U h; simp only [z0, z1] at h; subst h
              refine s_val 109 rfl rfl (.pointer (pK kdu ro e 49)) (run_fdKq (HZ.re) 46 _ 2 16 33 (fdM_2 _) rfl e rfl hkt) ?_
              refine nr ?_; intro U h; simp only [z0, z1] at h; subst h
              refine s_val 110 rfl rfl (.slice (Z.getD e zD).it.ao (Z.getD e zD).it.val.length (Z.getD e zD).it.cap) (rldDur (HZ.re) _ rfl e rfl hkt) ?_
              refine nr ?_; intro U h; simp only [z0, z1] at h; subst h
              refine s_val 111 rfl rfl (.int .i64 ((j : Nat) : Int)) (rfl) ?_
              refine nr ?_; intro U h; simp only [z0, z1] at h; subst h
              refine s_val 112 rfl rfl (.pointer (some ⟨gi, j, none⟩)) (bat _ _ rfl gi (Z.getD e zD).it.val.length (Z.getD e zD).it.cap j (by exact congrArg (fun a => Value.slice a (Z.getD e zD).it.val.length (Z.getD e zD).it.cap) hgi) rfl hjt _) ?_
              refine nr ?_; intro U h; simp only [z0, z1] at h; subst h
              refine s_val 113 rfl rfl (.int .u8 ((n : Nat) : Int)) (run_ld5 _ rfl gi j rfl ki hcn) ?_
              refine nr ?_; intro U h; simp only [z0, z1] at h; subst h
              refine s_val 114 rfl rfl (.int .u8 ((inc8 n : Nat) : Int)) (run_inc8 _ _ _ rfl n rfl rfl _) ?_
              refine nr ?_; intro U h; simp only [z0, z1] at h; subst h
              refine s_val 115 rfl rfl (.pointer (some ⟨gi, j, none⟩)) (bat _ _ rfl gi (Z.getD e zD).it.val.length (Z.getD e zD).it.cap j (by exact congrArg (fun a => Value.slice a (Z.getD e zD).it.val.length (Z.getD e zD).it.cap) hgi) rfl hjt _) ?_
              refine nr ?_; intro U h; simp only [z0, z1] at h; subst h
              refine s_store rfl rfl 5 _ _ rfl gi j rfl (.int .u8 ((inc8 n : Nat) : Int)) rfl 5 _ ki #[.int .u8 ((inc8 n : Nat) : Int)] rfl si5 (by simp only [List.size_toArray, List.length_cons, List.length_nil]; omega) (one1 _) _ rfl ?_
              intro w10 St
              replace kgb := St.has (ne_type kgb ki (by decide)) kgb
              replace HM := HM.st St (HM.nec ki).symm
              replace HB := HB.sto St ki (by decide) (by decide)
              replace HZ := HZ.st St (HZ.own.ne ki (by decide))
              replace HW := HW.put ki hjc St
              replace GG := GG.store St (Nat.le_trans hwB hBi)
              clear St ki
              refine wpList_nil ?_
              refine blk_n ?_
              refine then_n ?_
              refine wp_region_lit ?_
              refine s_val 116 rfl rfl (.int .i64 ((j + 1 : Nat) : Int)) (run_addI 3 _ _ _ rfl ((j : Nat) : Int) 1 ((j + 1 : Nat) : Int) rfl rfl (by omega) (by omega) (by omega) _) ?_
              refine nr ?_; intro U h; simp only [z0, z1] at h; subst h
              refine s_val 102 rfl rfl (.int .i64 ((j + 1 : Nat) : Int)) (rfl) ?_
              refine nr ?_; intro U h; simp only [z0, z1] at h; subst h
              refine wpList_nil ?_
              refine then_n ?_
              exact ⟨_, by omega, j + 1, (fun kz => ([.int .i64 ((j : Nat) : Int), .bool true, .int .i64 ((j : Nat) : Int), .slice ro Z.length rc, .int .i64 ((e : Nat) : Int), .pointer (pK kdu ro e 0), .pointer (pK kdu ro e 16), .pointer (pK kdu ro e 49), .slice (Z.getD e zD).it.ao (Z.getD e zD).it.val.length (Z.getD e zD).it.cap, .int .i64 ((j : Nat) : Int), .pointer (some ⟨gi, j, none⟩), .int .u8 ((n : Nat) : Int), .int .u8 ((inc8 n : Nat) : Int), .pointer (some ⟨gi, j, none⟩), .int .i64 ((j + 1 : Nat) : Int)] : List Value).getD kz undef), rfl, rfl, GG, kgb, HM, HB, HZ, HW, by omega⟩
        · have hkt : k < Z.length := by have := of_decide_eq_true t3; omega
          have hkt2 : k < Z2.length := by omega
          obtain ⟨hto, hsg⟩ := ab_at hab hkt hkt2
          have c1 : decide ((Z.getD k zD).to = (Z2.getD k zD).to) = true := decide_eq_true hto
          refine wp_region_lit ?_
          refine s_val 60 rfl rfl (.bool true) (run_lssT 3 _ _ _ rfl ((k : Nat) : Int) ((Z.length : Nat) : Int) rfl rfl true t3 _) ?_
          refine nr ?_; intro U h; simp only [z0, z1] at h; subst h
          refine wpList_nil ?_
          refine then_n ?_
          refine wp_seq ?_
          refine wp_cond_true rfl ?_
          refine wp_skip ?_
          refine then_n ?_
          refine wp_seq ?_
          refine wp_block ?_
          refine wp_seq ?_
          refine wp_region_lit ?_
          refine s_val 61 rfl rfl (.int .i64 ((k : Nat) : Int)) (rfl) ?_
          refine nr ?_; intro U h; simp only [z0, z1] at h; subst h
          refine s_val 11 rfl rfl (.int .i64 ((k : Nat) : Int)) (rfl) ?_
          refine nr ?_; intro U h; simp only [z0, z1] at h; subst h
          refine wpList_nil ?_
          refine then_n ?_
          refine wp_seq ?_
          refine wp_region_exA (A := ?Ax2) 26 [(0, 62), (1, 63), (2, 64), (3, 65), (4, 66), (5, 67), (6, 68), (7, 69), (8, 70), (9, 71), (10, 72), (11, 73), (12, 74), (13, 75), (14, 76), (15, 77), (16, 78), (17, 79), (18, 80), (19, 81), (20, 82), (21, 83), (22, 84), (23, 85), (24, 86), (25, 87)] [.val (.slice ro Z.length rc), .val (.int .i64 ((k : Nat) : Int)), .val (.pointer (pK kdu ro k 0)), .val (.pointer (pK kdu ro k 0)), .val (.agg (idA (Z.getD k zD).to)), .val (.slice ro2 Z2.length rc2), .val (.int .i64 ((k : Nat) : Int)), .val (.pointer (pK kdu ro2 k 0)), .val (.pointer (pK kdu ro2 k 0)), .val (.agg (idA (Z2.getD k zD).to)), .val (.bool false), .val (.bool false), .val (.slice ro Z.length rc), .val (.int .i64 ((k : Nat) : Int)), .val (.pointer (pK kdu ro k 0)), .val (.pointer (pK kdu ro k 16)), .val (.agg (itA (Z.getD k zD).it)), rowK kM [(Z.getD k zD).it], .val (.slice ro2 Z2.length rc2), .val (.int .i64 ((k : Nat) : Int)), .val (.pointer (pK kdu ro2 k 0)), .val (.pointer (pK kdu ro2 k 16)), .val (.agg (itA (Z2.getD k zD).it)), rowK kM [(Z2.getD k zD).it], .val (.bool true), .val (.bool false)] follows (by kernel_rfl) rfl ?hAx2 (opsA_cons ?o0x2 (opsA_cons ?o1x2 (opsA_cons ?o2x2 (opsA_cons ?o3x2 (opsA_cons ?o4x2 (opsA_cons ?o5x2 (opsA_cons ?o6x2 (opsA_cons ?o7x2 (opsA_cons ?o8x2 (opsA_cons ?o9x2 (opsA_cons ?o10x2 (opsA_cons ?o11x2 (opsA_cons ?o12x2 (opsA_cons ?o13x2 (opsA_cons ?o14x2 (opsA_cons ?o15x2 (opsA_cons ?o16x2 (opsA_cons ?o17x2 (opsA_cons ?o18x2 (opsA_cons ?o19x2 (opsA_cons ?o20x2 (opsA_cons ?o21x2 (opsA_cons ?o22x2 (opsA_cons ?o23x2 (opsA_cons ?o24x2 (opsA_cons ?o25x2 opsA_nil)))))))))))))))))))))))))) ?restx2
          case hAx2 =>
            intro ptrs
            simp only [full, foldSlots, filledE, postE, List.foldl_cons, List.foldl_nil, List.getD_cons_zero, List.getD_cons_succ, fill_val, fill_rowK, List.set_cons_zero, List.set_cons_succ]
            exact rfl
          case o0x2 => exact fun _ _ _ _ => opE_move (v := .slice ro Z.length rc) _ rfl rfl rfl
          case o1x2 => exact fun _ _ _ _ => opE_move (v := .int .i64 ((k : Nat) : Int)) _ rfl rfl rfl
          case o2x2 => exact fun _ _ hw _ => opE_value (v := .pointer (pK kdu ro k 0)) rfl (run_ixK rdu49 ((HZ.re).gro ((Gro.refl _).drew.trans hw)) _ _ rfl rfl k rfl hkt)
          case o3x2 => exact fun _ _ hw _ => opE_value (v := .pointer (pK kdu ro k 0)) rfl (run_fdK ((HZ.re).gro ((Gro.refl _).drew.trans hw)) 54 _ 0 0 (fddu54_0 _) rfl k rfl hkt)
          case o4x2 => exact fun _ _ hw _ => opE_value (v := .agg (idA (Z.getD k zD).to)) rfl (rldDut ((HZ.re).gro ((Gro.refl _).drew.trans hw)) _ rfl k rfl hkt)
          case o5x2 => exact fun _ _ _ _ => opE_move (v := .slice ro2 Z2.length rc2) _ rfl rfl rfl
          case o6x2 => exact fun _ _ _ _ => opE_move (v := .int .i64 ((k : Nat) : Int)) _ rfl rfl rfl
          case o7x2 => exact fun _ _ hw _ => opE_value (v := .pointer (pK kdu ro2 k 0)) rfl (run_ixK rdu51 ((HZ2).gro ((Gro.refl _).drew.trans hw)) _ _ rfl rfl k rfl hkt2)
          case o8x2 => exact fun _ _ hw _ => opE_value (v := .pointer (pK kdu ro2 k 0)) rfl (run_fdK ((HZ2).gro ((Gro.refl _).drew.trans hw)) 55 _ 0 0 (fddu55_0 _) rfl k rfl hkt2)
          case o9x2 => exact fun _ _ hw _ => opE_value (v := .agg (idA (Z2.getD k zD).to)) rfl (rldDut ((HZ2).gro ((Gro.refl _).drew.trans hw)) _ rfl k rfl hkt2)
          case o10x2 => exact fun _ _ _ _ => opE_value (v := .bool false) rfl (run_neI _ _ _ rfl _ _ rfl rfl (atDu HZ.re hkt).to (atDu HZ2 hkt2).to false c1)
          case o11x2 => exact fun _ _ _ _ => opE_move (v := .bool false) _ rfl rfl rfl
          case o12x2 => exact fun _ _ _ _ => opE_move (v := .slice ro Z.length rc) _ rfl rfl rfl
          case o13x2 => exact fun _ _ _ _ => opE_move (v := .int .i64 ((k : Nat) : Int)) _ rfl rfl rfl
          case o14x2 => exact fun _ _ hw _ => opE_value (v := .pointer (pK kdu ro k 0)) rfl (run_ixK rdu49 ((HZ.re).gro ((Gro.refl _).drew.trans hw)) _ _ rfl rfl k rfl hkt)
          case o15x2 => exact fun _ _ hw _ => opE_value (v := .pointer (pK kdu ro k 16)) rfl (run_fdK ((HZ.re).gro ((Gro.refl _).drew.trans hw)) 54 _ 1 16 (fddu54_1 _) rfl k rfl hkt)
          case o16x2 => exact fun _ _ hw _ => opE_value (v := .agg (itA (Z.getD k zD).it)) rfl (rldDui ((HZ.re).gro ((Gro.refl _).drew.trans hw)) _ rfl k rfl hkt)
          case o17x2 => exact fun _ _ _ _ => opE_bs rfl 40 _ rfl [(0, .agg (itA (Z.getD k zD).it))] rfl (Z.getD k zD).it (atDu HZ.re hkt).it (bsM (Z.getD k zD).it _)
          case o18x2 => exact fun _ _ _ _ => opE_move (v := .slice ro2 Z2.length rc2) _ rfl rfl rfl
          case o19x2 => exact fun _ _ _ _ => opE_move (v := .int .i64 ((k : Nat) : Int)) _ rfl rfl rfl
          case o20x2 => exact fun _ _ hw _ => opE_value (v := .pointer (pK kdu ro2 k 0)) rfl (run_ixK rdu51 ((HZ2).gro ((Gro.refl _).drew.trans hw)) _ _ rfl rfl k rfl hkt2)
          case o21x2 => exact fun _ _ hw _ => opE_value (v := .pointer (pK kdu ro2 k 16)) rfl (run_fdK ((HZ2).gro ((Gro.refl _).drew.trans hw)) 55 _ 1 16 (fddu55_1 _) rfl k rfl hkt2)
          case o22x2 => exact fun _ _ hw _ => opE_value (v := .agg (itA (Z2.getD k zD).it)) rfl (rldDui ((HZ2).gro ((Gro.refl _).drew.trans hw)) _ rfl k rfl hkt2)
          case o23x2 => exact fun _ _ _ _ => opE_bs rfl 40 _ rfl [(0, .agg (itA (Z2.getD k zD).it))] rfl (Z2.getD k zD).it (atDu HZ2 hkt2).it (bsM (Z2.getD k zD).it _)
          case o24x2 =>
            intro ptrs w' hw hE
            obtain ⟨⟨ao17, cap17, h17, o17⟩, ⟨ao23, cap23, h23, o23⟩, _⟩ := hE
            exact opE_call (.val (.bool true)) rfl _ 25 Try.call25 rfl rfl _ rfl [.slice ao17 ([(Z.getD k zD).it]).length cap17, .slice ao23 ([(Z2.getD k zD).it]).length cap23] (by show [ptrs 17, ptrs 23] = _; rw [h17, h23]) ((same_any _ ao17 ao23 cap17 cap23 [(Z.getD k zD).it] [(Z2.getD k zD).it] o17 o23 (one_all (p := fun z : IM => NC _ .u8 z.ao z.cap z.val) (((HO _ (getD_mD hkt)).nc).gro ((Gro.refl _).drew.trans hw))) (one_all (p := fun z : IM => NC _ .u8 z.ao z.cap z.val) ((NIs _ (hZI _ (getD_mD hkt2))).gro (GG.drew.trans hw))) (Nat.le_of_ble_eq_true rfl) true (fun _ => rfl) (fun hn => absurd (congrArg (fun z => [z]) hsg) hn)).mono fun e w' ⟨he, hg⟩ => ⟨_, he, hg, rfl⟩)
          case o25x2 => exact fun _ _ _ _ => opE_value (v := .bool false) rfl (run_nt _ _ rfl true rfl)
          intro ptrs w10 GD hxE
          simp only [List.drop_succ_cons, List.drop_zero]
          replace kgb := GD.has kgb
          replace HM := HM.gro ((Gro.refl _).drew.trans GD)
          replace HB := HB.gro ((Gro.refl _).drew.trans GD)
          replace HZ := HZ.gro ((Gro.refl _).drew.trans GD)
          replace HO := HO.gro ((Gro.refl _).drew.trans GD)
          replace HZ2 := HZ2.gro ((Gro.refl _).drew.trans GD)
          replace GG := GG.drew.trans GD
          obtain ⟨_, _, _⟩ := hxE
          clear GD
          refine s_val 88 rfl rfl (.bool false) (rfl) ?_
          refine nr ?_; intro U h; simp only [z0, z1] at h; subst h
          refine wpList_nil ?_
          refine then_n ?_
          refine wp_cond_false rfl ?_
          refine wp_skip ?_
          refine blk_n ?_
          refine then_n ?_
          refine wp_region_lit ?_
          refine s_val 89 rfl rfl (.int .i64 ((k + 1 : Nat) : Int)) (run_addI 3 _ _ _ rfl ((k : Nat) : Int) 1 ((k + 1 : Nat) : Int) rfl rfl (by omega) (by omega) (by omega) _) ?_
          refine nr ?_; intro U h; simp only [z0, z1] at h; subst h
          refine s_val 59 rfl rfl (.int .i64 ((k + 1 : Nat) : Int)) (rfl) ?_
          refine nr ?_; intro U h; simp only [z0, z1] at h; subst h
          refine wpList_nil ?_
          refine then_n ?_
          exact ⟨_, by omega, k + 1, (fun kz => ([us2 0, .int .i64 ((k : Nat) : Int), .bool true, .int .i64 ((k : Nat) : Int), .slice ro Z.length rc, .int .i64 ((k : Nat) : Int), .pointer (pK kdu ro k 0), .pointer (pK kdu ro k 0), .agg (idA (Z.getD k zD).to), .slice ro2 Z2.length rc2, .int .i64 ((k : Nat) : Int), .pointer (pK kdu ro2 k 0), .pointer (pK kdu ro2 k 0), .agg (idA (Z2.getD k zD).to), .bool false, .bool false, .slice ro Z.length rc, .int .i64 ((k : Nat) : Int), .pointer (pK kdu ro k 0), .pointer (pK kdu ro k 16), .agg (itA (Z.getD k zD).it), ptrs 17, .slice ro2 Z2.length rc2, .int .i64 ((k : Nat) : Int), .pointer (pK kdu ro2 k 0), .pointer (pK kdu ro2 k 16), .agg (itA (Z2.getD k zD).it), ptrs 23, .bool true, .bool false, .bool false, .int .i64 ((k + 1 : Nat) : Int)] : List Value).getD kz undef), rfl, rfl, GG, kgb, HM, HB, HZ, HO, HZ2, by omega⟩
    · refine wp_region_lit ?_
      refine s_val 30 rfl rfl (.int .i64 ((i : Nat) : Int)) (rfl) ?_
      refine nr ?_; intro U h; simp only [z0, z1] at h; subst h
      refine s_val 31 rfl rfl (.bool true) (run_gtrT 3 _ _ _ rfl ((i : Nat) : Int) 100 rfl rfl true h100 _) ?_
      refine nr ?_; intro U h; simp only [z0, z1] at h; subst h
      refine wpList_nil ?_
      refine then_n ?_
      refine wp_cond_true rfl ?_
      refine wp_exit ?_
      refine then_x ?_
      refine blk_xn (by decide) ?_
      refine then_x ?_
      refine then_x ?_
      refine blk_x ?_
      refine then_n ?_
      refine wp_seq ?_
      refine wp_region_lit ?_
      refine s_val 2 rfl rfl (.bool true) (rfl) ?_
      refine nr ?_; intro U h; simp only [z0, z1] at h; subst h
      refine wpList_nil ?_
      refine then_n ?_
      refine wp_ret ?_
      refine bodyPost_ret (results_tmp Try.results4 _ _ _) rfl ?_
      exact ⟨rfl, GG⟩
end Go.Proofs.Ytjahegiopigblaa
