/- Tables along a way on which a path lies. -/
import Derived.Test.YtmpnepbmpmkmkabBX7
namespace Go.Proofs.Ytmpnepbmpmkmkab
open Go.RowKit Go.Maps
theorem W_length : ∀ (n : Nat) (W : List Int), W.Nodup → (∀ x ∈ W, 0 ≤ x ∧ x < (n : Int)) → W.length ≤ n
  | 0, W, _, h => by
    cases W with
    | nil => exact Nat.le_refl _
    | cons a r => have := h a List.mem_cons_self; omega
  | n + 1, W, hd, h => by
    by_cases hm : (n : Int) ∈ W
    · have h1 := W_length n (W.erase (n : Int)) (hd.erase _) fun x hx => by
        have hx2 := (hd.mem_erase_iff).1 hx
        have := h x hx2.2
        have := hx2.1
        omega
      rw [List.length_erase_of_mem hm] at h1
      omega
    · have h1 := W_length n W hd fun x hx => by
        have := h x hx
        have hne : x ≠ (n : Int) := fun e => hm (e ▸ hx)
        omega
      omega
/-- Unlike places below 6. -/
structure RW (W : List Int) : Prop where
  nd : W.Nodup
  rg : ∀ x ∈ W, 0 ≤ x ∧ x < 6
section
variable {W : List Int} {p : Pa} {k j : Nat}
theorem RW.nil : RW [] := ⟨List.Pairwise.nil, fun _ h => (by cases h)⟩
theorem RW.len (h : RW W) : W.length ≤ 6 := W_length 6 W h.nd h.rg
theorem RW.snoc (h : RW W) {x : Int} (h0 : 0 ≤ x ∧ x < 6) (hx : x ∉ W) : RW (W ++ [x]) := by
  refine ⟨List.nodup_append.2 ⟨h.nd, List.nodup_cons.2 ⟨by simp, List.nodup_nil⟩, fun a ha b hb e => ?_⟩, fun y hy => ?_⟩
  · rw [List.mem_singleton] at hb
    exact hx (hb ▸ e ▸ ha)
  · rcases List.mem_append.1 hy with hy | hy
    · exact h.rg y hy
    · rw [List.mem_singleton] at hy
      exact hy ▸ h0
theorem gZ {l : List Int} {j : Nat} (hj : j < l.length) : l.getD j 0 = l[j] := by simp [List.getD_eq_getElem?_getD, hj]
theorem RW.at (h : RW W) (k : Nat) : 0 ≤ W.getD k 0 ∧ W.getD k 0 < 6 := by
  by_cases hk : k < W.length
  · rw [gZ hk]
    exact h.rg _ (List.getElem_mem hk)
  · rw [List.getD_eq_getElem?_getD, List.getElem?_eq_none (by omega)]
    exact ⟨by decide, by decide⟩
theorem RW.i64 (h : RW W) (k : Nat) : I64 (W.getD k 0) := by
  have := h.at k
  unfold I64
  omega
theorem RW.inj (h : RW W) (hj : j < W.length) (hk : k < W.length) (e : W.getD j 0 = W.getD k 0) : j = k := by
  rw [gZ hj, gZ hk] at e
  rcases Nat.lt_trichotomy j k with hl | hl | hl
  · exact absurd e (List.pairwise_iff_getElem.1 h.nd j k hj hk hl)
  · exact hl
  · exact absurd e.symm (List.pairwise_iff_getElem.1 h.nd k j hk hj hl)
theorem tk_not {x : Int} (hj : j < W.length) (h : x ∉ W.take j) (hx : ¬ W.getD j 0 = x) : x ∉ W.take (j + 1) := by
  have e : W.take (j + 1) = W.take j ++ [W.getD j 0] := by
    rw [List.take_add_one, List.getElem?_eq_getElem hj, List.getD_eq_getElem?_getD, List.getElem?_eq_getElem hj]
    rfl
  rw [e]
  intro hm
  rcases List.mem_append.1 hm with hm | hm
  · exact h hm
  · exact hx (List.mem_singleton.1 hm).symm
/-- The neighbours of a place on the way, the entry there. -/
def naL (W : List Int) (k : Nat) : Int := if k = 0 then -1 else W.getD (k - 1) 0
def nbL (W : List Int) (k : Nat) : Int := if k + 1 < W.length then W.getD (k + 1) 0 else -1
def xL (W : List Int) (p : Pa) (k : Nat) : En := ⟨p, i1 1, i1 2, naL W k, nbL W k⟩
theorem xL_ok (h : RW W) (hp : p.ok) (k : Nat) : (xL W p k).ok := by
  refine ⟨hp, by show i1 1 < top; decide, by show i1 2 < top; decide, ?_, ?_⟩
  · show I64 (naL W k)
    unfold naL
    split
    · exact ⟨by decide, by decide⟩
    · exact h.i64 _
  · show I64 (nbL W k)
    unfold nbL
    split
    · exact h.i64 _
    · exact ⟨by decide, by decide⟩
theorem xL_rgt (h : RW W) (h2 : 2 ≤ W.length) (hk : k < W.length) : rgt (xL W p k) = true := by
  have e1 := h.at (k - 1)
  have e2 := h.at (k + 1)
  rw [rgt_iff]
  refine ⟨by show i1 1 ≠ i1 2; decide, ?_, ?_, ?_⟩
  · show -1 ≤ naL W k ∧ naL W k < 6
    unfold naL
    split <;> omega
  · show -1 ≤ nbL W k ∧ nbL W k < 6
    unfold nbL
    split <;> omega
  · show naL W k ≠ nbL W k
    unfold naL nbL
    split
    · split <;> omega
    · split
      · intro e
        have := h.inj (by omega) (by omega) e
        omega
      · omega
theorem xL_l (h : RW W) (h2 : 2 ≤ W.length) (hk : k < W.length) : addL 2 [] (xL W p k) = [xL W p k] := by
  unfold addL addC
  rw [if_pos (xL_rgt h h2 hk)]
  rfl
end
/-- Rows of tables. -/
def kT : Kd Nat := ⟨fun t => [.pointer (some ⟨t, 0, none⟩)], 1, fun _ => True, 0, fun _ => rfl, fun _ v hv => by rw [List.mem_singleton.1 hv]; rfl⟩
theorem rT : RowT Try.prog 27 37 1 8 (.pointer none) := ⟨Try.underlying27, info_of (by kernel_rfl), rfl, by decide⟩
theorem naT (w : World) : (isAgg 37).run Try.prog w = .ok false w := by kernel_rfl
theorem run_ldT {o : Oper} {A : Act} {w : World} {ao : Option Addr} {cap : Nat} {l : List Nat} (h : RK kT w ao cap l) (x : Operand) (ho : o.op = .load 37 x) (j : Nat) (hx : A.eval x = .pointer (pK kT ao j 0)) (hj : j < l.length) : (execOp A.eval o).run Try.prog w = .ok (.value (.pointer (some ⟨l.getD j 0, 0, none⟩))) w :=
  run_ldKc h 37 (naT w) 0 (by decide) x ho j hx hj _ rfl
structure Tbs (w : World) (ts bs : List Nat) (F : Nat → List En) (n : Nat) : Prop where
  lt : ts.length = n
  lb : bs.length = n
  tb : ∀ k, k < n → w.heap[ts.getD k 0]? = some (.cells (tbA 2 (bs.getD k 0)) 69 (0, 0))
  tm : ∀ k, k < n → TM w (bs.getD k 0) (F k)
  ne : ∀ j k, j < n → k < n → j ≠ k → bs.getD j 0 ≠ bs.getD k 0
section
variable {w w' : World} {ts bs : List Nat} {F : Nat → List En} {n : Nat}
theorem Tbs.nil (w : World) (F : Nat → List En) : Tbs w [] [] F 0 := ⟨rfl, rfl, fun _ h => by omega, fun _ h => by omega, fun _ _ h => by omega⟩
theorem Tbs.gro (h : Tbs w ts bs F n) (G : Gro w w') : Tbs w' ts bs F n := ⟨h.lt, h.lb, fun k hk => G.has (h.tb k hk), fun k hk => (h.tm k hk).gro G, h.ne⟩
/-- A write to blocks that are rows of another kind. -/
theorem Tbs.gros {S : List Nat} (h : Tbs w ts bs F n) (G : GroS S w w') (hS : ∀ k ∈ S, ∃ c t, w.heap[k]? = some (.cells c t (0, 0)) ∧ t ≠ 69) : Tbs w' ts bs F n :=
  ⟨h.lt, h.lb, fun k hk => G.has (h.tb k hk) (fun hm => by
    obtain ⟨c, t, h1, h2⟩ := hS _ hm
    exact ne_type h1 (h.tb k hk) h2 rfl), fun k hk => (h.tm k hk).gros G (fun hm => by
    obtain ⟨c, t, h1, _⟩ := hS _ hm
    exact (h.tm k hk).nec h1 rfl), h.ne⟩
theorem Tbs.st {g : Nat} {x : Obj} {cs : Array Value} {t : TypeId} (h : Tbs w ts bs F n) (St : Stored w w' g x) (kg : w.heap[g]? = some (.cells cs t (0, 0))) (ht : t ≠ 69) : Tbs w' ts bs F n := h.gros St.gros fun k hk => by
  rw [List.mem_singleton] at hk
  exact ⟨cs, t, hk ▸ kg, ht⟩
/-- One table changes. -/
theorem Tbs.upd (h : Tbs w ts bs F n) {k : Nat} (hk : k < n) {L : List En} (HT : TM w' (bs.getD k 0) L) (G : GroS [bs.getD k 0] w w') {F' : Nat → List En} (h1 : F' k = L) (h2 : ∀ j, j < n → j ≠ k → F' j = F j) : Tbs w' ts bs F' n := by
  refine ⟨h.lt, h.lb, fun j hj => G.has (h.tb j hj) (fun hm => (h.tm k hk).nec (h.tb j hj) (List.mem_singleton.1 hm)), fun j hj => ?_, h.ne⟩
  by_cases e : j = k
  · subst e
    rw [h1]
    exact HT
  · rw [h2 j hj e]
    exact (h.tm j hj).gros G (fun hm => h.ne j k hj hk e (List.mem_singleton.1 hm))
theorem getD_app1 {l : List Nat} {x k : Nat} (hk : k < l.length) : (l ++ [x]).getD k 0 = l.getD k 0 := by
  rw [List.getD_eq_getElem?_getD, List.getD_eq_getElem?_getD, List.getElem?_append_left hk]
theorem getD_app2 {l : List Nat} {x k : Nat} (hk : k = l.length) : (l ++ [x]).getD k 0 = x := by
  subst hk
  rw [List.getD_eq_getElem?_getD, List.getElem?_append_right (Nat.le_refl _)]
  simp
/-- One table more. -/
theorem Tbs.snoc (h : Tbs w ts bs F n) {t b : Nat} (kt : w.heap[t]? = some (.cells (tbA 2 b) 69 (0, 0))) (HT : TM w b (F n)) (hb : ∀ k, k < n → bs.getD k 0 ≠ b) : Tbs w (ts ++ [t]) (bs ++ [b]) F (n + 1) := by
  have l1 := h.lt
  have l2 := h.lb
  refine ⟨by rw [List.length_append, l1]; rfl, by rw [List.length_append, l2]; rfl, fun k hk => ?_, fun k hk => ?_, fun j k hj hk e => ?_⟩
  · by_cases e : k = n
    · rw [getD_app2 (by omega), getD_app2 (by omega)]
      exact kt
    · rw [getD_app1 (by omega), getD_app1 (by omega)]
      exact h.tb k (by omega)
  · by_cases e : k = n
    · rw [getD_app2 (by omega), e]
      exact HT
    · rw [getD_app1 (by omega)]
      exact h.tm k (by omega)
  · by_cases e1 : j = n
    · rw [getD_app2 (by omega), getD_app1 (by omega)]
      exact (hb k (by omega)).symm
    · by_cases e2 : k = n
      · rw [getD_app1 (by omega), getD_app2 (by omega)]
        exact hb j (by omega)
      · rw [getD_app1 (by omega), getD_app1 (by omega)]
        exact h.ne j k (by omega) (by omega) e
theorem Tbs.ge (h : Tbs w ts bs F n) {k : Nat} (hk : k < n) : bs.getD k 0 < w.heap.size := (h.tm k hk).lt
end
theorem bdE5 (p : Pa) (a b : Nat) (na nb : Int) (w : World) : (Instr.build 39 #[(0, .agg (paA p)), (1, .agg (idA a)), (2, .agg (idA b)), (3, .int .i64 na), (4, .int .i64 nb)]).run Try.prog w = .ok (.agg (enA ⟨p, a, b, na, nb⟩)) w := by kernel_rfl
theorem spE_na (x : En) (n : Int) : splice (enA x) 49 #[.int .i64 n] = enA { x with na := n } := by kernel_rfl
theorem spE_nb (x : En) (n : Int) : splice (enA x) 50 #[.int .i64 n] = enA { x with nb := n } := by kernel_rfl
theorem new2 (w : World) : Calls Try.prog 10 #[.int .i64 2] w (NewP w 2) := by
  have h := new_any 2 w
  rwa [show rmF 2 = 2 from by decide] at h
theorem bsT1 (t : Nat) (w : World) : (Instr.buildSlice 27 1 #[(0, .pointer (some ⟨t, 0, none⟩))]).run Try.prog w = .ok (.slice (some ⟨w.heap.size, 0, none⟩) 1 1) (w.alloc (.cells (([t] : List Nat).flatMap kT.E).toArray 37)) := by kernel_rfl
theorem Tbs.mapn {w w' : World} {ts bs : List Nat} {F : Nat → List En} {n b : Nat} {L : List En} (h : Tbs w ts bs F n) (HT : TM w b L) (G : GroS [b] w w') (hb : ∀ k, k < n → bs.getD k 0 ≠ b) : Tbs w' ts bs F n :=
  ⟨h.lt, h.lb, fun k hk => G.has (h.tb k hk) (by simpa using HT.nec (h.tb k hk)), fun k hk => (h.tm k hk).gros G (by simpa using hb k hk), h.ne⟩
def LineP (w : World) (p : Pa) (e : Ending) (w' : World) : Prop := ∃ ta tc ts bs ao cap W, e = .returned (.tuple #[.slice ta (List.length ts) tc, .slice ao (List.length W) cap]) ∧ Gro w w' ∧ RW W ∧ RK kT w' ta tc ts ∧ RK kZ w' ao cap W ∧ Tbs w' ts bs (fun k => addL 2 [] (xL W p k)) W.length ∧ ∀ k, k < W.length → w.heap.size ≤ bs.getD k 0
theorem ge_snoc {bs : List Nat} {b n m : Nat} (hl : bs.length = n) (h : ∀ k, k < n → m ≤ bs.getD k 0) (hb : m ≤ b) : ∀ k, k < n + 1 → m ≤ (bs ++ [b]).getD k 0 := fun k hk => by
  by_cases e : k = n
  · rw [getD_app2 (by omega)]
    exact hb
  · rw [getD_app1 (by omega)]
    exact h k (by omega)
set_option maxRecDepth 100000 in
set_option maxHeartbeats 4000000 in
theorem line_any (w : World) (ao0 : Option Addr) (cap0 : Nat) (l : List Int) (H : RK kZ w ao0 cap0 l) (hl : l.length ≤ maxLen) (p : Pa) (hp : p.ok) : Calls Try.prog 4 #[.slice ao0 l.length cap0, .agg (paA p)] w (LineP w p) := by
  refine s_enter Try.func4 rfl Try.ntmps4 [.slice ao0 l.length cap0, .agg (paA p)] [.slice ao0 l.length cap0, .agg (paA p), undef, undef, undef, undef, undef, undef, undef, undef, undef, undef, undef, undef, undef, undef, undef, undef, undef, undef, undef, undef, undef, undef, undef, undef, undef, undef, undef, undef, undef, undef, undef, undef, undef, undef, undef, undef, undef, undef, undef, undef, undef, undef, undef, undef, undef, undef, undef, undef, undef, undef, undef, undef, undef, undef, undef, undef, undef, undef, undef, undef, undef, undef, undef, undef, undef, undef, undef, undef, undef, undef, undef, undef, undef, undef, undef, undef, undef, undef, undef, undef, undef, undef, undef, undef] rfl ?_
  have GG := Gro.refl w
  rw [maxL] at hl
  refine wp_seq ?_
  refine wp_region_lit ?_
  refine s_box 3 rfl rfl 26 _ rfl _ rfl (paA p) rfl ?_
  intro w1 g1 G eg1 kg1
  have bg1 := size_base GG eg1
  replace GG := GG.trans G
  clear G
  clear eg1
  refine nr ?_; intro U h; simp only [z0, z1] at h; subst h
  refine s_val 4 rfl rfl (.slice none 0 0) (rfl) ?_
  refine nr ?_; intro U h; simp only [z0, z1] at h; subst h
  refine s_val 5 rfl rfl (.slice none 0 0) (rfl) ?_
  refine nr ?_; intro U h; simp only [z0, z1] at h; subst h
  refine wpList_nil ?_
  refine then_n ?_
  refine wp_seq ?_
  refine wp_region_lit ?_
  refine s_val 6 rfl rfl (.slice none 0 0) (rfl) ?_
  refine nr ?_; intro U h; simp only [z0, z1] at h; subst h
  refine wpList_nil ?_
  refine then_n ?_
  refine wp_seq ?_
  refine wp_seq ?_
  refine wp_region_lit ?_
  refine s_val 16 rfl rfl (.slice ao0 l.length cap0) (rfl) ?_
  refine nr ?_; intro U h; simp only [z0, z1] at h; subst h
  refine s_val 17 rfl rfl (.int .i64 ((l.length : Nat) : Int)) (run_len Try.underlying22 _ rfl _ _ _ rfl _) ?_
  refine nr ?_; intro U h; simp only [z0, z1] at h; subst h
  refine s_val 18 rfl rfl (.int .i64 0) (rfl) ?_
  refine nr ?_; intro U h; simp only [z0, z1] at h; subst h
  refine wpList_nil ?_
  refine then_n ?_
  refine wp_block ?_
  obtain ⟨B, hB⟩ : ∃ m, w1.heap.size = m := ⟨_, rfl⟩
  have hwB : w.heap.size ≤ B := hB ▸ GG.size
  have HZ : SZ B w1 := Nat.le_of_eq hB.symm
  have zg1 : g1 < B := hB ▸ lt_of_heap kg1
  refine wp_loopN (fun mz az wv => ∃ (i : Nat) (ao : Option Addr) (cap : Nat) (W : List Int) (us1 : Nat → Value), mz = l.length + 1 - i ∧ az = ⟨[.slice ao0 l.length cap0, .agg (paA p), undef, .pointer (some ⟨g1, 0, none⟩), .slice none 0 0, .slice none 0 0, .slice ao W.length cap, undef, us1 0, us1 1, undef, us1 2, undef, undef, undef, undef, .slice ao0 l.length cap0, .int .i64 ((l.length : Nat) : Int), .int .i64 ((i : Nat) : Int), us1 3, us1 4, us1 5, us1 6, us1 7, us1 8, us1 9, us1 10, us1 11, us1 12, us1 13, us1 14, us1 15, us1 16, us1 17, us1 18, us1 19, us1 20, us1 21, us1 22, us1 23, us1 24, us1 25, us1 26, us1 27, us1 28, us1 29, us1 30, undef, undef, undef, undef, undef, undef, undef, undef, undef, undef, undef, undef, undef, undef, undef, undef, undef, undef, undef, undef, undef, undef, undef, undef, undef, undef, undef, undef, undef, undef, undef, undef, undef, undef, undef, undef, undef, undef, undef].toArray, []⟩ ∧ i ≤ l.length ∧ RW W ∧ Gro w wv ∧ SZ B wv ∧ wv.heap[g1]? = some (.cells (paA p) 26 (0, 0)) ∧ OW kZ 3 wv B ao cap W) ?_ _ ⟨0, none, 0, [], (fun kz => ([undef, undef, undef, undef, undef, undef, undef, undef, undef, undef, undef, undef, undef, undef, undef, undef, undef, undef, undef, undef, undef, undef, undef, undef, undef, undef, undef, undef, undef, undef, undef] : List Value).getD kz undef), rfl, rfl, Nat.zero_le _, RW.nil, GG, HZ, kg1, OW.nil _ _⟩
  clear GG kg1
  rintro mz az wv ⟨i, ao, cap, W, us1, rfl, rfl, hi, hW, GG, HZ, kg1, HW⟩
  have hWl := hW.len
  have hI := H.gro GG
  refine wp_seq ?_
  refine wp_region_lit ?_
  cases hi1 : decide (((i : Nat) : Int) < ((l.length : Nat) : Int))
  · have hie : i = l.length := by have := of_decide_eq_false hi1; omega
    refine s_val 19 rfl rfl (.bool false) (run_lssT 3 _ _ _ rfl ((i : Nat) : Int) ((l.length : Nat) : Int) rfl rfl false hi1 _) ?_
    refine nr ?_; intro U h; simp only [z0, z1] at h; subst h
    refine wpList_nil ?_
    refine then_n ?_
    refine wp_seq ?_
    refine wp_cond_false rfl ?_
    refine wp_exit ?_
    refine then_x ?_
    refine then_x ?_
    refine blk_x ?_
    refine then_n ?_
    refine wp_seq ?_
    refine wp_region_lit ?_
    refine s_val 12 rfl rfl (.slice none 0 0) (rfl) ?_
    refine nr ?_; intro U h; simp only [z0, z1] at h; subst h
    refine wpList_nil ?_
    refine then_n ?_
    refine wp_seq ?_
    refine wp_seq ?_
    refine wp_region_lit ?_
    refine s_val 47 rfl rfl (.slice ao W.length cap) (rfl) ?_
    refine nr ?_; intro U h; simp only [z0, z1] at h; subst h
    refine s_val 48 rfl rfl (.int .i64 ((W.length : Nat) : Int)) (run_len Try.underlying22 _ rfl _ _ _ rfl _) ?_
    refine nr ?_; intro U h; simp only [z0, z1] at h; subst h
    refine s_val 49 rfl rfl (.int .i64 0) (rfl) ?_
    refine nr ?_; intro U h; simp only [z0, z1] at h; subst h
    refine wpList_nil ?_
    refine then_n ?_
    refine wp_block ?_
    obtain ⟨B2, hB2⟩ : ∃ m, wv.heap.size = m := ⟨_, rfl⟩
    have hwB2 : w.heap.size ≤ B2 := hB2 ▸ GG.size
    replace HZ : SZ B2 wv := Nat.le_of_eq hB2.symm
    have yg1 : g1 < B2 := hB2 ▸ lt_of_heap kg1
    have hWb : ∀ k ∈ Go.Proofs.Ytmpnepbmpmkmkab.blk ao, k < B2 := fun k hk => hB2 ▸ HW.own.lt k hk
    have HV := HW
    clear HW
    refine wp_loopN (fun mz az wv => ∃ (n : Nat) (ta : Option Addr) (tc : Nat) (ts : List Nat) (bs : List Nat) (us2 : Nat → Value), mz = W.length + 1 - n ∧ az = ⟨[.slice ao0 l.length cap0, .agg (paA p), undef, .pointer (some ⟨g1, 0, none⟩), .slice none 0 0, .slice none 0 0, .slice ao W.length cap, undef, us1 0, us1 1, undef, us1 2, .slice ta ts.length tc, us2 0, us2 1, us2 2, .slice ao0 l.length cap0, .int .i64 ((l.length : Nat) : Int), .int .i64 ((i : Nat) : Int), .bool false, us1 4, us1 5, us1 6, us1 7, us1 8, us1 9, us1 10, us1 11, us1 12, us1 13, us1 14, us1 15, us1 16, us1 17, us1 18, us1 19, us1 20, us1 21, us1 22, us1 23, us1 24, us1 25, us1 26, us1 27, us1 28, us1 29, us1 30, .slice ao W.length cap, .int .i64 ((W.length : Nat) : Int), .int .i64 ((n : Nat) : Int), us2 3, us2 4, us2 5, us2 6, us2 7, us2 8, us2 9, us2 10, us2 11, us2 12, us2 13, us2 14, us2 15, us2 16, us2 17, us2 18, us2 19, us2 20, us2 21, us2 22, us2 23, us2 24, us2 25, us2 26, us2 27, us2 28, us2 29, us2 30, us2 31, us2 32, us2 33, us2 34, us2 35, us2 36, undef, undef].toArray, []⟩ ∧ n ≤ W.length ∧ Gro w wv ∧ SZ B2 wv ∧ wv.heap[g1]? = some (.cells (paA p) 26 (0, 0)) ∧ OW kZ 3 wv B ao cap W ∧ OW kT 37 wv B2 ta tc ts ∧ Tbs wv ts bs (fun k => addL 2 [] (xL W p k)) n ∧ (∀ k, k < n → w.heap.size ≤ bs.getD k 0)) ?_ _ ⟨0, none, 0, [], [], (fun kz => ([undef, undef, undef, undef, undef, undef, undef, undef, undef, undef, undef, undef, undef, undef, undef, undef, undef, undef, undef, undef, undef, undef, undef, undef, undef, undef, undef, undef, undef, undef, undef, undef, undef, undef, undef, undef, undef] : List Value).getD kz undef), rfl, rfl, Nat.zero_le _, GG, HZ, kg1, HV, OW.nil _ _, Tbs.nil _ _, (fun _ h => absurd h (Nat.not_lt_zero _))⟩
    clear GG kg1 HZ
    rintro mz az wv ⟨n, ta, tc, ts, bs, us2, rfl, rfl, hn, GG, HZ, kg1, HV, HT_, HB, hbb⟩
    have hWl := hW.len
    have htl := HB.lt
    have hlb := HB.lb
    refine wp_seq ?_
    refine wp_region_lit ?_
    cases hn1 : decide (((n : Nat) : Int) < ((W.length : Nat) : Int))
    · have hne : n = W.length := by have := of_decide_eq_false hn1; omega
      refine s_val 50 rfl rfl (.bool false) (run_lssT 3 _ _ _ rfl ((n : Nat) : Int) ((W.length : Nat) : Int) rfl rfl false hn1 _) ?_
      refine nr ?_; intro U h; simp only [z0, z1] at h; subst h
      refine wpList_nil ?_
      refine then_n ?_
      refine wp_seq ?_
      refine wp_cond_false rfl ?_
      refine wp_exit ?_
      refine then_x ?_
      refine then_x ?_
      refine blk_x ?_
      refine then_n ?_
      refine wp_seq ?_
      refine wp_region_lit ?_
      refine s_val 84 rfl rfl (.slice ta ts.length tc) (rfl) ?_
      refine nr ?_; intro U h; simp only [z0, z1] at h; subst h
      refine s_val 85 rfl rfl (.slice ao W.length cap) (rfl) ?_
      refine nr ?_; intro U h; simp only [z0, z1] at h; subst h
      refine s_val 4 rfl rfl (.slice ta ts.length tc) (rfl) ?_
      refine nr ?_; intro U h; simp only [z0, z1] at h; subst h
      refine s_val 5 rfl rfl (.slice ao W.length cap) (rfl) ?_
      refine nr ?_; intro U h; simp only [z0, z1] at h; subst h
      refine wpList_nil ?_
      refine then_n ?_
      refine wp_ret ?_
      refine bodyPost_ret (results_tmp2 Try.results4 _ _ _) rfl ?_
      subst hne
      exact ⟨ta, tc, ts, bs, ao, cap, W, rfl, GG, hW, HT_.re, HV.re, HB, hbb⟩
    · have hnl : n < W.length := by have := of_decide_eq_true hn1; omega
      refine s_val 50 rfl rfl (.bool true) (run_lssT 3 _ _ _ rfl ((n : Nat) : Int) ((W.length : Nat) : Int) rfl rfl true hn1 _) ?_
      refine nr ?_; intro U h; simp only [z0, z1] at h; subst h
      refine wpList_nil ?_
      refine then_n ?_
      refine wp_seq ?_
      refine wp_cond_true rfl ?_
      refine wp_skip ?_
      refine then_n ?_
      refine wp_seq ?_
      refine wp_block ?_
      refine wp_seq ?_
      refine wp_region_lit ?_
      refine s_val 51 rfl rfl (.int .i64 ((n : Nat) : Int)) (rfl) ?_
      refine nr ?_; intro U h; simp only [z0, z1] at h; subst h
      refine s_val 13 rfl rfl (.int .i64 ((n : Nat) : Int)) (rfl) ?_
      refine nr ?_; intro U h; simp only [z0, z1] at h; subst h
      refine wpList_nil ?_
      refine then_n ?_
      refine wp_seq ?_
      refine wp_region_lit ?_
      have hbz := fun k (hk : k < n) => HB.ge hk
      refine s_callx 52 rfl rfl _ 10 Try.call10 rfl rfl _ rfl [.int .i64 2] rfl (new2 _) (by rintro _ _ ⟨_, _, he, _⟩; exact ⟨_, he⟩) ?_
      rintro v w2 ⟨t, b, he, G, kt, HTt, h1t, h2t⟩
      cases he
      have bt := Nat.le_trans GG.size h1t
      have hbn : ∀ k, k < n → bs.getD k 0 ≠ b := fun k hk e => by have h1 := hbz k hk; rw [e] at h1; omega
      have bb := Nat.le_trans GG.size h2t
      clear h1t h2t
      replace kg1 := G.has kg1
      replace HZ := HZ.gro G
      replace HV := HV.gro G
      replace HT_ := HT_.gro G
      replace HB := HB.gro G
      replace GG := GG.trans G
      clear G
      refine nr ?_; intro U h; simp only [z0, z1] at h; subst h
      refine s_val 14 rfl rfl (.pointer (some ⟨t, 0, none⟩)) (rfl) ?_
      refine nr ?_; intro U h; simp only [z0, z1] at h; subst h
      refine wpList_nil ?_
      refine then_n ?_
      refine wp_seq ?_
      refine wp_region_lit ?_
      refine s_val 53 rfl rfl (.agg (paA p)) (ldP0 _ rfl g1 rfl (kg1)) ?_
      refine nr ?_; intro U h; simp only [z0, z1] at h; subst h
      refine s_val 54 rfl rfl (.agg (idA (i1 1))) (run_bd 24 _ rfl [(0, .int .u8 1)] rfl _ (by kernel_rfl)) ?_
      refine nr ?_; intro U h; simp only [z0, z1] at h; subst h
      refine s_val 55 rfl rfl (.agg (idA (i1 2))) (run_bd 24 _ rfl [(0, .int .u8 2)] rfl _ (by kernel_rfl)) ?_
      refine nr ?_; intro U h; simp only [z0, z1] at h; subst h
      refine s_val 56 rfl rfl (.agg (enA (⟨p, i1 1, i1 2, -1, -1⟩ : En))) (run_bd 39 _ rfl [(0, .agg (paA p)), (1, .agg (idA (i1 1))), (2, .agg (idA (i1 2))), (3, .int .i64 (-1)), (4, .int .i64 (-1))] rfl _ (bdE5 _ _ _ _ _ _)) ?_
      refine nr ?_; intro U h; simp only [z0, z1] at h; subst h
      refine s_alloc 15 rfl rfl 39 rfl _ zero33 (enA zE) rfl ?_
      intro w3 g2 G eg2 kg2
      have bg2 := size_base GG eg2
      have dg1g2 := lt_new kg1 eg2
      have dtg2 := lt_new kt eg2
      have dHZg2 := HZ.ne eg2
      have dHVg2 := HV.ne eg2
      have dHT_g2 := HT_.ne eg2
      have dHTtg2 := HTt.ne eg2
      replace kg1 := G.has kg1
      replace kt := G.has kt
      replace HZ := HZ.gro G
      replace HV := HV.gro G
      replace HT_ := HT_.gro G
      replace HB := HB.gro G
      replace HTt := HTt.gro G
      replace GG := GG.trans G
      clear G
      clear eg2
      refine nr ?_; intro U h; simp only [z0, z1] at h; subst h
      refine s_store rfl rfl 39 _ _ rfl g2 0 rfl (.agg (enA (⟨p, i1 1, i1 2, -1, -1⟩ : En))) rfl 39 _ kg2 (enA (⟨p, i1 1, i1 2, -1, -1⟩ : En)) rfl (si33' _) (enA_fit _ _) (enA_one _) (enA (⟨p, i1 1, i1 2, -1, -1⟩ : En)) (splice_whole _ _ (enA_sz _ _)) ?_
      intro w4 St
      have kS := kg2
      replace kg1 := St.has (by omega) kg1
      replace kt := St.has (by omega) kt
      replace HZ := HZ.st St dHZg2
      replace HV := HV.st St dHVg2
      replace HT_ := HT_.st St dHT_g2
      replace HB := HB.st St kS (by decide)
      replace HTt := HTt.st St dHTtg2
      replace GG := GG.store St bg2
      replace kg2 := St.new
      clear St
      refine wpList_nil ?_
      refine then_n ?_
      refine wp_seq ?_
      refine wp_seq ?_
      refine wp_region_lit ?_
      refine s_val 57 rfl rfl (.int .i64 ((n : Nat) : Int)) (rfl) ?_
      refine nr ?_; intro U h; simp only [z0, z1] at h; subst h
      cases hp0 : decide ((0 : Int) < ((n : Nat) : Int))
      · refine s_val 58 rfl rfl (.bool false) (run_gtrT 3 _ _ _ rfl ((n : Nat) : Int) 0 rfl rfl false hp0 _) ?_
        refine nr ?_; intro U h; simp only [z0, z1] at h; subst h
        refine wpList_nil ?_
        refine then_n ?_
        refine wp_cond_false rfl ?_
        refine wp_skip ?_
        refine then_n ?_
        refine wp_seq ?_
        refine wp_seq ?_
        refine wp_region_lit ?_
        refine s_val 65 rfl rfl (.int .i64 ((n : Nat) : Int)) (rfl) ?_
        refine nr ?_; intro U h; simp only [z0, z1] at h; subst h
        refine s_val 66 rfl rfl (.int .i64 ((n + 1 : Nat) : Int)) (run_addI 3 _ _ _ rfl ((n : Nat) : Int) 1 ((n + 1 : Nat) : Int) rfl rfl (by omega) (by omega) (by omega) _) ?_
        refine nr ?_; intro U h; simp only [z0, z1] at h; subst h
        refine s_val 67 rfl rfl (.slice ao W.length cap) (rfl) ?_
        refine nr ?_; intro U h; simp only [z0, z1] at h; subst h
        refine s_val 68 rfl rfl (.int .i64 ((W.length : Nat) : Int)) (run_len Try.underlying22 _ rfl _ _ _ rfl _) ?_
        refine nr ?_; intro U h; simp only [z0, z1] at h; subst h
        cases hb1 : decide (((n + 1 : Nat) : Int) < ((W.length : Nat) : Int))
        · refine s_val 69 rfl rfl (.bool false) (run_lssT 3 _ _ _ rfl ((n + 1 : Nat) : Int) ((W.length : Nat) : Int) rfl rfl false hb1 _) ?_
          refine nr ?_; intro U h; simp only [z0, z1] at h; subst h
          refine wpList_nil ?_
          refine then_n ?_
          refine wp_cond_false rfl ?_
          refine wp_skip ?_
          refine then_n ?_
          refine wp_seq ?_
          refine wp_region_lit ?_
          refine s_val 76 rfl rfl (.pointer (some ⟨t, 0, none⟩)) (rfl) ?_
          refine nr ?_; intro U h; simp only [z0, z1] at h; subst h
          refine s_val 77 rfl rfl (.agg (enA (⟨p, i1 1, i1 2, -1, -1⟩ : En))) (ldE0 _ rfl g2 rfl (kg2)) ?_
          refine nr ?_; intro U h; simp only [z0, z1] at h; subst h
          have hna : naL W n = -1 := (by unfold naL; rw [if_pos (by have := of_decide_eq_false hp0; omega)])
          have hnb : nbL W n = -1 := (by unfold nbL; rw [if_neg (by have := of_decide_eq_false hb1; omega)])
          have hxe : xL W p n = (⟨p, i1 1, i1 2, -1, -1⟩ : En) := by unfold xL; rw [hna, hnb]
          refine s_callx 78 rfl rfl _ 11 Try.call11 rfl rfl _ rfl [.pointer (some ⟨t, 0, none⟩), .agg (enA (⟨p, i1 1, i1 2, -1, -1⟩ : En))] rfl (by rw [← hxe]; exact add_any _ t b 2 [] kt HTt (xL W p n) (xL_ok hW hp n)) (by rintro _ _ ⟨he, _⟩; exact ⟨_, he⟩) ?_
          rintro v w5 ⟨he, HT2, G2⟩
          cases he
          replace kg1 := G2.has kg1 (by simpa using HTt.nec kg1)
          replace kt := G2.has kt (by simpa using HTt.nec kt)
          replace HV := HV.mapw HTt G2
          replace HT_ := HT_.mapw HTt G2
          replace HB := HB.mapn HTt G2 hbn
          replace HZ := HZ.le G2.size
          replace GG := G2.gro GG (by simpa using bb)
          clear HTt G2
          have HTt := HT2
          clear HT2
          replace HB := HB.snoc kt HTt hbn
          clear HTt kt
          refine nr ?_; intro U h; simp only [z0, z1] at h; subst h
          refine wpList_nil ?_
          refine then_n ?_
          refine wp_region_lit ?_
          refine s_val 79 rfl rfl (.slice ta ts.length tc) (rfl) ?_
          refine nr ?_; intro U h; simp only [z0, z1] at h; subst h
          refine s_val 80 rfl rfl (.pointer (some ⟨t, 0, none⟩)) (rfl) ?_
          refine nr ?_; intro U h; simp only [z0, z1] at h; subst h
          refine s_bsl 81 rfl rfl 27 1 _ rfl [(0, .pointer (some ⟨t, 0, none⟩))] rfl (([t] : List Nat).flatMap kT.E).toArray 37 (bsT1 _ _) ?_
          intro w6 qT G eqT kqT
          replace kg1 := G.has kg1
          replace HZ := HZ.gro G
          replace HV := HV.gro G
          replace HT_ := HT_.gro G
          replace HB := HB.gro G
          replace GG := GG.trans G
          clear G
          clear eqT
          refine nr ?_; intro U h; simp only [z0, z1] at h; subst h
          refine s_appK rT (by decide) (by decide) 82 rfl rfl _ _ rfl rfl HT_ (l' := [t]) rfl (RK.blk (K := kT) kqT (fun _ _ => trivial) (Nat.le_refl _)) (by show _ + 1 ≤ _; omega) HZ ?_
          intro nta ntc w7 HO2 G2 _
          replace kg1 := G2.has kg1 (fun hm9 => by have := HT_.own.base g1 hm9; omega)
          replace HV := HV.gros G2 (fun k hk hm9 => by have h1 := hWb k hk; have := HT_.own.base k hm9; omega)
          replace HB := HB.gros G2 (fun k hk => by obtain ⟨_, c9, hc9⟩ := HT_.own.at k hk; exact ⟨c9, _, hc9, by decide⟩)
          replace HZ := HZ.le G2.size
          replace GG := G2.gro GG (fun k hk => by have := HT_.own.base k hk; omega)
          clear G2 HT_ kqT
          have HT_ := HO2
          clear HO2
          refine nr ?_; intro U h; simp only [z0, z1] at h; subst h
          refine s_val 12 rfl rfl (.slice nta (ts ++ [t]).length ntc) (rfl) ?_
          refine nr ?_; intro U h; simp only [z0, z1] at h; subst h
          refine wpList_nil ?_
          refine blk_n ?_
          refine then_n ?_
          refine wp_region_lit ?_
          refine s_val 83 rfl rfl (.int .i64 ((n + 1 : Nat) : Int)) (run_addI 3 _ _ _ rfl ((n : Nat) : Int) 1 ((n + 1 : Nat) : Int) rfl rfl (by omega) (by omega) (by omega) _) ?_
          refine nr ?_; intro U h; simp only [z0, z1] at h; subst h
          refine s_val 49 rfl rfl (.int .i64 ((n + 1 : Nat) : Int)) (rfl) ?_
          refine nr ?_; intro U h; simp only [z0, z1] at h; subst h
          refine wpList_nil ?_
          refine then_n ?_
          exact ⟨W.length + 1 - (n + 1), by omega, n + 1, nta, ntc, ts ++ [t], bs ++ [b], (fun kz => ([.int .i64 ((n : Nat) : Int), .pointer (some ⟨t, 0, none⟩), .pointer (some ⟨g2, 0, none⟩), .bool true, .int .i64 ((n : Nat) : Int), .pointer (some ⟨t, 0, none⟩), .agg (paA p), .agg (idA (i1 1)), .agg (idA (i1 2)), .agg (enA (⟨p, i1 1, i1 2, -1, -1⟩ : En)), .int .i64 ((n : Nat) : Int), .bool false, us2 12, us2 13, us2 14, us2 15, us2 16, us2 17, .int .i64 ((n : Nat) : Int), .int .i64 ((n + 1 : Nat) : Int), .slice ao W.length cap, .int .i64 ((W.length : Nat) : Int), .bool false, us2 23, us2 24, us2 25, us2 26, us2 27, us2 28, .pointer (some ⟨t, 0, none⟩), .agg (enA (⟨p, i1 1, i1 2, -1, -1⟩ : En)), .int .i64 (addC 2 [] (xL W p n)), .slice ta ts.length tc, .pointer (some ⟨t, 0, none⟩), .slice (some ⟨qT, 0, none⟩) 1 1, .slice nta (ts ++ [t]).length ntc, .int .i64 ((n + 1 : Nat) : Int)] : List Value).getD kz undef), rfl, rfl, by omega, GG, HZ, kg1, HV, HT_, HB, ge_snoc hlb hbb bb⟩
        · have hb1l : n + 1 < W.length := by have := of_decide_eq_true hb1; omega
          refine s_val 69 rfl rfl (.bool true) (run_lssT 3 _ _ _ rfl ((n + 1 : Nat) : Int) ((W.length : Nat) : Int) rfl rfl true hb1 _) ?_
          refine nr ?_; intro U h; simp only [z0, z1] at h; subst h
          refine wpList_nil ?_
          refine then_n ?_
          refine wp_cond_true rfl ?_
          refine wp_region_lit ?_
          refine s_val 70 rfl rfl (.slice ao W.length cap) (rfl) ?_
          refine nr ?_; intro U h; simp only [z0, z1] at h; subst h
          refine s_val 71 rfl rfl (.int .i64 ((n : Nat) : Int)) (rfl) ?_
          refine nr ?_; intro U h; simp only [z0, z1] at h; subst h
          refine s_val 72 rfl rfl (.int .i64 ((n + 1 : Nat) : Int)) (run_addI 3 _ _ _ rfl ((n : Nat) : Int) 1 ((n + 1 : Nat) : Int) rfl rfl (by omega) (by omega) (by omega) _) ?_
          refine nr ?_; intro U h; simp only [z0, z1] at h; subst h
          refine s_val 73 rfl rfl (.pointer (pK kZ ao (n + 1) 0)) (run_ixK rZ (HV.re) _ _ rfl rfl (n + 1) rfl (by omega)) ?_
          refine nr ?_; intro U h; simp only [z0, z1] at h; subst h
          refine s_val 74 rfl rfl (.int .i64 (W.getD (n + 1) 0)) (run_ldZ (HV.re) _ rfl (n + 1) rfl (by omega)) ?_
          refine nr ?_; intro U h; simp only [z0, z1] at h; subst h
          refine s_val 75 rfl rfl (.pointer (some ⟨g2, 50, none⟩)) (run_fld 39 _ 4 rfl g2 0 rfl 50 (by kernel_rfl)) ?_
          refine nr ?_; intro U h; simp only [z0, z1] at h; subst h
          refine s_store rfl rfl 3 _ _ rfl g2 50 rfl (.int .i64 (W.getD (n + 1) 0)) rfl 39 _ kg2 #[.int .i64 (W.getD (n + 1) 0)] rfl (si3) (by rw [enA_size]; show 50 + 1 ≤ 51; omega) (i_one _) (enA (⟨p, i1 1, i1 2, -1, (W.getD (n + 1) 0)⟩ : En)) (spE_nb _ _) ?_
          intro w5 St
          have kS := kg2
          replace kg1 := St.has (by omega) kg1
          replace kt := St.has (by omega) kt
          replace HZ := HZ.st St dHZg2
          replace HV := HV.st St dHVg2
          replace HT_ := HT_.st St dHT_g2
          replace HB := HB.st St kS (by decide)
          replace HTt := HTt.st St dHTtg2
          replace GG := GG.store St bg2
          replace kg2 := St.new
          clear St
          refine wpList_nil ?_
          refine then_n ?_
          refine wp_seq ?_
          refine wp_region_lit ?_
          refine s_val 76 rfl rfl (.pointer (some ⟨t, 0, none⟩)) (rfl) ?_
          refine nr ?_; intro U h; simp only [z0, z1] at h; subst h
          refine s_val 77 rfl rfl (.agg (enA (⟨p, i1 1, i1 2, -1, (W.getD (n + 1) 0)⟩ : En))) (ldE0 _ rfl g2 rfl (kg2)) ?_
          refine nr ?_; intro U h; simp only [z0, z1] at h; subst h
          have hna : naL W n = -1 := (by unfold naL; rw [if_pos (by have := of_decide_eq_false hp0; omega)])
          have hnb : nbL W n = W.getD (n + 1) 0 := (by unfold nbL; rw [if_pos (by have := of_decide_eq_true hb1; omega)])
          have hxe : xL W p n = (⟨p, i1 1, i1 2, -1, (W.getD (n + 1) 0)⟩ : En) := by unfold xL; rw [hna, hnb]
          refine s_callx 78 rfl rfl _ 11 Try.call11 rfl rfl _ rfl [.pointer (some ⟨t, 0, none⟩), .agg (enA (⟨p, i1 1, i1 2, -1, (W.getD (n + 1) 0)⟩ : En))] rfl (by rw [← hxe]; exact add_any _ t b 2 [] kt HTt (xL W p n) (xL_ok hW hp n)) (by rintro _ _ ⟨he, _⟩; exact ⟨_, he⟩) ?_
          rintro v w6 ⟨he, HT2, G2⟩
          cases he
          replace kg1 := G2.has kg1 (by simpa using HTt.nec kg1)
          replace kt := G2.has kt (by simpa using HTt.nec kt)
          replace HV := HV.mapw HTt G2
          replace HT_ := HT_.mapw HTt G2
          replace HB := HB.mapn HTt G2 hbn
          replace HZ := HZ.le G2.size
          replace GG := G2.gro GG (by simpa using bb)
          clear HTt G2
          have HTt := HT2
          clear HT2
          replace HB := HB.snoc kt HTt hbn
          clear HTt kt
          refine nr ?_; intro U h; simp only [z0, z1] at h; subst h
          refine wpList_nil ?_
          refine then_n ?_
          refine wp_region_lit ?_
          refine s_val 79 rfl rfl (.slice ta ts.length tc) (rfl) ?_
          refine nr ?_; intro U h; simp only [z0, z1] at h; subst h
          refine s_val 80 rfl rfl (.pointer (some ⟨t, 0, none⟩)) (rfl) ?_
          refine nr ?_; intro U h; simp only [z0, z1] at h; subst h
          refine s_bsl 81 rfl rfl 27 1 _ rfl [(0, .pointer (some ⟨t, 0, none⟩))] rfl (([t] : List Nat).flatMap kT.E).toArray 37 (bsT1 _ _) ?_
          intro w7 qT G eqT kqT
          replace kg1 := G.has kg1
          replace HZ := HZ.gro G
          replace HV := HV.gro G
          replace HT_ := HT_.gro G
          replace HB := HB.gro G
          replace GG := GG.trans G
          clear G
          clear eqT
          refine nr ?_; intro U h; simp only [z0, z1] at h; subst h
          refine s_appK rT (by decide) (by decide) 82 rfl rfl _ _ rfl rfl HT_ (l' := [t]) rfl (RK.blk (K := kT) kqT (fun _ _ => trivial) (Nat.le_refl _)) (by show _ + 1 ≤ _; omega) HZ ?_
          intro nta ntc w8 HO2 G2 _
          replace kg1 := G2.has kg1 (fun hm9 => by have := HT_.own.base g1 hm9; omega)
          replace HV := HV.gros G2 (fun k hk hm9 => by have h1 := hWb k hk; have := HT_.own.base k hm9; omega)
          replace HB := HB.gros G2 (fun k hk => by obtain ⟨_, c9, hc9⟩ := HT_.own.at k hk; exact ⟨c9, _, hc9, by decide⟩)
          replace HZ := HZ.le G2.size
          replace GG := G2.gro GG (fun k hk => by have := HT_.own.base k hk; omega)
          clear G2 HT_ kqT
          have HT_ := HO2
          clear HO2
          refine nr ?_; intro U h; simp only [z0, z1] at h; subst h
          refine s_val 12 rfl rfl (.slice nta (ts ++ [t]).length ntc) (rfl) ?_
          refine nr ?_; intro U h; simp only [z0, z1] at h; subst h
          refine wpList_nil ?_
          refine blk_n ?_
          refine then_n ?_
          refine wp_region_lit ?_
          refine s_val 83 rfl rfl (.int .i64 ((n + 1 : Nat) : Int)) (run_addI 3 _ _ _ rfl ((n : Nat) : Int) 1 ((n + 1 : Nat) : Int) rfl rfl (by omega) (by omega) (by omega) _) ?_
          refine nr ?_; intro U h; simp only [z0, z1] at h; subst h
          refine s_val 49 rfl rfl (.int .i64 ((n + 1 : Nat) : Int)) (rfl) ?_
          refine nr ?_; intro U h; simp only [z0, z1] at h; subst h
          refine wpList_nil ?_
          refine then_n ?_
          exact ⟨W.length + 1 - (n + 1), by omega, n + 1, nta, ntc, ts ++ [t], bs ++ [b], (fun kz => ([.int .i64 ((n : Nat) : Int), .pointer (some ⟨t, 0, none⟩), .pointer (some ⟨g2, 0, none⟩), .bool true, .int .i64 ((n : Nat) : Int), .pointer (some ⟨t, 0, none⟩), .agg (paA p), .agg (idA (i1 1)), .agg (idA (i1 2)), .agg (enA (⟨p, i1 1, i1 2, -1, -1⟩ : En)), .int .i64 ((n : Nat) : Int), .bool false, us2 12, us2 13, us2 14, us2 15, us2 16, us2 17, .int .i64 ((n : Nat) : Int), .int .i64 ((n + 1 : Nat) : Int), .slice ao W.length cap, .int .i64 ((W.length : Nat) : Int), .bool true, .slice ao W.length cap, .int .i64 ((n : Nat) : Int), .int .i64 ((n + 1 : Nat) : Int), .pointer (pK kZ ao (n + 1) 0), .int .i64 (W.getD (n + 1) 0), .pointer (some ⟨g2, 50, none⟩), .pointer (some ⟨t, 0, none⟩), .agg (enA (⟨p, i1 1, i1 2, -1, (W.getD (n + 1) 0)⟩ : En)), .int .i64 (addC 2 [] (xL W p n)), .slice ta ts.length tc, .pointer (some ⟨t, 0, none⟩), .slice (some ⟨qT, 0, none⟩) 1 1, .slice nta (ts ++ [t]).length ntc, .int .i64 ((n + 1 : Nat) : Int)] : List Value).getD kz undef), rfl, rfl, by omega, GG, HZ, kg1, HV, HT_, HB, ge_snoc hlb hbb bb⟩
      · have hp0l : 0 < n := by have := of_decide_eq_true hp0; omega
        refine s_val 58 rfl rfl (.bool true) (run_gtrT 3 _ _ _ rfl ((n : Nat) : Int) 0 rfl rfl true hp0 _) ?_
        refine nr ?_; intro U h; simp only [z0, z1] at h; subst h
        refine wpList_nil ?_
        refine then_n ?_
        refine wp_cond_true rfl ?_
        refine wp_region_lit ?_
        refine s_val 59 rfl rfl (.slice ao W.length cap) (rfl) ?_
        refine nr ?_; intro U h; simp only [z0, z1] at h; subst h
        refine s_val 60 rfl rfl (.int .i64 ((n : Nat) : Int)) (rfl) ?_
        refine nr ?_; intro U h; simp only [z0, z1] at h; subst h
        refine s_val 61 rfl rfl (.int .i64 ((n - 1 : Nat) : Int)) (run_subI 3 _ _ _ rfl ((n : Nat) : Int) 1 ((n - 1 : Nat) : Int) rfl rfl (by omega) (by omega) (by omega) _) ?_
        refine nr ?_; intro U h; simp only [z0, z1] at h; subst h
        refine s_val 62 rfl rfl (.pointer (pK kZ ao (n - 1) 0)) (run_ixK rZ (HV.re) _ _ rfl rfl (n - 1) rfl (by omega)) ?_
        refine nr ?_; intro U h; simp only [z0, z1] at h; subst h
        refine s_val 63 rfl rfl (.int .i64 (W.getD (n - 1) 0)) (run_ldZ (HV.re) _ rfl (n - 1) rfl (by omega)) ?_
        refine nr ?_; intro U h; simp only [z0, z1] at h; subst h
        refine s_val 64 rfl rfl (.pointer (some ⟨g2, 49, none⟩)) (run_fld 39 _ 3 rfl g2 0 rfl 49 (by kernel_rfl)) ?_
        refine nr ?_; intro U h; simp only [z0, z1] at h; subst h
        refine s_store rfl rfl 3 _ _ rfl g2 49 rfl (.int .i64 (W.getD (n - 1) 0)) rfl 39 _ kg2 #[.int .i64 (W.getD (n - 1) 0)] rfl (si3) (by rw [enA_size]; show 49 + 1 ≤ 51; omega) (i_one _) (enA (⟨p, i1 1, i1 2, (W.getD (n - 1) 0), -1⟩ : En)) (spE_na _ _) ?_
        intro w5 St
        have kS := kg2
        replace kg1 := St.has (by omega) kg1
        replace kt := St.has (by omega) kt
        replace HZ := HZ.st St dHZg2
        replace HV := HV.st St dHVg2
        replace HT_ := HT_.st St dHT_g2
        replace HB := HB.st St kS (by decide)
        replace HTt := HTt.st St dHTtg2
        replace GG := GG.store St bg2
        replace kg2 := St.new
        clear St
        refine wpList_nil ?_
        refine then_n ?_
        refine wp_seq ?_
        refine wp_seq ?_
        refine wp_region_lit ?_
        refine s_val 65 rfl rfl (.int .i64 ((n : Nat) : Int)) (rfl) ?_
        refine nr ?_; intro U h; simp only [z0, z1] at h; subst h
        refine s_val 66 rfl rfl (.int .i64 ((n + 1 : Nat) : Int)) (run_addI 3 _ _ _ rfl ((n : Nat) : Int) 1 ((n + 1 : Nat) : Int) rfl rfl (by omega) (by omega) (by omega) _) ?_
        refine nr ?_; intro U h; simp only [z0, z1] at h; subst h
        refine s_val 67 rfl rfl (.slice ao W.length cap) (rfl) ?_
        refine nr ?_; intro U h; simp only [z0, z1] at h; subst h
        refine s_val 68 rfl rfl (.int .i64 ((W.length : Nat) : Int)) (run_len Try.underlying22 _ rfl _ _ _ rfl _) ?_
        refine nr ?_; intro U h; simp only [z0, z1] at h; subst h
        cases hb1 : decide (((n + 1 : Nat) : Int) < ((W.length : Nat) : Int))
        · refine s_val 69 rfl rfl (.bool false) (run_lssT 3 _ _ _ rfl ((n + 1 : Nat) : Int) ((W.length : Nat) : Int) rfl rfl false hb1 _) ?_
          refine nr ?_; intro U h; simp only [z0, z1] at h; subst h
          refine wpList_nil ?_
          refine then_n ?_
          refine wp_cond_false rfl ?_
          refine wp_skip ?_
          refine then_n ?_
          refine wp_seq ?_
          refine wp_region_lit ?_
          refine s_val 76 rfl rfl (.pointer (some ⟨t, 0, none⟩)) (rfl) ?_
          refine nr ?_; intro U h; simp only [z0, z1] at h; subst h
          refine s_val 77 rfl rfl (.agg (enA (⟨p, i1 1, i1 2, (W.getD (n - 1) 0), -1⟩ : En))) (ldE0 _ rfl g2 rfl (kg2)) ?_
          refine nr ?_; intro U h; simp only [z0, z1] at h; subst h
          have hna : naL W n = W.getD (n - 1) 0 := (by unfold naL; rw [if_neg (by have := of_decide_eq_true hp0; omega)])
          have hnb : nbL W n = -1 := (by unfold nbL; rw [if_neg (by have := of_decide_eq_false hb1; omega)])
          have hxe : xL W p n = (⟨p, i1 1, i1 2, (W.getD (n - 1) 0), -1⟩ : En) := by unfold xL; rw [hna, hnb]
          refine s_callx 78 rfl rfl _ 11 Try.call11 rfl rfl _ rfl [.pointer (some ⟨t, 0, none⟩), .agg (enA (⟨p, i1 1, i1 2, (W.getD (n - 1) 0), -1⟩ : En))] rfl (by rw [← hxe]; exact add_any _ t b 2 [] kt HTt (xL W p n) (xL_ok hW hp n)) (by rintro _ _ ⟨he, _⟩; exact ⟨_, he⟩) ?_
          rintro v w6 ⟨he, HT2, G2⟩
          cases he
          replace kg1 := G2.has kg1 (by simpa using HTt.nec kg1)
          replace kt := G2.has kt (by simpa using HTt.nec kt)
          replace HV := HV.mapw HTt G2
          replace HT_ := HT_.mapw HTt G2
          replace HB := HB.mapn HTt G2 hbn
          replace HZ := HZ.le G2.size
          replace GG := G2.gro GG (by simpa using bb)
          clear HTt G2
          have HTt := HT2
          clear HT2
          replace HB := HB.snoc kt HTt hbn
          clear HTt kt
          refine nr ?_; intro U h; simp only [z0, z1] at h; subst h
          refine wpList_nil ?_
          refine then_n ?_
          refine wp_region_lit ?_
          refine s_val 79 rfl rfl (.slice ta ts.length tc) (rfl) ?_
          refine nr ?_; intro U h; simp only [z0, z1] at h; subst h
          refine s_val 80 rfl rfl (.pointer (some ⟨t, 0, none⟩)) (rfl) ?_
          refine nr ?_; intro U h; simp only [z0, z1] at h; subst h
          refine s_bsl 81 rfl rfl 27 1 _ rfl [(0, .pointer (some ⟨t, 0, none⟩))] rfl (([t] : List Nat).flatMap kT.E).toArray 37 (bsT1 _ _) ?_
          intro w7 qT G eqT kqT
          replace kg1 := G.has kg1
          replace HZ := HZ.gro G
          replace HV := HV.gro G
          replace HT_ := HT_.gro G
          replace HB := HB.gro G
          replace GG := GG.trans G
          clear G
          clear eqT
          refine nr ?_; intro U h; simp only [z0, z1] at h; subst h
          refine s_appK rT (by decide) (by decide) 82 rfl rfl _ _ rfl rfl HT_ (l' := [t]) rfl (RK.blk (K := kT) kqT (fun _ _ => trivial) (Nat.le_refl _)) (by show _ + 1 ≤ _; omega) HZ ?_
          intro nta ntc w8 HO2 G2 _
          replace kg1 := G2.has kg1 (fun hm9 => by have := HT_.own.base g1 hm9; omega)
          replace HV := HV.gros G2 (fun k hk hm9 => by have h1 := hWb k hk; have := HT_.own.base k hm9; omega)
          replace HB := HB.gros G2 (fun k hk => by obtain ⟨_, c9, hc9⟩ := HT_.own.at k hk; exact ⟨c9, _, hc9, by decide⟩)
          replace HZ := HZ.le G2.size
          replace GG := G2.gro GG (fun k hk => by have := HT_.own.base k hk; omega)
          clear G2 HT_ kqT
          have HT_ := HO2
          clear HO2
          refine nr ?_; intro U h; simp only [z0, z1] at h; subst h
          refine s_val 12 rfl rfl (.slice nta (ts ++ [t]).length ntc) (rfl) ?_
          refine nr ?_; intro U h; simp only [z0, z1] at h; subst h
          refine wpList_nil ?_
          refine blk_n ?_
          refine then_n ?_
          refine wp_region_lit ?_
          refine s_val 83 rfl rfl (.int .i64 ((n + 1 : Nat) : Int)) (run_addI 3 _ _ _ rfl ((n : Nat) : Int) 1 ((n + 1 : Nat) : Int) rfl rfl (by omega) (by omega) (by omega) _) ?_
          refine nr ?_; intro U h; simp only [z0, z1] at h; subst h
          refine s_val 49 rfl rfl (.int .i64 ((n + 1 : Nat) : Int)) (rfl) ?_
          refine nr ?_; intro U h; simp only [z0, z1] at h; subst h
          refine wpList_nil ?_
          refine then_n ?_
          exact ⟨W.length + 1 - (n + 1), by omega, n + 1, nta, ntc, ts ++ [t], bs ++ [b], (fun kz => ([.int .i64 ((n : Nat) : Int), .pointer (some ⟨t, 0, none⟩), .pointer (some ⟨g2, 0, none⟩), .bool true, .int .i64 ((n : Nat) : Int), .pointer (some ⟨t, 0, none⟩), .agg (paA p), .agg (idA (i1 1)), .agg (idA (i1 2)), .agg (enA (⟨p, i1 1, i1 2, -1, -1⟩ : En)), .int .i64 ((n : Nat) : Int), .bool true, .slice ao W.length cap, .int .i64 ((n : Nat) : Int), .int .i64 ((n - 1 : Nat) : Int), .pointer (pK kZ ao (n - 1) 0), .int .i64 (W.getD (n - 1) 0), .pointer (some ⟨g2, 49, none⟩), .int .i64 ((n : Nat) : Int), .int .i64 ((n + 1 : Nat) : Int), .slice ao W.length cap, .int .i64 ((W.length : Nat) : Int), .bool false, us2 23, us2 24, us2 25, us2 26, us2 27, us2 28, .pointer (some ⟨t, 0, none⟩), .agg (enA (⟨p, i1 1, i1 2, (W.getD (n - 1) 0), -1⟩ : En)), .int .i64 (addC 2 [] (xL W p n)), .slice ta ts.length tc, .pointer (some ⟨t, 0, none⟩), .slice (some ⟨qT, 0, none⟩) 1 1, .slice nta (ts ++ [t]).length ntc, .int .i64 ((n + 1 : Nat) : Int)] : List Value).getD kz undef), rfl, rfl, by omega, GG, HZ, kg1, HV, HT_, HB, ge_snoc hlb hbb bb⟩
        · have hb1l : n + 1 < W.length := by have := of_decide_eq_true hb1; omega
          refine s_val 69 rfl rfl (.bool true) (run_lssT 3 _ _ _ rfl ((n + 1 : Nat) : Int) ((W.length : Nat) : Int) rfl rfl true hb1 _) ?_
          refine nr ?_; intro U h; simp only [z0, z1] at h; subst h
          refine wpList_nil ?_
          refine then_n ?_
          refine wp_cond_true rfl ?_
          refine wp_region_lit ?_
          refine s_val 70 rfl rfl (.slice ao W.length cap) (rfl) ?_
          refine nr ?_; intro U h; simp only [z0, z1] at h; subst h
          refine s_val 71 rfl rfl (.int .i64 ((n : Nat) : Int)) (rfl) ?_
          refine nr ?_; intro U h; simp only [z0, z1] at h; subst h
          refine s_val 72 rfl rfl (.int .i64 ((n + 1 : Nat) : Int)) (run_addI 3 _ _ _ rfl ((n : Nat) : Int) 1 ((n + 1 : Nat) : Int) rfl rfl (by omega) (by omega) (by omega) _) ?_
          refine nr ?_; intro U h; simp only [z0, z1] at h; subst h
          refine s_val 73 rfl rfl (.pointer (pK kZ ao (n + 1) 0)) (run_ixK rZ (HV.re) _ _ rfl rfl (n + 1) rfl (by omega)) ?_
          refine nr ?_; intro U h; simp only [z0, z1] at h; subst h
          refine s_val 74 rfl rfl (.int .i64 (W.getD (n + 1) 0)) (run_ldZ (HV.re) _ rfl (n + 1) rfl (by omega)) ?_
          refine nr ?_; intro U h; simp only [z0, z1] at h; subst h
          refine s_val 75 rfl rfl (.pointer (some ⟨g2, 50, none⟩)) (run_fld 39 _ 4 rfl g2 0 rfl 50 (by kernel_rfl)) ?_
          refine nr ?_; intro U h; simp only [z0, z1] at h; subst h
          refine s_store rfl rfl 3 _ _ rfl g2 50 rfl (.int .i64 (W.getD (n + 1) 0)) rfl 39 _ kg2 #[.int .i64 (W.getD (n + 1) 0)] rfl (si3) (by rw [enA_size]; show 50 + 1 ≤ 51; omega) (i_one _) (enA (⟨p, i1 1, i1 2, (W.getD (n - 1) 0), (W.getD (n + 1) 0)⟩ : En)) (spE_nb _ _) ?_
          intro w6 St
          have kS := kg2
          replace kg1 := St.has (by omega) kg1
          replace kt := St.has (by omega) kt
          replace HZ := HZ.st St dHZg2
          replace HV := HV.st St dHVg2
          replace HT_ := HT_.st St dHT_g2
          replace HB := HB.st St kS (by decide)
          replace HTt := HTt.st St dHTtg2
          replace GG := GG.store St bg2
          replace kg2 := St.new
          clear St
          refine wpList_nil ?_
          refine then_n ?_
          refine wp_seq ?_
          refine wp_region_lit ?_
          refine s_val 76 rfl rfl (.pointer (some ⟨t, 0, none⟩)) (rfl) ?_
          refine nr ?_; intro U h; simp only [z0, z1] at h; subst h
          refine s_val 77 rfl rfl (.agg (enA (⟨p, i1 1, i1 2, (W.getD (n - 1) 0), (W.getD (n + 1) 0)⟩ : En))) (ldE0 _ rfl g2 rfl (kg2)) ?_
          refine nr ?_; intro U h; simp only [z0, z1] at h; subst h
          have hna : naL W n = W.getD (n - 1) 0 := (by unfold naL; rw [if_neg (by have := of_decide_eq_true hp0; omega)])
          have hnb : nbL W n = W.getD (n + 1) 0 := (by unfold nbL; rw [if_pos (by have := of_decide_eq_true hb1; omega)])
          have hxe : xL W p n = (⟨p, i1 1, i1 2, (W.getD (n - 1) 0), (W.getD (n + 1) 0)⟩ : En) := by unfold xL; rw [hna, hnb]
          refine s_callx 78 rfl rfl _ 11 Try.call11 rfl rfl _ rfl [.pointer (some ⟨t, 0, none⟩), .agg (enA (⟨p, i1 1, i1 2, (W.getD (n - 1) 0), (W.getD (n + 1) 0)⟩ : En))] rfl (by rw [← hxe]; exact add_any _ t b 2 [] kt HTt (xL W p n) (xL_ok hW hp n)) (by rintro _ _ ⟨he, _⟩; exact ⟨_, he⟩) ?_
          rintro v w7 ⟨he, HT2, G2⟩
          cases he
          replace kg1 := G2.has kg1 (by simpa using HTt.nec kg1)
          replace kt := G2.has kt (by simpa using HTt.nec kt)
          replace HV := HV.mapw HTt G2
          replace HT_ := HT_.mapw HTt G2
          replace HB := HB.mapn HTt G2 hbn
          replace HZ := HZ.le G2.size
          replace GG := G2.gro GG (by simpa using bb)
          clear HTt G2
          have HTt := HT2
          clear HT2
          replace HB := HB.snoc kt HTt hbn
          clear HTt kt
          refine nr ?_; intro U h; simp only [z0, z1] at h; subst h
          refine wpList_nil ?_
          refine then_n ?_
          refine wp_region_lit ?_
          refine s_val 79 rfl rfl (.slice ta ts.length tc) (rfl) ?_
          refine nr ?_; intro U h; simp only [z0, z1] at h; subst h
          refine s_val 80 rfl rfl (.pointer (some ⟨t, 0, none⟩)) (rfl) ?_
          refine nr ?_; intro U h; simp only [z0, z1] at h; subst h
          refine s_bsl 81 rfl rfl 27 1 _ rfl [(0, .pointer (some ⟨t, 0, none⟩))] rfl (([t] : List Nat).flatMap kT.E).toArray 37 (bsT1 _ _) ?_
          intro w8 qT G eqT kqT
          replace kg1 := G.has kg1
          replace HZ := HZ.gro G
          replace HV := HV.gro G
          replace HT_ := HT_.gro G
          replace HB := HB.gro G
          replace GG := GG.trans G
          clear G
          clear eqT
          refine nr ?_; intro U h; simp only [z0, z1] at h; subst h
          refine s_appK rT (by decide) (by decide) 82 rfl rfl _ _ rfl rfl HT_ (l' := [t]) rfl (RK.blk (K := kT) kqT (fun _ _ => trivial) (Nat.le_refl _)) (by show _ + 1 ≤ _; omega) HZ ?_
          intro nta ntc w9 HO2 G2 _
          replace kg1 := G2.has kg1 (fun hm9 => by have := HT_.own.base g1 hm9; omega)
          replace HV := HV.gros G2 (fun k hk hm9 => by have h1 := hWb k hk; have := HT_.own.base k hm9; omega)
          replace HB := HB.gros G2 (fun k hk => by obtain ⟨_, c9, hc9⟩ := HT_.own.at k hk; exact ⟨c9, _, hc9, by decide⟩)
          replace HZ := HZ.le G2.size
          replace GG := G2.gro GG (fun k hk => by have := HT_.own.base k hk; omega)
          clear G2 HT_ kqT
          have HT_ := HO2
          clear HO2
          refine nr ?_; intro U h; simp only [z0, z1] at h; subst h
          refine s_val 12 rfl rfl (.slice nta (ts ++ [t]).length ntc) (rfl) ?_
          refine nr ?_; intro U h; simp only [z0, z1] at h; subst h
          refine wpList_nil ?_
          refine blk_n ?_
          refine then_n ?_
          refine wp_region_lit ?_
          refine s_val 83 rfl rfl (.int .i64 ((n + 1 : Nat) : Int)) (run_addI 3 _ _ _ rfl ((n : Nat) : Int) 1 ((n + 1 : Nat) : Int) rfl rfl (by omega) (by omega) (by omega) _) ?_
          refine nr ?_; intro U h; simp only [z0, z1] at h; subst h
          refine s_val 49 rfl rfl (.int .i64 ((n + 1 : Nat) : Int)) (rfl) ?_
          refine nr ?_; intro U h; simp only [z0, z1] at h; subst h
          refine wpList_nil ?_
          refine then_n ?_
          exact ⟨W.length + 1 - (n + 1), by omega, n + 1, nta, ntc, ts ++ [t], bs ++ [b], (fun kz => ([.int .i64 ((n : Nat) : Int), .pointer (some ⟨t, 0, none⟩), .pointer (some ⟨g2, 0, none⟩), .bool true, .int .i64 ((n : Nat) : Int), .pointer (some ⟨t, 0, none⟩), .agg (paA p), .agg (idA (i1 1)), .agg (idA (i1 2)), .agg (enA (⟨p, i1 1, i1 2, -1, -1⟩ : En)), .int .i64 ((n : Nat) : Int), .bool true, .slice ao W.length cap, .int .i64 ((n : Nat) : Int), .int .i64 ((n - 1 : Nat) : Int), .pointer (pK kZ ao (n - 1) 0), .int .i64 (W.getD (n - 1) 0), .pointer (some ⟨g2, 49, none⟩), .int .i64 ((n : Nat) : Int), .int .i64 ((n + 1 : Nat) : Int), .slice ao W.length cap, .int .i64 ((W.length : Nat) : Int), .bool true, .slice ao W.length cap, .int .i64 ((n : Nat) : Int), .int .i64 ((n + 1 : Nat) : Int), .pointer (pK kZ ao (n + 1) 0), .int .i64 (W.getD (n + 1) 0), .pointer (some ⟨g2, 50, none⟩), .pointer (some ⟨t, 0, none⟩), .agg (enA (⟨p, i1 1, i1 2, (W.getD (n - 1) 0), (W.getD (n + 1) 0)⟩ : En)), .int .i64 (addC 2 [] (xL W p n)), .slice ta ts.length tc, .pointer (some ⟨t, 0, none⟩), .slice (some ⟨qT, 0, none⟩) 1 1, .slice nta (ts ++ [t]).length ntc, .int .i64 ((n + 1 : Nat) : Int)] : List Value).getD kz undef), rfl, rfl, by omega, GG, HZ, kg1, HV, HT_, HB, ge_snoc hlb hbb bb⟩
  · have hil : i < l.length := by have := of_decide_eq_true hi1; omega
    refine s_val 19 rfl rfl (.bool true) (run_lssT 3 _ _ _ rfl ((i : Nat) : Int) ((l.length : Nat) : Int) rfl rfl true hi1 _) ?_
    refine nr ?_; intro U h; simp only [z0, z1] at h; subst h
    refine wpList_nil ?_
    refine then_n ?_
    refine wp_seq ?_
    refine wp_cond_true rfl ?_
    refine wp_skip ?_
    refine then_n ?_
    refine wp_seq ?_
    refine wp_block ?_
    refine wp_seq ?_
    refine wp_region_lit ?_
    refine s_val 20 rfl rfl (.pointer (pK kZ ao0 i 0)) (run_ixK rZ (H.gro GG) _ _ rfl rfl i rfl (by omega)) ?_
    refine nr ?_; intro U h; simp only [z0, z1] at h; subst h
    refine s_val 21 rfl rfl (.int .i64 (l.getD i 0)) (run_ldZ (H.gro GG) _ rfl i rfl (by omega)) ?_
    refine nr ?_; intro U h; simp only [z0, z1] at h; subst h
    refine s_val 8 rfl rfl (.int .i64 (l.getD i 0)) (rfl) ?_
    refine nr ?_; intro U h; simp only [z0, z1] at h; subst h
    refine wpList_nil ?_
    refine then_n ?_
    refine wp_seq ?_
    refine wp_region_opq ?_
    intro OPS hY
    have y2 := hY 2 24 rfl
    clear hY
    refine s_val 22 rfl rfl (.int .i64 (l.getD i 0)) (rfl) ?_
    refine nr ?_; intro U h; simp only [z0, z1] at h; subst h
    cases ha : decide (0 ≤ (l.getD i 0))
    · refine s_val 23 rfl rfl (.bool false) (run_geqT 3 _ _ _ rfl (l.getD i 0) 0 rfl rfl false ha _) ?_
      refine nr ?_; intro U h; simp only [z0, z1] at h; subst h
      refine s_val 24 rfl rfl (.bool false) (rfl) ?_
      refine nr ?_; intro U h; simp only [z0, z1] at h; subst h
      refine s_skipY 25 rfl rfl y2 rfl ?_
      refine nr ?_; intro U h; simp only [z0, z1] at h; subst h
      refine s_skipY 26 rfl rfl y2 rfl ?_
      refine nr ?_; intro U h; simp only [z0, z1] at h; subst h
      refine s_val 27 rfl rfl (.bool false) (rfl) ?_
      refine nr ?_; intro U h; simp only [z0, z1] at h; subst h
      refine s_val 9 rfl rfl (.bool false) (rfl) ?_
      refine nr ?_; intro U h; simp only [z0, z1] at h; subst h
      refine wpList_nil ?_
      refine then_n ?_
      refine wp_seq ?_
      refine wp_seq ?_
      refine wp_region_lit ?_
      refine s_val 28 rfl rfl (.slice ao W.length cap) (rfl) ?_
      refine nr ?_; intro U h; simp only [z0, z1] at h; subst h
      refine s_val 29 rfl rfl (.int .i64 ((W.length : Nat) : Int)) (run_len Try.underlying22 _ rfl _ _ _ rfl _) ?_
      refine nr ?_; intro U h; simp only [z0, z1] at h; subst h
      refine s_val 30 rfl rfl (.int .i64 0) (rfl) ?_
      refine nr ?_; intro U h; simp only [z0, z1] at h; subst h
      refine wpList_nil ?_
      refine then_n ?_
      refine wp_block ?_
      refine wp_loopN (fun mz az wv => ∃ (j : Nat) (q : Bool) (us2 : Nat → Value), mz = W.length + 1 - j ∧ az = ⟨[.slice ao0 l.length cap0, .agg (paA p), undef, .pointer (some ⟨g1, 0, none⟩), .slice none 0 0, .slice none 0 0, .slice ao W.length cap, undef, .int .i64 (l.getD i 0), .bool q, undef, us2 0, undef, undef, undef, undef, .slice ao0 l.length cap0, .int .i64 ((l.length : Nat) : Int), .int .i64 ((i : Nat) : Int), .bool true, .pointer (pK kZ ao0 i 0), .int .i64 (l.getD i 0), .int .i64 (l.getD i 0), .bool false, .bool false, undef, undef, .bool false, .slice ao W.length cap, .int .i64 ((W.length : Nat) : Int), .int .i64 ((j : Nat) : Int), us2 1, us2 2, us2 3, us2 4, us2 5, us2 6, us2 7, us2 8, us2 9, us2 10, us1 25, us1 26, us1 27, us1 28, us1 29, us1 30, undef, undef, undef, undef, undef, undef, undef, undef, undef, undef, undef, undef, undef, undef, undef, undef, undef, undef, undef, undef, undef, undef, undef, undef, undef, undef, undef, undef, undef, undef, undef, undef, undef, undef, undef, undef, undef, undef, undef].toArray, []⟩ ∧ j ≤ W.length ∧ (q = true → (0 ≤ (l.getD i 0) ∧ (l.getD i 0) < 6) ∧ (l.getD i 0) ∉ W.take j) ∧ Gro w wv ∧ SZ B wv ∧ wv.heap[g1]? = some (.cells (paA p) 26 (0, 0)) ∧ OW kZ 3 wv B ao cap W) ?_ _ ⟨0, false, (fun kz => ([us1 2, us1 15, us1 16, us1 17, us1 18, us1 19, us1 20, us1 21, us1 22, us1 23, us1 24] : List Value).getD kz undef), rfl, rfl, Nat.zero_le _, (fun h => by cases h), GG, HZ, kg1, HW⟩
      clear GG kg1 HZ HW
      rintro mz az wv ⟨j, q, us2, rfl, rfl, hj, hq, GG, HZ, kg1, HW⟩
      refine wp_seq ?_
      cases q
      · have hq0 := hq
        clear hq
        refine wp_region_lit ?_
        cases hj1 : decide (((j : Nat) : Int) < ((W.length : Nat) : Int))
        · have hje : j = W.length := by have := of_decide_eq_false hj1; omega
          refine s_val 31 rfl rfl (.bool false) (run_lssT 3 _ _ _ rfl ((j : Nat) : Int) ((W.length : Nat) : Int) rfl rfl false hj1 _) ?_
          refine nr ?_; intro U h; simp only [z0, z1] at h; subst h
          refine wpList_nil ?_
          refine then_n ?_
          refine wp_seq ?_
          refine wp_cond_false rfl ?_
          refine wp_exit ?_
          refine then_x ?_
          refine then_x ?_
          refine blk_x ?_
          refine then_n ?_
          refine wp_seq ?_
          refine wp_region_lit ?_
          refine s_val 41 rfl rfl (.bool false) (rfl) ?_
          refine nr ?_; intro U h; simp only [z0, z1] at h; subst h
          refine wpList_nil ?_
          refine then_n ?_
          refine wp_cond_false rfl ?_
          refine wp_skip ?_
          refine blk_n ?_
          refine then_n ?_
          refine wp_region_lit ?_
          refine s_val 46 rfl rfl (.int .i64 ((i + 1 : Nat) : Int)) (run_addI 3 _ _ _ rfl ((i : Nat) : Int) 1 ((i + 1 : Nat) : Int) rfl rfl (by omega) (by omega) (by omega) _) ?_
          refine nr ?_; intro U h; simp only [z0, z1] at h; subst h
          refine s_val 18 rfl rfl (.int .i64 ((i + 1 : Nat) : Int)) (rfl) ?_
          refine nr ?_; intro U h; simp only [z0, z1] at h; subst h
          refine wpList_nil ?_
          refine then_n ?_
          exact ⟨l.length + 1 - (i + 1), by omega, i + 1, ao, cap, W, (fun kz => ([.int .i64 (l.getD i 0), .bool false, us2 0, .bool true, .pointer (pK kZ ao0 i 0), .int .i64 (l.getD i 0), .int .i64 (l.getD i 0), .bool false, .bool false, undef, undef, .bool false, .slice ao W.length cap, .int .i64 ((W.length : Nat) : Int), .int .i64 ((j : Nat) : Int), .bool false, us2 2, us2 3, us2 4, us2 5, us2 6, us2 7, us2 8, us2 9, us2 10, .bool false, us1 26, us1 27, us1 28, us1 29, .int .i64 ((i + 1 : Nat) : Int)] : List Value).getD kz undef), rfl, rfl, by omega, hW, GG, HZ, kg1, HW⟩
        · have hjl : j < W.length := by have := of_decide_eq_true hj1; omega
          refine s_val 31 rfl rfl (.bool true) (run_lssT 3 _ _ _ rfl ((j : Nat) : Int) ((W.length : Nat) : Int) rfl rfl true hj1 _) ?_
          refine nr ?_; intro U h; simp only [z0, z1] at h; subst h
          refine wpList_nil ?_
          refine then_n ?_
          refine wp_seq ?_
          refine wp_cond_true rfl ?_
          refine wp_skip ?_
          refine then_n ?_
          refine wp_seq ?_
          refine wp_block ?_
          refine wp_seq ?_
          refine wp_region_lit ?_
          refine s_val 32 rfl rfl (.pointer (pK kZ ao j 0)) (run_ixK rZ (HW.re) _ _ rfl rfl j rfl (by omega)) ?_
          refine nr ?_; intro U h; simp only [z0, z1] at h; subst h
          refine s_val 33 rfl rfl (.int .i64 (W.getD j 0)) (run_ldZ (HW.re) _ rfl j rfl (by omega)) ?_
          refine nr ?_; intro U h; simp only [z0, z1] at h; subst h
          refine s_val 11 rfl rfl (.int .i64 (W.getD j 0)) (rfl) ?_
          refine nr ?_; intro U h; simp only [z0, z1] at h; subst h
          refine wpList_nil ?_
          refine then_n ?_
          refine wp_region_opq ?_
          intro OPS hY
          have y1 := hY 1 35 rfl
          clear hY
          refine s_val 34 rfl rfl (.bool false) (rfl) ?_
          refine nr ?_; intro U h; simp only [z0, z1] at h; subst h
          refine s_val 35 rfl rfl (.bool false) (rfl) ?_
          refine nr ?_; intro U h; simp only [z0, z1] at h; subst h
          refine s_skipY 36 rfl rfl y1 rfl ?_
          refine nr ?_; intro U h; simp only [z0, z1] at h; subst h
          refine s_skipY 37 rfl rfl y1 rfl ?_
          refine nr ?_; intro U h; simp only [z0, z1] at h; subst h
          refine s_skipY 38 rfl rfl y1 rfl ?_
          refine nr ?_; intro U h; simp only [z0, z1] at h; subst h
          refine s_val 39 rfl rfl (.bool false) (rfl) ?_
          refine nr ?_; intro U h; simp only [z0, z1] at h; subst h
          refine s_val 9 rfl rfl (.bool false) (rfl) ?_
          refine nr ?_; intro U h; simp only [z0, z1] at h; subst h
          refine wpList_nil ?_
          refine blk_n ?_
          refine then_n ?_
          refine wp_region_lit ?_
          refine s_val 40 rfl rfl (.int .i64 ((j + 1 : Nat) : Int)) (run_addI 3 _ _ _ rfl ((j : Nat) : Int) 1 ((j + 1 : Nat) : Int) rfl rfl (by omega) (by omega) (by omega) _) ?_
          refine nr ?_; intro U h; simp only [z0, z1] at h; subst h
          refine s_val 30 rfl rfl (.int .i64 ((j + 1 : Nat) : Int)) (rfl) ?_
          refine nr ?_; intro U h; simp only [z0, z1] at h; subst h
          refine wpList_nil ?_
          refine then_n ?_
          exact ⟨W.length + 1 - (j + 1), by omega, j + 1, false, (fun kz => ([.int .i64 (W.getD j 0), .bool true, .pointer (pK kZ ao j 0), .int .i64 (W.getD j 0), .bool false, .bool false, undef, undef, undef, .bool false, .int .i64 ((j + 1 : Nat) : Int)] : List Value).getD kz undef), rfl, rfl, by omega, (fun h => by cases h), GG, HZ, kg1, HW⟩
      · have hq0 := hq
        clear hq
        refine wp_region_lit ?_
        cases hj1 : decide (((j : Nat) : Int) < ((W.length : Nat) : Int))
        · have hje : j = W.length := by have := of_decide_eq_false hj1; omega
          refine s_val 31 rfl rfl (.bool false) (run_lssT 3 _ _ _ rfl ((j : Nat) : Int) ((W.length : Nat) : Int) rfl rfl false hj1 _) ?_
          refine nr ?_; intro U h; simp only [z0, z1] at h; subst h
          refine wpList_nil ?_
          refine then_n ?_
          refine wp_seq ?_
          refine wp_cond_false rfl ?_
          refine wp_exit ?_
          refine then_x ?_
          refine then_x ?_
          refine blk_x ?_
          refine then_n ?_
          refine wp_seq ?_
          refine wp_region_lit ?_
          refine s_val 41 rfl rfl (.bool true) (rfl) ?_
          refine nr ?_; intro U h; simp only [z0, z1] at h; subst h
          refine wpList_nil ?_
          refine then_n ?_
          refine wp_cond_true rfl ?_
          refine wp_region_lit ?_
          refine s_val 42 rfl rfl (.slice ao W.length cap) (rfl) ?_
          refine nr ?_; intro U h; simp only [z0, z1] at h; subst h
          refine s_val 43 rfl rfl (.int .i64 (l.getD i 0)) (rfl) ?_
          refine nr ?_; intro U h; simp only [z0, z1] at h; subst h
          refine s_bsl 44 rfl rfl 22 1 _ rfl [(0, .int .i64 (l.getD i 0))] rfl (([(l.getD i 0)] : List Int).flatMap kZ.E).toArray 3 (by kernel_rfl) ?_
          intro w2 q1 G eq1 kq1
          have bq1 := size_base GG eq1
          have dg1q1 := lt_new kg1 eq1
          have dHZq1 := HZ.ne eq1
          have dHWq1 := HW.ne eq1
          replace kg1 := G.has kg1
          replace HZ := HZ.gro G
          replace HW := HW.gro G
          replace GG := GG.trans G
          clear G
          clear eq1
          refine nr ?_; intro U h; simp only [z0, z1] at h; subst h
          have hxr := (hq0 rfl).1
          have hxn : (l.getD i 0) ∉ W := by have h9 := (hq0 rfl).2; rwa [hje, List.take_length] at h9
          refine s_appK rZ (by decide) (by decide) 45 rfl rfl _ _ rfl rfl HW (l' := [(l.getD i 0)]) rfl (RK.blk (K := kZ) kq1 (one_all (hI.at hil)) (Nat.le_refl _)) (by show _ + 1 ≤ _; omega) HZ ?_
          intro nwa nwc w3 HO2 G2 _
          replace kg1 := G2.has kg1 (fun hm9 => by have := HW.own.base g1 hm9; omega)
          replace HZ := HZ.le G2.size
          replace GG := G2.gro GG (fun k hk => by have := HW.own.base k hk; omega)
          clear G2 HW kq1
          have HW := HO2
          clear HO2
          refine nr ?_; intro U h; simp only [z0, z1] at h; subst h
          refine s_val 6 rfl rfl (.slice nwa (W ++ [(l.getD i 0)]).length nwc) (rfl) ?_
          refine nr ?_; intro U h; simp only [z0, z1] at h; subst h
          refine wpList_nil ?_
          refine blk_n ?_
          refine then_n ?_
          refine wp_region_lit ?_
          refine s_val 46 rfl rfl (.int .i64 ((i + 1 : Nat) : Int)) (run_addI 3 _ _ _ rfl ((i : Nat) : Int) 1 ((i + 1 : Nat) : Int) rfl rfl (by omega) (by omega) (by omega) _) ?_
          refine nr ?_; intro U h; simp only [z0, z1] at h; subst h
          refine s_val 18 rfl rfl (.int .i64 ((i + 1 : Nat) : Int)) (rfl) ?_
          refine nr ?_; intro U h; simp only [z0, z1] at h; subst h
          refine wpList_nil ?_
          refine then_n ?_
          exact ⟨l.length + 1 - (i + 1), by omega, i + 1, nwa, nwc, W ++ [(l.getD i 0)], (fun kz => ([.int .i64 (l.getD i 0), .bool true, us2 0, .bool true, .pointer (pK kZ ao0 i 0), .int .i64 (l.getD i 0), .int .i64 (l.getD i 0), .bool false, .bool false, undef, undef, .bool false, .slice ao W.length cap, .int .i64 ((W.length : Nat) : Int), .int .i64 ((j : Nat) : Int), .bool false, us2 2, us2 3, us2 4, us2 5, us2 6, us2 7, us2 8, us2 9, us2 10, .bool true, .slice ao W.length cap, .int .i64 (l.getD i 0), .slice (some ⟨q1, 0, none⟩) 1 1, .slice nwa (W ++ [(l.getD i 0)]).length nwc, .int .i64 ((i + 1 : Nat) : Int)] : List Value).getD kz undef), rfl, rfl, by omega, hW.snoc hxr hxn, GG, HZ, kg1, HW⟩
        · have hjl : j < W.length := by have := of_decide_eq_true hj1; omega
          refine s_val 31 rfl rfl (.bool true) (run_lssT 3 _ _ _ rfl ((j : Nat) : Int) ((W.length : Nat) : Int) rfl rfl true hj1 _) ?_
          refine nr ?_; intro U h; simp only [z0, z1] at h; subst h
          refine wpList_nil ?_
          refine then_n ?_
          refine wp_seq ?_
          refine wp_cond_true rfl ?_
          refine wp_skip ?_
          refine then_n ?_
          refine wp_seq ?_
          refine wp_block ?_
          refine wp_seq ?_
          refine wp_region_lit ?_
          refine s_val 32 rfl rfl (.pointer (pK kZ ao j 0)) (run_ixK rZ (HW.re) _ _ rfl rfl j rfl (by omega)) ?_
          refine nr ?_; intro U h; simp only [z0, z1] at h; subst h
          refine s_val 33 rfl rfl (.int .i64 (W.getD j 0)) (run_ldZ (HW.re) _ rfl j rfl (by omega)) ?_
          refine nr ?_; intro U h; simp only [z0, z1] at h; subst h
          refine s_val 11 rfl rfl (.int .i64 (W.getD j 0)) (rfl) ?_
          refine nr ?_; intro U h; simp only [z0, z1] at h; subst h
          refine wpList_nil ?_
          refine then_n ?_
          refine wp_region_opq ?_
          intro OPS hY
          have y1 := hY 1 35 rfl
          clear hY
          refine s_val 34 rfl rfl (.bool true) (rfl) ?_
          refine nr ?_; intro U h; simp only [z0, z1] at h; subst h
          refine s_val 35 rfl rfl (.bool true) (rfl) ?_
          refine nr ?_; intro U h; simp only [z0, z1] at h; subst h
          refine s_gvalY 36 rfl rfl y1 rfl (.int .i64 (W.getD j 0)) (rfl) ?_
          refine nr ?_; intro U h; simp only [z0, z1] at h; subst h
          refine s_gvalY 37 rfl rfl y1 rfl (.int .i64 (l.getD i 0)) (rfl) ?_
          refine nr ?_; intro U h; simp only [z0, z1] at h; subst h
          cases hx : decide ((W.getD j 0) = (l.getD i 0))
          · refine s_gvalY 38 rfl rfl y1 rfl (.bool true) (run_neq_k 3 .i64 _ _ _ rfl Try.underlying3 (W.getD j 0) (l.getD i 0) rfl rfl true hx _) ?_
            refine nr ?_; intro U h; simp only [z0, z1] at h; subst h
            refine s_val 39 rfl rfl (.bool true) (rfl) ?_
            refine nr ?_; intro U h; simp only [z0, z1] at h; subst h
            refine s_val 9 rfl rfl (.bool true) (rfl) ?_
            refine nr ?_; intro U h; simp only [z0, z1] at h; subst h
            refine wpList_nil ?_
            refine blk_n ?_
            refine then_n ?_
            refine wp_region_lit ?_
            refine s_val 40 rfl rfl (.int .i64 ((j + 1 : Nat) : Int)) (run_addI 3 _ _ _ rfl ((j : Nat) : Int) 1 ((j + 1 : Nat) : Int) rfl rfl (by omega) (by omega) (by omega) _) ?_
            refine nr ?_; intro U h; simp only [z0, z1] at h; subst h
            refine s_val 30 rfl rfl (.int .i64 ((j + 1 : Nat) : Int)) (rfl) ?_
            refine nr ?_; intro U h; simp only [z0, z1] at h; subst h
            refine wpList_nil ?_
            refine then_n ?_
            exact ⟨W.length + 1 - (j + 1), by omega, j + 1, true, (fun kz => ([.int .i64 (W.getD j 0), .bool true, .pointer (pK kZ ao j 0), .int .i64 (W.getD j 0), .bool true, .bool true, .int .i64 (W.getD j 0), .int .i64 (l.getD i 0), .bool true, .bool true, .int .i64 ((j + 1 : Nat) : Int)] : List Value).getD kz undef), rfl, rfl, by omega, (fun _ => ⟨(hq0 rfl).1, tk_not hjl (hq0 rfl).2 (of_decide_eq_false hx)⟩), GG, HZ, kg1, HW⟩
          · refine s_gvalY 38 rfl rfl y1 rfl (.bool false) (run_neq_k 3 .i64 _ _ _ rfl Try.underlying3 (W.getD j 0) (l.getD i 0) rfl rfl false hx _) ?_
            refine nr ?_; intro U h; simp only [z0, z1] at h; subst h
            refine s_val 39 rfl rfl (.bool false) (rfl) ?_
            refine nr ?_; intro U h; simp only [z0, z1] at h; subst h
            refine s_val 9 rfl rfl (.bool false) (rfl) ?_
            refine nr ?_; intro U h; simp only [z0, z1] at h; subst h
            refine wpList_nil ?_
            refine blk_n ?_
            refine then_n ?_
            refine wp_region_lit ?_
            refine s_val 40 rfl rfl (.int .i64 ((j + 1 : Nat) : Int)) (run_addI 3 _ _ _ rfl ((j : Nat) : Int) 1 ((j + 1 : Nat) : Int) rfl rfl (by omega) (by omega) (by omega) _) ?_
            refine nr ?_; intro U h; simp only [z0, z1] at h; subst h
            refine s_val 30 rfl rfl (.int .i64 ((j + 1 : Nat) : Int)) (rfl) ?_
            refine nr ?_; intro U h; simp only [z0, z1] at h; subst h
            refine wpList_nil ?_
            refine then_n ?_
            exact ⟨W.length + 1 - (j + 1), by omega, j + 1, false, (fun kz => ([.int .i64 (W.getD j 0), .bool true, .pointer (pK kZ ao j 0), .int .i64 (W.getD j 0), .bool true, .bool true, .int .i64 (W.getD j 0), .int .i64 (l.getD i 0), .bool false, .bool false, .int .i64 ((j + 1 : Nat) : Int)] : List Value).getD kz undef), rfl, rfl, by omega, (fun h => by cases h), GG, HZ, kg1, HW⟩
    · refine s_val 23 rfl rfl (.bool true) (run_geqT 3 _ _ _ rfl (l.getD i 0) 0 rfl rfl true ha _) ?_
      refine nr ?_; intro U h; simp only [z0, z1] at h; subst h
      refine s_val 24 rfl rfl (.bool true) (rfl) ?_
      refine nr ?_; intro U h; simp only [z0, z1] at h; subst h
      refine s_gvalY 25 rfl rfl y2 rfl (.int .i64 (l.getD i 0)) (rfl) ?_
      refine nr ?_; intro U h; simp only [z0, z1] at h; subst h
      cases hb : decide ((l.getD i 0) < 6)
      · refine s_gvalY 26 rfl rfl y2 rfl (.bool false) (run_lssT 3 _ _ _ rfl (l.getD i 0) 6 rfl rfl false hb _) ?_
        refine nr ?_; intro U h; simp only [z0, z1] at h; subst h
        refine s_val 27 rfl rfl (.bool false) (rfl) ?_
        refine nr ?_; intro U h; simp only [z0, z1] at h; subst h
        refine s_val 9 rfl rfl (.bool false) (rfl) ?_
        refine nr ?_; intro U h; simp only [z0, z1] at h; subst h
        refine wpList_nil ?_
        refine then_n ?_
        refine wp_seq ?_
        refine wp_seq ?_
        refine wp_region_lit ?_
        refine s_val 28 rfl rfl (.slice ao W.length cap) (rfl) ?_
        refine nr ?_; intro U h; simp only [z0, z1] at h; subst h
        refine s_val 29 rfl rfl (.int .i64 ((W.length : Nat) : Int)) (run_len Try.underlying22 _ rfl _ _ _ rfl _) ?_
        refine nr ?_; intro U h; simp only [z0, z1] at h; subst h
        refine s_val 30 rfl rfl (.int .i64 0) (rfl) ?_
        refine nr ?_; intro U h; simp only [z0, z1] at h; subst h
        refine wpList_nil ?_
        refine then_n ?_
        refine wp_block ?_
        refine wp_loopN (fun mz az wv => ∃ (j : Nat) (q : Bool) (us2 : Nat → Value), mz = W.length + 1 - j ∧ az = ⟨[.slice ao0 l.length cap0, .agg (paA p), undef, .pointer (some ⟨g1, 0, none⟩), .slice none 0 0, .slice none 0 0, .slice ao W.length cap, undef, .int .i64 (l.getD i 0), .bool q, undef, us2 0, undef, undef, undef, undef, .slice ao0 l.length cap0, .int .i64 ((l.length : Nat) : Int), .int .i64 ((i : Nat) : Int), .bool true, .pointer (pK kZ ao0 i 0), .int .i64 (l.getD i 0), .int .i64 (l.getD i 0), .bool true, .bool true, .int .i64 (l.getD i 0), .bool false, .bool false, .slice ao W.length cap, .int .i64 ((W.length : Nat) : Int), .int .i64 ((j : Nat) : Int), us2 1, us2 2, us2 3, us2 4, us2 5, us2 6, us2 7, us2 8, us2 9, us2 10, us1 25, us1 26, us1 27, us1 28, us1 29, us1 30, undef, undef, undef, undef, undef, undef, undef, undef, undef, undef, undef, undef, undef, undef, undef, undef, undef, undef, undef, undef, undef, undef, undef, undef, undef, undef, undef, undef, undef, undef, undef, undef, undef, undef, undef, undef, undef, undef, undef].toArray, []⟩ ∧ j ≤ W.length ∧ (q = true → (0 ≤ (l.getD i 0) ∧ (l.getD i 0) < 6) ∧ (l.getD i 0) ∉ W.take j) ∧ Gro w wv ∧ SZ B wv ∧ wv.heap[g1]? = some (.cells (paA p) 26 (0, 0)) ∧ OW kZ 3 wv B ao cap W) ?_ _ ⟨0, false, (fun kz => ([us1 2, us1 15, us1 16, us1 17, us1 18, us1 19, us1 20, us1 21, us1 22, us1 23, us1 24] : List Value).getD kz undef), rfl, rfl, Nat.zero_le _, (fun h => by cases h), GG, HZ, kg1, HW⟩
        clear GG kg1 HZ HW
        rintro mz az wv ⟨j, q, us2, rfl, rfl, hj, hq, GG, HZ, kg1, HW⟩
        refine wp_seq ?_
        cases q
        · have hq0 := hq
          clear hq
          refine wp_region_lit ?_
          cases hj1 : decide (((j : Nat) : Int) < ((W.length : Nat) : Int))
          · have hje : j = W.length := by have := of_decide_eq_false hj1; omega
            refine s_val 31 rfl rfl (.bool false) (run_lssT 3 _ _ _ rfl ((j : Nat) : Int) ((W.length : Nat) : Int) rfl rfl false hj1 _) ?_
            refine nr ?_; intro U h; simp only [z0, z1] at h; subst h
            refine wpList_nil ?_
            refine then_n ?_
            refine wp_seq ?_
            refine wp_cond_false rfl ?_
            refine wp_exit ?_
            refine then_x ?_
            refine then_x ?_
            refine blk_x ?_
            refine then_n ?_
            refine wp_seq ?_
            refine wp_region_lit ?_
            refine s_val 41 rfl rfl (.bool false) (rfl) ?_
            refine nr ?_; intro U h; simp only [z0, z1] at h; subst h
            refine wpList_nil ?_
            refine then_n ?_
            refine wp_cond_false rfl ?_
            refine wp_skip ?_
            refine blk_n ?_
            refine then_n ?_
            refine wp_region_lit ?_
            refine s_val 46 rfl rfl (.int .i64 ((i + 1 : Nat) : Int)) (run_addI 3 _ _ _ rfl ((i : Nat) : Int) 1 ((i + 1 : Nat) : Int) rfl rfl (by omega) (by omega) (by omega) _) ?_
            refine nr ?_; intro U h; simp only [z0, z1] at h; subst h
            refine s_val 18 rfl rfl (.int .i64 ((i + 1 : Nat) : Int)) (rfl) ?_
            refine nr ?_; intro U h; simp only [z0, z1] at h; subst h
            refine wpList_nil ?_
            refine then_n ?_
            exact ⟨l.length + 1 - (i + 1), by omega, i + 1, ao, cap, W, (fun kz => ([.int .i64 (l.getD i 0), .bool false, us2 0, .bool true, .pointer (pK kZ ao0 i 0), .int .i64 (l.getD i 0), .int .i64 (l.getD i 0), .bool true, .bool true, .int .i64 (l.getD i 0), .bool false, .bool false, .slice ao W.length cap, .int .i64 ((W.length : Nat) : Int), .int .i64 ((j : Nat) : Int), .bool false, us2 2, us2 3, us2 4, us2 5, us2 6, us2 7, us2 8, us2 9, us2 10, .bool false, us1 26, us1 27, us1 28, us1 29, .int .i64 ((i + 1 : Nat) : Int)] : List Value).getD kz undef), rfl, rfl, by omega, hW, GG, HZ, kg1, HW⟩
          · have hjl : j < W.length := by have := of_decide_eq_true hj1; omega
            refine s_val 31 rfl rfl (.bool true) (run_lssT 3 _ _ _ rfl ((j : Nat) : Int) ((W.length : Nat) : Int) rfl rfl true hj1 _) ?_
            refine nr ?_; intro U h; simp only [z0, z1] at h; subst h
            refine wpList_nil ?_
            refine then_n ?_
            refine wp_seq ?_
            refine wp_cond_true rfl ?_
            refine wp_skip ?_
            refine then_n ?_
            refine wp_seq ?_
            refine wp_block ?_
            refine wp_seq ?_
            refine wp_region_lit ?_
            refine s_val 32 rfl rfl (.pointer (pK kZ ao j 0)) (run_ixK rZ (HW.re) _ _ rfl rfl j rfl (by omega)) ?_
            refine nr ?_; intro U h; simp only [z0, z1] at h; subst h
            refine s_val 33 rfl rfl (.int .i64 (W.getD j 0)) (run_ldZ (HW.re) _ rfl j rfl (by omega)) ?_
            refine nr ?_; intro U h; simp only [z0, z1] at h; subst h
            refine s_val 11 rfl rfl (.int .i64 (W.getD j 0)) (rfl) ?_
            refine nr ?_; intro U h; simp only [z0, z1] at h; subst h
            refine wpList_nil ?_
            refine then_n ?_
            refine wp_region_opq ?_
            intro OPS hY
            have y1 := hY 1 35 rfl
            clear hY
            refine s_val 34 rfl rfl (.bool false) (rfl) ?_
            refine nr ?_; intro U h; simp only [z0, z1] at h; subst h
            refine s_val 35 rfl rfl (.bool false) (rfl) ?_
            refine nr ?_; intro U h; simp only [z0, z1] at h; subst h
            refine s_skipY 36 rfl rfl y1 rfl ?_
            refine nr ?_; intro U h; simp only [z0, z1] at h; subst h
            refine s_skipY 37 rfl rfl y1 rfl ?_
            refine nr ?_; intro U h; simp only [z0, z1] at h; subst h
            refine s_skipY 38 rfl rfl y1 rfl ?_
            refine nr ?_; intro U h; simp only [z0, z1] at h; subst h
            refine s_val 39 rfl rfl (.bool false) (rfl) ?_
            refine nr ?_; intro U h; simp only [z0, z1] at h; subst h
            refine s_val 9 rfl rfl (.bool false) (rfl) ?_
            refine nr ?_; intro U h; simp only [z0, z1] at h; subst h
            refine wpList_nil ?_
            refine blk_n ?_
            refine then_n ?_
            refine wp_region_lit ?_
            refine s_val 40 rfl rfl (.int .i64 ((j + 1 : Nat) : Int)) (run_addI 3 _ _ _ rfl ((j : Nat) : Int) 1 ((j + 1 : Nat) : Int) rfl rfl (by omega) (by omega) (by omega) _) ?_
            refine nr ?_; intro U h; simp only [z0, z1] at h; subst h
            refine s_val 30 rfl rfl (.int .i64 ((j + 1 : Nat) : Int)) (rfl) ?_
            refine nr ?_; intro U h; simp only [z0, z1] at h; subst h
            refine wpList_nil ?_
            refine then_n ?_
            exact ⟨W.length + 1 - (j + 1), by omega, j + 1, false, (fun kz => ([.int .i64 (W.getD j 0), .bool true, .pointer (pK kZ ao j 0), .int .i64 (W.getD j 0), .bool false, .bool false, undef, undef, undef, .bool false, .int .i64 ((j + 1 : Nat) : Int)] : List Value).getD kz undef), rfl, rfl, by omega, (fun h => by cases h), GG, HZ, kg1, HW⟩
        · have hq0 := hq
          clear hq
          refine wp_region_lit ?_
          cases hj1 : decide (((j : Nat) : Int) < ((W.length : Nat) : Int))
          · have hje : j = W.length := by have := of_decide_eq_false hj1; omega
            refine s_val 31 rfl rfl (.bool false) (run_lssT 3 _ _ _ rfl ((j : Nat) : Int) ((W.length : Nat) : Int) rfl rfl false hj1 _) ?_
            refine nr ?_; intro U h; simp only [z0, z1] at h; subst h
            refine wpList_nil ?_
            refine then_n ?_
            refine wp_seq ?_
            refine wp_cond_false rfl ?_
            refine wp_exit ?_
            refine then_x ?_
            refine then_x ?_
            refine blk_x ?_
            refine then_n ?_
            refine wp_seq ?_
            refine wp_region_lit ?_
            refine s_val 41 rfl rfl (.bool true) (rfl) ?_
            refine nr ?_; intro U h; simp only [z0, z1] at h; subst h
            refine wpList_nil ?_
            refine then_n ?_
            refine wp_cond_true rfl ?_
            refine wp_region_lit ?_
            refine s_val 42 rfl rfl (.slice ao W.length cap) (rfl) ?_
            refine nr ?_; intro U h; simp only [z0, z1] at h; subst h
            refine s_val 43 rfl rfl (.int .i64 (l.getD i 0)) (rfl) ?_
            refine nr ?_; intro U h; simp only [z0, z1] at h; subst h
            refine s_bsl 44 rfl rfl 22 1 _ rfl [(0, .int .i64 (l.getD i 0))] rfl (([(l.getD i 0)] : List Int).flatMap kZ.E).toArray 3 (by kernel_rfl) ?_
            intro w2 q1 G eq1 kq1
            have bq1 := size_base GG eq1
            have dg1q1 := lt_new kg1 eq1
            have dHZq1 := HZ.ne eq1
            have dHWq1 := HW.ne eq1
            replace kg1 := G.has kg1
            replace HZ := HZ.gro G
            replace HW := HW.gro G
            replace GG := GG.trans G
            clear G
            clear eq1
            refine nr ?_; intro U h; simp only [z0, z1] at h; subst h
            have hxr := (hq0 rfl).1
            have hxn : (l.getD i 0) ∉ W := by have h9 := (hq0 rfl).2; rwa [hje, List.take_length] at h9
            refine s_appK rZ (by decide) (by decide) 45 rfl rfl _ _ rfl rfl HW (l' := [(l.getD i 0)]) rfl (RK.blk (K := kZ) kq1 (one_all (hI.at hil)) (Nat.le_refl _)) (by show _ + 1 ≤ _; omega) HZ ?_
            intro nwa nwc w3 HO2 G2 _
            replace kg1 := G2.has kg1 (fun hm9 => by have := HW.own.base g1 hm9; omega)
            replace HZ := HZ.le G2.size
            replace GG := G2.gro GG (fun k hk => by have := HW.own.base k hk; omega)
            clear G2 HW kq1
            have HW := HO2
            clear HO2
            refine nr ?_; intro U h; simp only [z0, z1] at h; subst h
            refine s_val 6 rfl rfl (.slice nwa (W ++ [(l.getD i 0)]).length nwc) (rfl) ?_
            refine nr ?_; intro U h; simp only [z0, z1] at h; subst h
            refine wpList_nil ?_
            refine blk_n ?_
            refine then_n ?_
            refine wp_region_lit ?_
            refine s_val 46 rfl rfl (.int .i64 ((i + 1 : Nat) : Int)) (run_addI 3 _ _ _ rfl ((i : Nat) : Int) 1 ((i + 1 : Nat) : Int) rfl rfl (by omega) (by omega) (by omega) _) ?_
            refine nr ?_; intro U h; simp only [z0, z1] at h; subst h
            refine s_val 18 rfl rfl (.int .i64 ((i + 1 : Nat) : Int)) (rfl) ?_
            refine nr ?_; intro U h; simp only [z0, z1] at h; subst h
            refine wpList_nil ?_
            refine then_n ?_
            exact ⟨l.length + 1 - (i + 1), by omega, i + 1, nwa, nwc, W ++ [(l.getD i 0)], (fun kz => ([.int .i64 (l.getD i 0), .bool true, us2 0, .bool true, .pointer (pK kZ ao0 i 0), .int .i64 (l.getD i 0), .int .i64 (l.getD i 0), .bool true, .bool true, .int .i64 (l.getD i 0), .bool false, .bool false, .slice ao W.length cap, .int .i64 ((W.length : Nat) : Int), .int .i64 ((j : Nat) : Int), .bool false, us2 2, us2 3, us2 4, us2 5, us2 6, us2 7, us2 8, us2 9, us2 10, .bool true, .slice ao W.length cap, .int .i64 (l.getD i 0), .slice (some ⟨q1, 0, none⟩) 1 1, .slice nwa (W ++ [(l.getD i 0)]).length nwc, .int .i64 ((i + 1 : Nat) : Int)] : List Value).getD kz undef), rfl, rfl, by omega, hW.snoc hxr hxn, GG, HZ, kg1, HW⟩
          · have hjl : j < W.length := by have := of_decide_eq_true hj1; omega
            refine s_val 31 rfl rfl (.bool true) (run_lssT 3 _ _ _ rfl ((j : Nat) : Int) ((W.length : Nat) : Int) rfl rfl true hj1 _) ?_
            refine nr ?_; intro U h; simp only [z0, z1] at h; subst h
            refine wpList_nil ?_
            refine then_n ?_
            refine wp_seq ?_
            refine wp_cond_true rfl ?_
            refine wp_skip ?_
            refine then_n ?_
            refine wp_seq ?_
            refine wp_block ?_
            refine wp_seq ?_
            refine wp_region_lit ?_
            refine s_val 32 rfl rfl (.pointer (pK kZ ao j 0)) (run_ixK rZ (HW.re) _ _ rfl rfl j rfl (by omega)) ?_
            refine nr ?_; intro U h; simp only [z0, z1] at h; subst h
            refine s_val 33 rfl rfl (.int .i64 (W.getD j 0)) (run_ldZ (HW.re) _ rfl j rfl (by omega)) ?_
            refine nr ?_; intro U h; simp only [z0, z1] at h; subst h
            refine s_val 11 rfl rfl (.int .i64 (W.getD j 0)) (rfl) ?_
            refine nr ?_; intro U h; simp only [z0, z1] at h; subst h
            refine wpList_nil ?_
            refine then_n ?_
            refine wp_region_opq ?_
            intro OPS hY
            have y1 := hY 1 35 rfl
            clear hY
            refine s_val 34 rfl rfl (.bool true) (rfl) ?_
            refine nr ?_; intro U h; simp only [z0, z1] at h; subst h
            refine s_val 35 rfl rfl (.bool true) (rfl) ?_
            refine nr ?_; intro U h; simp only [z0, z1] at h; subst h
            refine s_gvalY 36 rfl rfl y1 rfl (.int .i64 (W.getD j 0)) (rfl) ?_
            refine nr ?_; intro U h; simp only [z0, z1] at h; subst h
            refine s_gvalY 37 rfl rfl y1 rfl (.int .i64 (l.getD i 0)) (rfl) ?_
            refine nr ?_; intro U h; simp only [z0, z1] at h; subst h
            cases hx : decide ((W.getD j 0) = (l.getD i 0))
            · refine s_gvalY 38 rfl rfl y1 rfl (.bool true) (run_neq_k 3 .i64 _ _ _ rfl Try.underlying3 (W.getD j 0) (l.getD i 0) rfl rfl true hx _) ?_
              refine nr ?_; intro U h; simp only [z0, z1] at h; subst h
              refine s_val 39 rfl rfl (.bool true) (rfl) ?_
              refine nr ?_; intro U h; simp only [z0, z1] at h; subst h
              refine s_val 9 rfl rfl (.bool true) (rfl) ?_
              refine nr ?_; intro U h; simp only [z0, z1] at h; subst h
              refine wpList_nil ?_
              refine blk_n ?_
              refine then_n ?_
              refine wp_region_lit ?_
              refine s_val 40 rfl rfl (.int .i64 ((j + 1 : Nat) : Int)) (run_addI 3 _ _ _ rfl ((j : Nat) : Int) 1 ((j + 1 : Nat) : Int) rfl rfl (by omega) (by omega) (by omega) _) ?_
              refine nr ?_; intro U h; simp only [z0, z1] at h; subst h
              refine s_val 30 rfl rfl (.int .i64 ((j + 1 : Nat) : Int)) (rfl) ?_
              refine nr ?_; intro U h; simp only [z0, z1] at h; subst h
              refine wpList_nil ?_
              refine then_n ?_
              exact ⟨W.length + 1 - (j + 1), by omega, j + 1, true, (fun kz => ([.int .i64 (W.getD j 0), .bool true, .pointer (pK kZ ao j 0), .int .i64 (W.getD j 0), .bool true, .bool true, .int .i64 (W.getD j 0), .int .i64 (l.getD i 0), .bool true, .bool true, .int .i64 ((j + 1 : Nat) : Int)] : List Value).getD kz undef), rfl, rfl, by omega, (fun _ => ⟨(hq0 rfl).1, tk_not hjl (hq0 rfl).2 (of_decide_eq_false hx)⟩), GG, HZ, kg1, HW⟩
            · refine s_gvalY 38 rfl rfl y1 rfl (.bool false) (run_neq_k 3 .i64 _ _ _ rfl Try.underlying3 (W.getD j 0) (l.getD i 0) rfl rfl false hx _) ?_
              refine nr ?_; intro U h; simp only [z0, z1] at h; subst h
              refine s_val 39 rfl rfl (.bool false) (rfl) ?_
              refine nr ?_; intro U h; simp only [z0, z1] at h; subst h
              refine s_val 9 rfl rfl (.bool false) (rfl) ?_
              refine nr ?_; intro U h; simp only [z0, z1] at h; subst h
              refine wpList_nil ?_
              refine blk_n ?_
              refine then_n ?_
              refine wp_region_lit ?_
              refine s_val 40 rfl rfl (.int .i64 ((j + 1 : Nat) : Int)) (run_addI 3 _ _ _ rfl ((j : Nat) : Int) 1 ((j + 1 : Nat) : Int) rfl rfl (by omega) (by omega) (by omega) _) ?_
              refine nr ?_; intro U h; simp only [z0, z1] at h; subst h
              refine s_val 30 rfl rfl (.int .i64 ((j + 1 : Nat) : Int)) (rfl) ?_
              refine nr ?_; intro U h; simp only [z0, z1] at h; subst h
              refine wpList_nil ?_
              refine then_n ?_
              exact ⟨W.length + 1 - (j + 1), by omega, j + 1, false, (fun kz => ([.int .i64 (W.getD j 0), .bool true, .pointer (pK kZ ao j 0), .int .i64 (W.getD j 0), .bool true, .bool true, .int .i64 (W.getD j 0), .int .i64 (l.getD i 0), .bool false, .bool false, .int .i64 ((j + 1 : Nat) : Int)] : List Value).getD kz undef), rfl, rfl, by omega, (fun h => by cases h), GG, HZ, kg1, HW⟩
      · refine s_gvalY 26 rfl rfl y2 rfl (.bool true) (run_lssT 3 _ _ _ rfl (l.getD i 0) 6 rfl rfl true hb _) ?_
        refine nr ?_; intro U h; simp only [z0, z1] at h; subst h
        refine s_val 27 rfl rfl (.bool true) (rfl) ?_
        refine nr ?_; intro U h; simp only [z0, z1] at h; subst h
        refine s_val 9 rfl rfl (.bool true) (rfl) ?_
        refine nr ?_; intro U h; simp only [z0, z1] at h; subst h
        refine wpList_nil ?_
        refine then_n ?_
        refine wp_seq ?_
        refine wp_seq ?_
        refine wp_region_lit ?_
        refine s_val 28 rfl rfl (.slice ao W.length cap) (rfl) ?_
        refine nr ?_; intro U h; simp only [z0, z1] at h; subst h
        refine s_val 29 rfl rfl (.int .i64 ((W.length : Nat) : Int)) (run_len Try.underlying22 _ rfl _ _ _ rfl _) ?_
        refine nr ?_; intro U h; simp only [z0, z1] at h; subst h
        refine s_val 30 rfl rfl (.int .i64 0) (rfl) ?_
        refine nr ?_; intro U h; simp only [z0, z1] at h; subst h
        refine wpList_nil ?_
        refine then_n ?_
        refine wp_block ?_
        refine wp_loopN (fun mz az wv => ∃ (j : Nat) (q : Bool) (us2 : Nat → Value), mz = W.length + 1 - j ∧ az = ⟨[.slice ao0 l.length cap0, .agg (paA p), undef, .pointer (some ⟨g1, 0, none⟩), .slice none 0 0, .slice none 0 0, .slice ao W.length cap, undef, .int .i64 (l.getD i 0), .bool q, undef, us2 0, undef, undef, undef, undef, .slice ao0 l.length cap0, .int .i64 ((l.length : Nat) : Int), .int .i64 ((i : Nat) : Int), .bool true, .pointer (pK kZ ao0 i 0), .int .i64 (l.getD i 0), .int .i64 (l.getD i 0), .bool true, .bool true, .int .i64 (l.getD i 0), .bool true, .bool true, .slice ao W.length cap, .int .i64 ((W.length : Nat) : Int), .int .i64 ((j : Nat) : Int), us2 1, us2 2, us2 3, us2 4, us2 5, us2 6, us2 7, us2 8, us2 9, us2 10, us1 25, us1 26, us1 27, us1 28, us1 29, us1 30, undef, undef, undef, undef, undef, undef, undef, undef, undef, undef, undef, undef, undef, undef, undef, undef, undef, undef, undef, undef, undef, undef, undef, undef, undef, undef, undef, undef, undef, undef, undef, undef, undef, undef, undef, undef, undef, undef, undef].toArray, []⟩ ∧ j ≤ W.length ∧ (q = true → (0 ≤ (l.getD i 0) ∧ (l.getD i 0) < 6) ∧ (l.getD i 0) ∉ W.take j) ∧ Gro w wv ∧ SZ B wv ∧ wv.heap[g1]? = some (.cells (paA p) 26 (0, 0)) ∧ OW kZ 3 wv B ao cap W) ?_ _ ⟨0, true, (fun kz => ([us1 2, us1 15, us1 16, us1 17, us1 18, us1 19, us1 20, us1 21, us1 22, us1 23, us1 24] : List Value).getD kz undef), rfl, rfl, Nat.zero_le _, (fun _ => ⟨⟨of_decide_eq_true ha, of_decide_eq_true hb⟩, by rw [List.take_zero]; intro h; cases h⟩), GG, HZ, kg1, HW⟩
        clear GG kg1 HZ HW
        rintro mz az wv ⟨j, q, us2, rfl, rfl, hj, hq, GG, HZ, kg1, HW⟩
        refine wp_seq ?_
        cases q
        · have hq0 := hq
          clear hq
          refine wp_region_lit ?_
          cases hj1 : decide (((j : Nat) : Int) < ((W.length : Nat) : Int))
          · have hje : j = W.length := by have := of_decide_eq_false hj1; omega
            refine s_val 31 rfl rfl (.bool false) (run_lssT 3 _ _ _ rfl ((j : Nat) : Int) ((W.length : Nat) : Int) rfl rfl false hj1 _) ?_
            refine nr ?_; intro U h; simp only [z0, z1] at h; subst h
            refine wpList_nil ?_
            refine then_n ?_
            refine wp_seq ?_
            refine wp_cond_false rfl ?_
            refine wp_exit ?_
            refine then_x ?_
            refine then_x ?_
            refine blk_x ?_
            refine then_n ?_
            refine wp_seq ?_
            refine wp_region_lit ?_
            refine s_val 41 rfl rfl (.bool false) (rfl) ?_
            refine nr ?_; intro U h; simp only [z0, z1] at h; subst h
            refine wpList_nil ?_
            refine then_n ?_
            refine wp_cond_false rfl ?_
            refine wp_skip ?_
            refine blk_n ?_
            refine then_n ?_
            refine wp_region_lit ?_
            refine s_val 46 rfl rfl (.int .i64 ((i + 1 : Nat) : Int)) (run_addI 3 _ _ _ rfl ((i : Nat) : Int) 1 ((i + 1 : Nat) : Int) rfl rfl (by omega) (by omega) (by omega) _) ?_
            refine nr ?_; intro U h; simp only [z0, z1] at h; subst h
            refine s_val 18 rfl rfl (.int .i64 ((i + 1 : Nat) : Int)) (rfl) ?_
            refine nr ?_; intro U h; simp only [z0, z1] at h; subst h
            refine wpList_nil ?_
            refine then_n ?_
            exact ⟨l.length + 1 - (i + 1), by omega, i + 1, ao, cap, W, (fun kz => ([.int .i64 (l.getD i 0), .bool false, us2 0, .bool true, .pointer (pK kZ ao0 i 0), .int .i64 (l.getD i 0), .int .i64 (l.getD i 0), .bool true, .bool true, .int .i64 (l.getD i 0), .bool true, .bool true, .slice ao W.length cap, .int .i64 ((W.length : Nat) : Int), .int .i64 ((j : Nat) : Int), .bool false, us2 2, us2 3, us2 4, us2 5, us2 6, us2 7, us2 8, us2 9, us2 10, .bool false, us1 26, us1 27, us1 28, us1 29, .int .i64 ((i + 1 : Nat) : Int)] : List Value).getD kz undef), rfl, rfl, by omega, hW, GG, HZ, kg1, HW⟩
          · have hjl : j < W.length := by have := of_decide_eq_true hj1; omega
            refine s_val 31 rfl rfl (.bool true) (run_lssT 3 _ _ _ rfl ((j : Nat) : Int) ((W.length : Nat) : Int) rfl rfl true hj1 _) ?_
            refine nr ?_; intro U h; simp only [z0, z1] at h; subst h
            refine wpList_nil ?_
            refine then_n ?_
            refine wp_seq ?_
            refine wp_cond_true rfl ?_
            refine wp_skip ?_
            refine then_n ?_
            refine wp_seq ?_
            refine wp_block ?_
            refine wp_seq ?_
            refine wp_region_lit ?_
            refine s_val 32 rfl rfl (.pointer (pK kZ ao j 0)) (run_ixK rZ (HW.re) _ _ rfl rfl j rfl (by omega)) ?_
            refine nr ?_; intro U h; simp only [z0, z1] at h; subst h
            refine s_val 33 rfl rfl (.int .i64 (W.getD j 0)) (run_ldZ (HW.re) _ rfl j rfl (by omega)) ?_
            refine nr ?_; intro U h; simp only [z0, z1] at h; subst h
            refine s_val 11 rfl rfl (.int .i64 (W.getD j 0)) (rfl) ?_
            refine nr ?_; intro U h; simp only [z0, z1] at h; subst h
            refine wpList_nil ?_
            refine then_n ?_
            refine wp_region_opq ?_
            intro OPS hY
            have y1 := hY 1 35 rfl
            clear hY
            refine s_val 34 rfl rfl (.bool false) (rfl) ?_
            refine nr ?_; intro U h; simp only [z0, z1] at h; subst h
            refine s_val 35 rfl rfl (.bool false) (rfl) ?_
            refine nr ?_; intro U h; simp only [z0, z1] at h; subst h
            refine s_skipY 36 rfl rfl y1 rfl ?_
            refine nr ?_; intro U h; simp only [z0, z1] at h; subst h
            refine s_skipY 37 rfl rfl y1 rfl ?_
            refine nr ?_; intro U h; simp only [z0, z1] at h; subst h
            refine s_skipY 38 rfl rfl y1 rfl ?_
            refine nr ?_; intro U h; simp only [z0, z1] at h; subst h
            refine s_val 39 rfl rfl (.bool false) (rfl) ?_
            refine nr ?_; intro U h; simp only [z0, z1] at h; subst h
            refine s_val 9 rfl rfl (.bool false) (rfl) ?_
            refine nr ?_; intro U h; simp only [z0, z1] at h; subst h
            refine wpList_nil ?_
            refine blk_n ?_
            refine then_n ?_
            refine wp_region_lit ?_
            refine s_val 40 rfl rfl (.int .i64 ((j + 1 : Nat) : Int)) (run_addI 3 _ _ _ rfl ((j : Nat) : Int) 1 ((j + 1 : Nat) : Int) rfl rfl (by omega) (by omega) (by omega) _) ?_
            refine nr ?_; intro U h; simp only [z0, z1] at h; subst h
            refine s_val 30 rfl rfl (.int .i64 ((j + 1 : Nat) : Int)) (rfl) ?_
            refine nr ?_; intro U h; simp only [z0, z1] at h; subst h
            refine wpList_nil ?_
            refine then_n ?_
            exact ⟨W.length + 1 - (j + 1), by omega, j + 1, false, (fun kz => ([.int .i64 (W.getD j 0), .bool true, .pointer (pK kZ ao j 0), .int .i64 (W.getD j 0), .bool false, .bool false, undef, undef, undef, .bool false, .int .i64 ((j + 1 : Nat) : Int)] : List Value).getD kz undef), rfl, rfl, by omega, (fun h => by cases h), GG, HZ, kg1, HW⟩
        · have hq0 := hq
          clear hq
          refine wp_region_lit ?_
          cases hj1 : decide (((j : Nat) : Int) < ((W.length : Nat) : Int))
          · have hje : j = W.length := by have := of_decide_eq_false hj1; omega
            refine s_val 31 rfl rfl (.bool false) (run_lssT 3 _ _ _ rfl ((j : Nat) : Int) ((W.length : Nat) : Int) rfl rfl false hj1 _) ?_
            refine nr ?_; intro U h; simp only [z0, z1] at h; subst h
            refine wpList_nil ?_
            refine then_n ?_
            refine wp_seq ?_
            refine wp_cond_false rfl ?_
            refine wp_exit ?_
            refine then_x ?_
            refine then_x ?_
            refine blk_x ?_
            refine then_n ?_
            refine wp_seq ?_
            refine wp_region_lit ?_
            refine s_val 41 rfl rfl (.bool true) (rfl) ?_
            refine nr ?_; intro U h; simp only [z0, z1] at h; subst h
            refine wpList_nil ?_
            refine then_n ?_
            refine wp_cond_true rfl ?_
            refine wp_region_lit ?_
            refine s_val 42 rfl rfl (.slice ao W.length cap) (rfl) ?_
            refine nr ?_; intro U h; simp only [z0, z1] at h; subst h
            refine s_val 43 rfl rfl (.int .i64 (l.getD i 0)) (rfl) ?_
            refine nr ?_; intro U h; simp only [z0, z1] at h; subst h
            refine s_bsl 44 rfl rfl 22 1 _ rfl [(0, .int .i64 (l.getD i 0))] rfl (([(l.getD i 0)] : List Int).flatMap kZ.E).toArray 3 (by kernel_rfl) ?_
            intro w2 q1 G eq1 kq1
            have bq1 := size_base GG eq1
            have dg1q1 := lt_new kg1 eq1
            have dHZq1 := HZ.ne eq1
            have dHWq1 := HW.ne eq1
            replace kg1 := G.has kg1
            replace HZ := HZ.gro G
            replace HW := HW.gro G
            replace GG := GG.trans G
            clear G
            clear eq1
            refine nr ?_; intro U h; simp only [z0, z1] at h; subst h
            have hxr := (hq0 rfl).1
            have hxn : (l.getD i 0) ∉ W := by have h9 := (hq0 rfl).2; rwa [hje, List.take_length] at h9
            refine s_appK rZ (by decide) (by decide) 45 rfl rfl _ _ rfl rfl HW (l' := [(l.getD i 0)]) rfl (RK.blk (K := kZ) kq1 (one_all (hI.at hil)) (Nat.le_refl _)) (by show _ + 1 ≤ _; omega) HZ ?_
            intro nwa nwc w3 HO2 G2 _
            replace kg1 := G2.has kg1 (fun hm9 => by have := HW.own.base g1 hm9; omega)
            replace HZ := HZ.le G2.size
            replace GG := G2.gro GG (fun k hk => by have := HW.own.base k hk; omega)
            clear G2 HW kq1
            have HW := HO2
            clear HO2
            refine nr ?_; intro U h; simp only [z0, z1] at h; subst h
            refine s_val 6 rfl rfl (.slice nwa (W ++ [(l.getD i 0)]).length nwc) (rfl) ?_
            refine nr ?_; intro U h; simp only [z0, z1] at h; subst h
            refine wpList_nil ?_
            refine blk_n ?_
            refine then_n ?_
            refine wp_region_lit ?_
            refine s_val 46 rfl rfl (.int .i64 ((i + 1 : Nat) : Int)) (run_addI 3 _ _ _ rfl ((i : Nat) : Int) 1 ((i + 1 : Nat) : Int) rfl rfl (by omega) (by omega) (by omega) _) ?_
            refine nr ?_; intro U h; simp only [z0, z1] at h; subst h
            refine s_val 18 rfl rfl (.int .i64 ((i + 1 : Nat) : Int)) (rfl) ?_
            refine nr ?_; intro U h; simp only [z0, z1] at h; subst h
            refine wpList_nil ?_
            refine then_n ?_
            exact ⟨l.length + 1 - (i + 1), by omega, i + 1, nwa, nwc, W ++ [(l.getD i 0)], (fun kz => ([.int .i64 (l.getD i 0), .bool true, us2 0, .bool true, .pointer (pK kZ ao0 i 0), .int .i64 (l.getD i 0), .int .i64 (l.getD i 0), .bool true, .bool true, .int .i64 (l.getD i 0), .bool true, .bool true, .slice ao W.length cap, .int .i64 ((W.length : Nat) : Int), .int .i64 ((j : Nat) : Int), .bool false, us2 2, us2 3, us2 4, us2 5, us2 6, us2 7, us2 8, us2 9, us2 10, .bool true, .slice ao W.length cap, .int .i64 (l.getD i 0), .slice (some ⟨q1, 0, none⟩) 1 1, .slice nwa (W ++ [(l.getD i 0)]).length nwc, .int .i64 ((i + 1 : Nat) : Int)] : List Value).getD kz undef), rfl, rfl, by omega, hW.snoc hxr hxn, GG, HZ, kg1, HW⟩
          · have hjl : j < W.length := by have := of_decide_eq_true hj1; omega
            refine s_val 31 rfl rfl (.bool true) (run_lssT 3 _ _ _ rfl ((j : Nat) : Int) ((W.length : Nat) : Int) rfl rfl true hj1 _) ?_
            refine nr ?_; intro U h; simp only [z0, z1] at h; subst h
            refine wpList_nil ?_
            refine then_n ?_
            refine wp_seq ?_
            refine wp_cond_true rfl ?_
            refine wp_skip ?_
            refine then_n ?_
            refine wp_seq ?_
            refine wp_block ?_
            refine wp_seq ?_
            refine wp_region_lit ?_
            refine s_val 32 rfl rfl (.pointer (pK kZ ao j 0)) (run_ixK rZ (HW.re) _ _ rfl rfl j rfl (by omega)) ?_
            refine nr ?_; intro U h; simp only [z0, z1] at h; subst h
            refine s_val 33 rfl rfl (.int .i64 (W.getD j 0)) (run_ldZ (HW.re) _ rfl j rfl (by omega)) ?_
            refine nr ?_; intro U h; simp only [z0, z1] at h; subst h
            refine s_val 11 rfl rfl (.int .i64 (W.getD j 0)) (rfl) ?_
            refine nr ?_; intro U h; simp only [z0, z1] at h; subst h
            refine wpList_nil ?_
            refine then_n ?_
            refine wp_region_opq ?_
            intro OPS hY
            have y1 := hY 1 35 rfl
            clear hY
            refine s_val 34 rfl rfl (.bool true) (rfl) ?_
            refine nr ?_; intro U h; simp only [z0, z1] at h; subst h
            refine s_val 35 rfl rfl (.bool true) (rfl) ?_
            refine nr ?_; intro U h; simp only [z0, z1] at h; subst h
            refine s_gvalY 36 rfl rfl y1 rfl (.int .i64 (W.getD j 0)) (rfl) ?_
            refine nr ?_; intro U h; simp only [z0, z1] at h; subst h
            refine s_gvalY 37 rfl rfl y1 rfl (.int .i64 (l.getD i 0)) (rfl) ?_
            refine nr ?_; intro U h; simp only [z0, z1] at h; subst h
            cases hx : decide ((W.getD j 0) = (l.getD i 0))
            · refine s_gvalY 38 rfl rfl y1 rfl (.bool true) (run_neq_k 3 .i64 _ _ _ rfl Try.underlying3 (W.getD j 0) (l.getD i 0) rfl rfl true hx _) ?_
              refine nr ?_; intro U h; simp only [z0, z1] at h; subst h
              refine s_val 39 rfl rfl (.bool true) (rfl) ?_
              refine nr ?_; intro U h; simp only [z0, z1] at h; subst h
              refine s_val 9 rfl rfl (.bool true) (rfl) ?_
              refine nr ?_; intro U h; simp only [z0, z1] at h; subst h
              refine wpList_nil ?_
              refine blk_n ?_
              refine then_n ?_
              refine wp_region_lit ?_
              refine s_val 40 rfl rfl (.int .i64 ((j + 1 : Nat) : Int)) (run_addI 3 _ _ _ rfl ((j : Nat) : Int) 1 ((j + 1 : Nat) : Int) rfl rfl (by omega) (by omega) (by omega) _) ?_
              refine nr ?_; intro U h; simp only [z0, z1] at h; subst h
              refine s_val 30 rfl rfl (.int .i64 ((j + 1 : Nat) : Int)) (rfl) ?_
              refine nr ?_; intro U h; simp only [z0, z1] at h; subst h
              refine wpList_nil ?_
              refine then_n ?_
              exact ⟨W.length + 1 - (j + 1), by omega, j + 1, true, (fun kz => ([.int .i64 (W.getD j 0), .bool true, .pointer (pK kZ ao j 0), .int .i64 (W.getD j 0), .bool true, .bool true, .int .i64 (W.getD j 0), .int .i64 (l.getD i 0), .bool true, .bool true, .int .i64 ((j + 1 : Nat) : Int)] : List Value).getD kz undef), rfl, rfl, by omega, (fun _ => ⟨(hq0 rfl).1, tk_not hjl (hq0 rfl).2 (of_decide_eq_false hx)⟩), GG, HZ, kg1, HW⟩
            · refine s_gvalY 38 rfl rfl y1 rfl (.bool false) (run_neq_k 3 .i64 _ _ _ rfl Try.underlying3 (W.getD j 0) (l.getD i 0) rfl rfl false hx _) ?_
              refine nr ?_; intro U h; simp only [z0, z1] at h; subst h
              refine s_val 39 rfl rfl (.bool false) (rfl) ?_
              refine nr ?_; intro U h; simp only [z0, z1] at h; subst h
              refine s_val 9 rfl rfl (.bool false) (rfl) ?_
              refine nr ?_; intro U h; simp only [z0, z1] at h; subst h
              refine wpList_nil ?_
              refine blk_n ?_
              refine then_n ?_
              refine wp_region_lit ?_
              refine s_val 40 rfl rfl (.int .i64 ((j + 1 : Nat) : Int)) (run_addI 3 _ _ _ rfl ((j : Nat) : Int) 1 ((j + 1 : Nat) : Int) rfl rfl (by omega) (by omega) (by omega) _) ?_
              refine nr ?_; intro U h; simp only [z0, z1] at h; subst h
              refine s_val 30 rfl rfl (.int .i64 ((j + 1 : Nat) : Int)) (rfl) ?_
              refine nr ?_; intro U h; simp only [z0, z1] at h; subst h
              refine wpList_nil ?_
              refine then_n ?_
              exact ⟨W.length + 1 - (j + 1), by omega, j + 1, false, (fun kz => ([.int .i64 (W.getD j 0), .bool true, .pointer (pK kZ ao j 0), .int .i64 (W.getD j 0), .bool true, .bool true, .int .i64 (W.getD j 0), .int .i64 (l.getD i 0), .bool false, .bool false, .int .i64 ((j + 1 : Nat) : Int)] : List Value).getD kz undef), rfl, rfl, by omega, (fun h => by cases h), GG, HZ, kg1, HW⟩
end Go.Proofs.Ytmpnepbmpmkmkab
