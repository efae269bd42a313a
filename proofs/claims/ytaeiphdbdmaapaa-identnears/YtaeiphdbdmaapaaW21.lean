/- Lists of identities: likeness, copies. -/
import Derived.Test.YtaeiphdbdmaapaaW20
namespace Go.Proofs.Ytaeiphdbdmaapaa
open Go.RowKit

set_option maxHeartbeats 400000 in
theorem same_none (a a' : Option Addr) (cap cap' : Nat) (w : World) : Calls Try.prog 21 #[.slice a 0 cap, .slice a' 0 cap'] w fun e w' => e = .returned (.bool true) ∧ Gro w w' := by
  go_enter Try.func21, Try.ntmps21
  go_wp2
  refine wp_loop_rounds 1 ?_
  rw [rounds_succ]
  go_wp2
  go_ret
  exact ⟨rfl, Gro.refl w⟩
set_option maxHeartbeats 1600000 in
theorem same_any (l : List Nat) (hl : ∀ i, i < l.length → l.getD i 0 < top) (hn : l.length ≤ 1048576) (g off cap : Nat) (cs : Array Value) (t : TypeId) (fr : Nat × Nat)
    (hcs : ∀ i, i < l.length → off + i * 16 + 16 ≤ cs.size ∧ cs.extract (off + i * 16) (off + i * 16 + 16) = idA (l.getD i 0)) (g' off' cap' : Nat) (cs' : Array Value) (t' : TypeId) (fr' : Nat × Nat)
    (hcs' : ∀ i, i < l.length → off' + i * 16 + 16 ≤ cs'.size ∧ cs'.extract (off' + i * 16) (off' + i * 16 + 16) = idA (l.getD i 0)) (w : World) (k8 : w.heap[g]? = some (.cells cs t fr)) (k9 : w.heap[g']? = some (.cells cs' t' fr')) :
    Calls Try.prog 21 #[.slice (some ⟨g, off, none⟩) l.length cap, .slice (some ⟨g', off', none⟩) l.length cap'] w fun e w' => e = .returned (.bool true) ∧ Gro w w' := by
  have HL : Hid (∀ i, i < l.length → l.getD i 0 < top) := hl
  have HC : Hid (∀ i, i < l.length → off + i * 16 + 16 ≤ cs.size ∧ cs.extract (off + i * 16) (off + i * 16 + 16) = idA (l.getD i 0)) := hcs
  have HC' : Hid (∀ i, i < l.length → off' + i * 16 + 16 ≤ cs'.size ∧ cs'.extract (off' + i * 16) (off' + i * 16 + 16) = idA (l.getD i 0)) := hcs'
  clear hl hcs hcs'
  go_enter Try.func21, Try.ntmps21
  go_wp2
  go_loopw [5] (fun i wr => ∃ k : Nat, k ≤ l.length ∧ i = .int .i64 k ∧ Gro w wr) (fun i _ => l.length - (intOf i).toNat)
  case atStart => exact ⟨0, by omega, rfl, Gro.refl _⟩
  case round =>
    rename_i wr
    obtain ⟨k, hk, rfl, GG⟩ := hrel
    replace k8 := GG.has k8
    replace k9 := GG.has k9
    cases hlt : decide ((k : Int) < l.length)
    · have ek : k = l.length := by simp at hlt; omega
      subst ek
      go_wp2
      go_ret
      exact ⟨rfl, GG⟩
    · have hkl : k < l.length := by simp at hlt; omega
      have HX := HL.out k hkl
      obtain ⟨LE, EXT⟩ := HC.out k hkl
      obtain ⟨LE2, EXT2⟩ := HC'.out k hkl
      generalize l.getD k 0 = X at *
      have EX : Hid (cs.extract (off + k * 16) (off + k * 16 + 16) = idA X) := EXT
      have EY : Hid (cs'.extract (off' + k * 16) (off' + k * 16 + 16) = idA X) := EXT2
      clear EXT EXT2
      go_wp2_with fail
      try simp only [Act.put, List.setIfInBounds_toArray, List.set_cons_zero, List.set_cons_succ]
      refine wp_region_gro follows (by kernel_rfl) ?_
      (go_big_quiet_want; go_big_quiet_op; first | go_big_quiet_on | (refine ⟨_, fun _ _ => rfl, ?_⟩; go_big_quiet_on))
      (go_big_quiet_want; go_big_quiet_op; first | go_big_quiet_on | (refine ⟨_, fun _ _ => rfl, ?_⟩; go_big_quiet_on))
      (go_big_quiet_want; go_big_quiet_op; first | go_big_quiet_on | (refine ⟨_, fun _ _ => rfl, ?_⟩; go_big_quiet_on))
      refine wq_load rfl 23 _ rfl g (off + k * 16) 16 rfl t cs fr _ (fun _ hw => Gro.has hw k8) Try.underlying23 rfl size23 LE _ EX.out ?_; simp only [Act.put, List.setIfInBounds_toArray, List.set_cons_zero, List.set_cons_succ]
      (go_big_quiet_want; go_big_quiet_op; first | go_big_quiet_on | (refine ⟨_, fun _ _ => rfl, ?_⟩; go_big_quiet_on))
      (go_big_quiet_want; go_big_quiet_op; first | go_big_quiet_on | (refine ⟨_, fun _ _ => rfl, ?_⟩; go_big_quiet_on))
      (go_big_quiet_want; go_big_quiet_op; first | go_big_quiet_on | (refine ⟨_, fun _ _ => rfl, ?_⟩; go_big_quiet_on))
      refine wq_load rfl 23 _ rfl g' (off' + k * 16) 16 rfl t' cs' fr' _ (fun _ hw => Gro.has hw k9) Try.underlying23 rfl size23 LE2 _ EY.out ?_; simp only [Act.put, List.setIfInBounds_toArray, List.set_cons_zero, List.set_cons_succ]
      refine wq_value rfl (.bool false) (fun w => run_eqlop_id _ _ _ rfl X X rfl rfl (.bool false) (fun w => by rw [run_neq_id X X HX HX w, decide_eq_true rfl]; rfl) w) ?_; simp only [Act.put, List.setIfInBounds_toArray, List.set_cons_zero, List.set_cons_succ]
      refine wpQuiet_nil ?_
      intro wq Gq0
      have Gq : Gro _ wq := Gq0
      clear Gq0
      replace GG := GG.trans Gq
      clear Gq
      go_wp2
      go_light
      go_roundw
      case rel => exact ⟨k + 1, by omega, by go_num, GG⟩
      case measure => simp [intOf]; omega
theorem same_sl (l : List Nat) (hn : l.length ≤ 1048576) (v v' : Value) (w : World) (h : SL w v l) (h' : SL w v' l) : Calls Try.prog 21 #[v, v'] w fun e w' => e = .returned (.bool true) ∧ Gro w w' := by
  by_cases h0 : 0 < l.length
  · rcases h.out with ⟨rfl, a, cap, rfl, _⟩ | ⟨g, off, cap, cs, t, fr, rfl, h2, h3⟩
    · simp at h0
    · rcases h'.out with ⟨rfl, a, cap, rfl, _⟩ | ⟨g', off', cap', cs', t', fr', rfl, h2', h3'⟩
      · simp at h0
      · exact same_any l h.lts hn g off cap cs t fr h3 g' off' cap' cs' t' fr' h3' w h2 h2'
  · have e : l = [] := List.eq_nil_of_length_eq_zero (by omega)
    subst e
    have one : ∀ {u}, SL w u [] → ∃ a cap, u = .slice a 0 cap := fun {u} hu => by
      rcases hu.out with ⟨_, a, cap, rfl, _⟩ | ⟨g, off, cap, cs, t, fr, rfl, _, _⟩
      · exact ⟨a, cap, rfl⟩
      · exact ⟨_, cap, rfl⟩
    obtain ⟨a, cap, rfl⟩ := one h
    obtain ⟨a', cap', rfl⟩ := one h'
    exact same_none a a' cap cap' w

theorem run_slice0 {o : Oper} {A : Act} (ho : o.op = .buildSlice 29 0 #[]) (w : World) :
    (execOp A.eval o).run Try.prog w = .ok (.value (.slice (some ⟨w.heap.size, 0, none⟩) 0 0)) (w.alloc (.cells #[] 23)) := by
  have h1 : (Instr.buildSlice 29 0 #[]).run Try.prog w = .ok (.slice (some ⟨w.heap.size, 0, none⟩) 0 0) (w.alloc (.cells #[] 23)) := by kernel_rfl
  unfold execOp
  simp only [ho, List.map_toArray, List.map_nil, Sem.run_bind, h1, Result.andThen_ok, Sem.run_pure]
theorem wpList_slice0 {ops : Array Oper} {rest : List Oper} {o : Oper} {a : Act} {w : World} {Q : Exit → Act → World → Prop} (dst : Nat) (hd : o.dst = some dst) (hgd : o.guard = none) (ho : o.op = .buildSlice 29 0 #[])
    (h : wpList Try.prog ops Q rest (a.put (some dst) (.slice (some ⟨w.heap.size, 0, none⟩) 0 0)) (w.alloc (.cells #[] 23))) : wpList Try.prog ops Q (o :: rest) a w :=
  wpList_plain hgd fun _ hK => by
    unfold Oper.wp
    rw [run_slice0 ho, Oper.upon_value, hd]
    exact hK _ _ h
theorem info23 : ∃ i, Try.prog.info? 23 = some i ∧ i.zero = some (.agg (idA 0)) ∧ i.size = 16 ∧ i.bytes = 16 := by
  have h : (Try.prog.info? 23).map (fun i => (i.zero, i.size, i.bytes)) = some (some (.agg (idA 0)), 16, 16) := by kernel_rfl
  cases hi : Try.prog.info? 23 with
  | none => rw [hi] at h; cases h
  | some i =>
    rw [hi] at h
    simp only [Option.map_some, Option.some.injEq, Prod.mk.injEq] at h
    exact ⟨i, rfl, h.1, h.2.1, h.2.2⟩
theorem gro_of_grown {w w' : World} {row : Option Nat} {B : Nat} (h : w.grownBy w' row) (hB : ∀ k, row = some k → B ≤ k) (hs : B ≤ w.heap.size) : Below B w w' :=
  ⟨h.os, h.tape, h.output, h.size, fun k hk => h.block k (by omega) (fun e => by have := hB k e.symm; omega)⟩
theorem part_get (l : List Nat) (off : Nat) (cs : Array Value) (hcs : ∀ i, i < l.length → off + i * 16 + 16 ≤ cs.size ∧ cs.extract (off + i * 16) (off + i * 16 + 16) = idA (l.getD i 0)) (j : Nat) (hj : j < l.length * 16) :
    cs[off + j]? = some (.int .u8 (byt (l.getD (j / 16) 0) (j % 16) : Int)) := by
  obtain ⟨h1, h2⟩ := hcs (j / 16) (by omega)
  have h3 : (cs.extract (off + j / 16 * 16) (off + j / 16 * 16 + 16))[j % 16]? = (idA (l.getD (j / 16) 0))[j % 16]? := by rw [h2]
  rw [idA_get _ _ (by omega), Array.getElem?_extract] at h3
  rw [if_pos (by omega)] at h3
  have e : off + j / 16 * 16 + j % 16 = off + j := by omega
  rw [e] at h3
  exact h3
theorem part_of_get (l : List Nat) (off : Nat) (cs : Array Value) (hs : off + l.length * 16 ≤ cs.size) (h : ∀ j, j < l.length * 16 → cs[off + j]? = some (.int .u8 (byt (l.getD (j / 16) 0) (j % 16) : Int))) :
    ∀ i, i < l.length → off + i * 16 + 16 ≤ cs.size ∧ cs.extract (off + i * 16) (off + i * 16 + 16) = idA (l.getD i 0) := by
  intro i hi
  have hle : off + i * 16 + 16 ≤ cs.size := by omega
  refine ⟨hle, ?_⟩
  apply Array.ext_getElem?
  intro r
  rw [Array.getElem?_extract]
  by_cases hr : r < 16
  · rw [idA_get _ _ hr, if_pos (by omega)]
    have := h (i * 16 + r) (by omega)
    have e1 : (i * 16 + r) / 16 = i := by omega
    have e2 : (i * 16 + r) % 16 = r := by omega
    rw [e1, e2] at this
    rw [show off + i * 16 + r = off + (i * 16 + r) by omega]
    exact this
  · rw [if_neg (by omega), Array.getElem?_eq_none (by rw [idA_size]; omega)]
theorem sl_of_owns {w' : World} {B : Nat} {v' : Value} {l : List Nat} {news : List Value} (hl : ∀ i, i < l.length → l.getD i 0 < top) (hn : ∀ j, j < l.length * 16 → news[j]? = some (.int .u8 (byt (l.getD (j / 16) 0) (j % 16) : Int))) (h : w'.ownsRow B 23 16 v' l.length news) : SL w' v' l := by
  refine ⟨hl, ?_⟩
  rcases h.2 with ⟨rfl, h0⟩ | ⟨g, cap, cur, rfl, _, hg, hc, _, hs, ht⟩
  · exact .inl ⟨List.eq_nil_of_length_eq_zero h0, none, 0, rfl, fun _ => rfl⟩
  · refine .inr ⟨g, 0, cap, cur, 23, (0, 0), rfl, hg, part_of_get l 0 cur ?_ fun j hj => ?_⟩
    · rw [hs, Nat.zero_add]; exact Nat.mul_le_mul_right _ hc
    · have h1 := hn j hj
      rw [← ht, List.getElem?_take, if_pos hj] at h1
      rw [Nat.zero_add]
      simpa using h1
def SLnew (w : World) (l : List Nat) (e : Ending) (w' : World) : Prop := ∃ v', e = .returned v' ∧ SL w' v' l ∧ Gro w w'
set_option maxHeartbeats 1600000 in
theorem copy_none (w : World) : Calls Try.prog 16 #[.slice none 0 0] w (SLnew w []) := by
  obtain ⟨i, hi, hz, hs, hb⟩ := info23
  go_enter Try.func16, Try.ntmps16
  have hown := World.ownsRow_made (base := w.heap.size) (e := 23) (size := 16) w #[] 0 (Nat.le_refl _) (by decide) rfl
  go_wp2_with (with_reducible refine wpList_at ?_; first | (refine wpList_slice0 3 rfl rfl rfl ?_; (try simp only [Act.put, List.setIfInBounds_toArray, List.set_cons_zero, List.set_cons_succ])) | (refine wpList_append_own_none rfl _ _ 29 rfl w.heap.size 23 i 16 Try.underlying29 hi _ 0 [] rfl hown rfl ?_; (try simp only [Act.put, List.setIfInBounds_toArray, List.set_cons_zero, List.set_cons_succ])))
  go_ret
  exact ⟨_, rfl, ⟨fun i hi => by simp at hi, .inl ⟨rfl, _, _, rfl, fun h => by cases h⟩⟩, gro_alloc _ _⟩
theorem wpList_copy {ops : Array Oper} {rest : List Oper} {o : Oper} {A : Act} {Q : Exit → Act → World → Prop} (w : World) (l : List Nat) (a : Addr) (cap : Nat) (news : List Value) (hlen : news.length = l.length * 16) (H1 : Hid (l.length + 0 ≤ 1048576)) (hown : (w.alloc (.cells #[] 23)).ownsRow w.heap.size 23 16 (.slice (some ⟨w.heap.size, 0, none⟩) 0 0) 0 [])
    (HX : Hid (∀ j u, news[j]? = some u → (w.alloc (.cells #[] 23)).cell? (a.add j) = some u)) (HO : Hid (∀ u ∈ news, u.oneCell' = true)) (hgd : o.guard = none) (s x : Operand) (ho : o.op = .call { callee := .builtin .append, args := #[s, x], argTypes := #[29, 29] }) (hs : A.eval s = .slice (some ⟨w.heap.size, 0, none⟩) 0 0) (hx : A.eval x = .slice (some a) l.length cap)
    (h : ∀ v' w', w'.ownsRow w.heap.size 23 16 v' l.length news → (w.alloc (.cells #[] 23)).grownBy w' (some w.heap.size) → wpList Try.prog ops Q rest (A.put o.dst v') w') : wpList Try.prog ops Q (o :: rest) A (w.alloc (.cells #[] 23)) := by
  obtain ⟨i, hi, hz, hsz, hb⟩ := info23
  refine wpList_append_own _ hgd s x 29 ho w.heap.size 23 i (.agg (idA 0)) 16 16 Try.underlying29 hi hz hsz hb (idA_size 0) (by decide) _ 0 [] hs hown a l.length cap news hx hlen HX.out HO.out (by have := H1.out; simp only [maxLen]; omega) (by have := H1.out; omega) (gro_alloc w _).size ?_
  intro v' w' h1 h2 h3
  rw [Nat.zero_add, List.nil_append] at h1
  exact h v' w' h1 h2
set_option maxHeartbeats 1600000 in
theorem copy_any (l : List Nat) (hl : ∀ i, i < l.length → l.getD i 0 < top) (hn : l.length ≤ 1048576) (a : Addr) (cap : Nat) (news : List Value) (hlen : news.length = l.length * 16) (hnews : ∀ j, j < l.length * 16 → news[j]? = some (.int .u8 (byt (l.getD (j / 16) 0) (j % 16) : Int)))
    (w : World) (hcell : ∀ j u, news[j]? = some u → w.cell? (a.add j) = some u) : Calls Try.prog 16 #[.slice (some a) l.length cap] w (SLnew w l) := by
  obtain ⟨i, hi, hz, hs, hb⟩ := info23
  have hone : ∀ u ∈ news, u.oneCell' = true := fun u hu => by
    obtain ⟨j, hj, rfl⟩ := List.getElem_of_mem hu
    have := hnews j (by omega)
    rw [List.getElem?_eq_getElem hj] at this
    simp only [Option.some.injEq] at this
    rw [this]
    rfl
  have hown := World.ownsRow_made (base := w.heap.size) (e := 23) (size := 16) w #[] 0 (Nat.le_refl _) (by decide) rfl
  have hcell' : ∀ j u, news[j]? = some u → (w.alloc (.cells #[] 23)).cell? (a.add j) = some u := fun j u hu => by
    have h1 := hcell j u hu
    have := World.block_lt_of_cell? w _ h1
    rw [← h1]
    exact World.cell?_of_block ((gro_alloc w _).block _ this)
  have H1 : Hid (l.length + 0 ≤ 1048576) := hn
  have HN : Hid (∀ j, j < l.length * 16 → news[j]? = some (.int .u8 (byt (l.getD (j / 16) 0) (j % 16) : Int))) := hnews
  have HL : Hid (∀ i, i < l.length → l.getD i 0 < top) := hl
  have HX : Hid (∀ j u, news[j]? = some u → (w.alloc (.cells #[] 23)).cell? (a.add j) = some u) := hcell'
  have HO : Hid (∀ u ∈ news, u.oneCell' = true) := hone
  clear hn hnews hl hcell hcell' hone
  go_enter Try.func16, Try.ntmps16
  go_wp2_with (with_reducible refine wpList_at ?_; first | (refine wpList_slice0 3 rfl rfl rfl ?_; (try simp only [Act.put, List.setIfInBounds_toArray, List.set_cons_zero, List.set_cons_succ])) | (refine wpList_copy w l a cap news hlen H1 hown HX HO rfl _ _ rfl rfl rfl ?_; intro v' w' hown' hgr; (try simp only [Act.put, List.setIfInBounds_toArray, List.set_cons_zero, List.set_cons_succ])))
  go_ret
  exact ⟨v', rfl, sl_of_owns HL.out HN.out hown', Below.trans (gro_alloc w _) (gro_of_grown hgr (fun k hk => by cases hk; exact Nat.le_refl _) (gro_alloc w _).size)⟩
theorem copy_sl (l : List Nat) (hn : l.length ≤ 1048576) (v : Value) (w : World) (h : SL w v l) : Calls Try.prog 16 #[v] w (SLnew w l) := by
  rcases h.out with ⟨rfl, a, cap, rfl, h0⟩ | ⟨g, off, cap, cs, t, fr, rfl, h2, h3⟩
  · cases a with
    | none =>
      have := h0 rfl
      subst this
      exact copy_none w
    | some a => exact copy_any [] (fun i hi => by simp at hi) (by simp) a cap [] rfl (fun j hj => by simp at hj) w (fun j u hu => by simp at hu)
  · have hs : off + l.length * 16 ≤ cs.size ∨ l.length = 0 := by
      by_cases h0 : l.length = 0
      · exact .inr h0
      · have := (h3 (l.length - 1) (by omega)).1
        exact .inl (by omega)
    rcases hs with hs | hs
    · refine copy_any l h.lts hn ⟨g, off, none⟩ cap (cs.extract off (off + l.length * 16)).toList (by simp; omega) (fun j hj => ?_) w (fun j u hu => ?_)
      · have := part_get l off cs h3 j hj
        rw [Array.getElem?_toList, Array.getElem?_extract, if_pos (by omega)]
        exact this
      · rw [Array.getElem?_toList, Array.getElem?_extract] at hu
        have hadd : (⟨g, off, none⟩ : Addr).add j = ⟨g, off + j, none⟩ := by unfold Addr.add; split <;> simp_all
        rw [hadd, cell_of_row w g (off + j) _ t _ h2]
        split at hu
        · exact hu
        · cases hu
    · have e : l = [] := List.eq_nil_of_length_eq_zero hs
      subst e
      exact copy_any [] (fun i hi => by simp at hi) (by simp) _ cap [] rfl (fun j hj => by simp at hj) w (fun j u hu => by simp at hu)
end Go.Proofs.Ytaeiphdbdmaapaa
