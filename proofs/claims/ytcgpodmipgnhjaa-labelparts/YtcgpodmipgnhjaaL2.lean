/- Labels: the runes of a text. -/
import Derived.Test.YtcgpodmipgnhjaaL1
namespace Go.Proofs.Ytcgpodmipgnhjaa
open Go.RowKit

/-- The call's own row of runes, behind the block g. -/
structure Own (w : World) (g : Nat) (v : Value) (l : List Nat) : Prop where
  out : w.ownsRow (g + 1) 21 1 v l.length (l.map fun r : Nat => Value.int .i32 (r : Int))
theorem grown_of_gro {w w' : World} (h : Gro w w') : w.grownBy w' none := ⟨h.os, h.tape, h.output, h.size, fun k hk _ => h.block k hk⟩
theorem Own.gro {w w' : World} {g : Nat} {v : Value} {l : List Nat} (h : Own w g v l) (G : Gro w w') : Own w' g v l :=
  ⟨h.out.kept (grown_of_gro G) (by cases hv : v.ownBlock <;> simp)⟩
theorem Own.store {w w' : World} {g b : Nat} {v : Value} {l : List Nat} {x : Obj} (h : Own w g v l) (S : Stored w w' b x) (hb : b ≤ g) : Own w' g v l :=
  ⟨h.out.kept (row := some b) ⟨S.os, S.tape, S.output, Nat.le_of_eq S.size.symm, fun k _ hk => S.old k (fun e => hk (by rw [e]))⟩ (by
    cases hv : v.ownBlock with
    | none => exact .inl rfl
    | some k =>
      right
      intro e
      cases e
      have := (h.out.lt _ hv).1
      omega)⟩
theorem run_slice1 {o : Oper} {A : Act} (x : Operand) (ho : o.op = .buildSlice 22 1 #[(0, x)]) (z : Int) (hx : A.eval x = .int .i32 z) (w : World) :
    (execOp A.eval o).run Try.prog w = .ok (.value (.slice (some ⟨w.heap.size, 0, none⟩) 1 1)) (w.alloc (.cells #[.int .i32 z] 21)) := by
  have h1 : (Instr.buildSlice 22 1 #[(0, .int .i32 z)]).run Try.prog w = .ok (.slice (some ⟨w.heap.size, 0, none⟩) 1 1) (w.alloc (.cells #[.int .i32 z] 21)) := by kernel_rfl
  unfold execOp
  simp only [ho, List.map_toArray, List.map_cons, List.map_nil, hx, Sem.run_bind, h1, Result.andThen_ok, Sem.run_pure]
theorem wpList_slice1 {ops : Array Oper} {rest : List Oper} {o : Oper} {a : Act} {w : World} {Q : Exit → Act → World → Prop} (dst : Nat) (hd : o.dst = some dst) (hgd : o.guard = none) (x : Operand) (ho : o.op = .buildSlice 22 1 #[(0, x)]) (z : Int) (hx : a.eval x = .int .i32 z)
    (h : ∀ w' g, Gro w w' → w.heap.size = g → w'.heap[g]? = some (.cells #[.int .i32 z] 21 (0, 0)) → wpList Try.prog ops Q rest (a.put (some dst) (.slice (some ⟨g, 0, none⟩) 1 1)) w') : wpList Try.prog ops Q (o :: rest) a w :=
  wpList_plain hgd fun _ hK => by
    unfold Oper.wp
    rw [run_slice1 x ho z hx, Oper.upon_value, hd]
    exact hK _ _ (h _ _ (gro_alloc _ _) rfl (heap_alloc_new _ _))
theorem info21 : ∃ i, Try.prog.info? 21 = some i ∧ i.zero = some (.int .i32 0) ∧ i.size = 1 ∧ i.bytes = 4 := by
  have h : (Try.prog.info? 21).map (fun i => (i.zero, i.size, i.bytes)) = some (some (.int .i32 0), 1, 4) := by kernel_rfl
  cases hi : Try.prog.info? 21 with
  | none => rw [hi] at h; cases h
  | some i =>
    rw [hi] at h
    simp only [Option.map_some, Option.some.injEq, Prod.mk.injEq] at h
    exact ⟨i, rfl, h.1, h.2.1, h.2.2⟩
theorem gro_of_grown {w w' : World} {row : Option Nat} {B : Nat} (h : w.grownBy w' row) (hB : ∀ k, row = some k → B ≤ k) (hs : B ≤ w.heap.size) : Below B w w' :=
  ⟨h.os, h.tape, h.output, h.size, fun k hk => h.block k (by omega) (fun e => by have := hB k e.symm; omega)⟩
/-- One rune more behind the call's own row; the block g, that lies ahead of it, stays. -/
theorem wpList_app1 {ops : Array Oper} {rest : List Oper} {o : Oper} {a : Act} {w : World} {Q : Exit → Act → World → Prop} (g : Nat) (hgd : o.guard = none) (s x : Operand) (ho : o.op = .call { callee := .builtin .append, args := #[s, x], argTypes := #[22, 22] })
    (v : Value) (l : List Nat) (hs : a.eval s = v) (hown : Own w g v l) (g2 z : Nat) (k2 : w.heap[g2]? = some (.cells #[.int .i32 (z : Int)] 21 (0, 0))) (hx : a.eval x = .slice (some ⟨g2, 0, none⟩) 1 1) (hn : l.length ≤ 1048576) {O : Obj} (kg : w.heap[g]? = some O)
    (h : ∀ v' w', Own w' g v' (l ++ [z]) → w'.heap[g]? = some O → Below (g + 1) w w' → wpList Try.prog ops Q rest (a.put o.dst v') w') : wpList Try.prog ops Q (o :: rest) a w := by
  obtain ⟨i, hi, hz, hsz, hb⟩ := info21
  refine wpList_append_own _ hgd s x 22 ho (g + 1) 21 i (.int .i32 0) 1 4 Try.underlying22 hi hz hsz hb rfl (by decide) v l.length _ hs hown.out ⟨g2, 0, none⟩ 1 1 [.int .i32 (z : Int)] hx rfl (fun j u hu => ?_) (fun u hu => ?_) (by simp only [maxLen]; omega) (by omega) (lt_of_heap kg) ?_
  · have hadd : (⟨g2, 0, none⟩ : Addr).add j = ⟨g2, j, none⟩ := by unfold Addr.add; split <;> simp_all
    rw [hadd, cell_of_row w g2 j _ 21 _ k2]
    simpa using hu
  · simp at hu; rw [hu]; rfl
  · intro v' w' h1 h2 _
    have hB : ∀ k, v.ownBlock = some k → g + 1 ≤ k := fun k hk => (hown.out.lt k hk).1
    have hbel := gro_of_grown h2 hB (lt_of_heap kg)
    refine h v' w' ⟨by simpa using h1⟩ ?_ hbel
    rw [hbel.block g (by omega)]
    exact kg

/-- A walk stands here. -/
structure Stop (p : Prop) : Prop where
  out : p
theorem wpList_stop {P : Program} {ops : Array Oper} {rest : List Oper} {o : Oper} {a : Act} {w : World} {Q : Exit → Act → World → Prop} {s x : Operand} (_ho : o.op = .call { callee := .builtin .append, args := #[s, x], argTypes := #[22, 22] }) (h : Stop (wpList P ops Q (o :: rest) a w)) : wpList P ops Q (o :: rest) a w := h.out
/-- A slice of runes in memory. -/
structure RL (w : World) (v : Value) (l : List Nat) : Prop where
  out : (v = .slice none 0 0 ∧ l = []) ∨ ∃ g cap cs, v = .slice (some ⟨g, 0, none⟩) l.length cap ∧ w.heap[g]? = some (.cells cs 21 (0, 0)) ∧ ∀ j, j < l.length → cs[j]? = some (.int .i32 (l.getD j 0 : Int))
theorem RL.nil (w : World) : RL w (.slice none 0 0) [] := ⟨.inl ⟨rfl, rfl⟩⟩
theorem RL.gro {w w' : World} {v : Value} {l : List Nat} (h : RL w v l) (G : Gro w w') : RL w' v l := by
  rcases h.out with h0 | ⟨g, cap, cs, h1, h2, h3⟩
  · exact ⟨.inl h0⟩
  · exact ⟨.inr ⟨g, cap, cs, h1, G.has h2, h3⟩⟩
theorem Own.rl {w : World} {g : Nat} {v : Value} {l : List Nat} (h : Own w g v l) : RL w v l := by
  constructor
  rcases h.out.2 with ⟨h1, h2⟩ | ⟨b, cap, cur, h1, _, h2, _, _, _, h3⟩
  · exact .inl ⟨h1, List.eq_nil_of_length_eq_zero h2⟩
  · refine .inr ⟨b, cap, cur, h1, h2, fun j hj => ?_⟩
    have h4 : (l.map fun r : Nat => Value.int .i32 (r : Int))[j]? = some (.int .i32 (l.getD j 0 : Int)) := by
      rw [List.getElem?_map, List.getElem?_eq_getElem hj, List.getD_eq_getElem?_getD, List.getElem?_eq_getElem hj]
      rfl
    rw [← h3, List.getElem?_take, if_pos (by omega)] at h4
    simpa using h4
def RunesP (w : World) (s : ByteArray) (e : Ending) (w' : World) : Prop := ∃ v, e = .returned (.tuple #[v, .int .i64 (labE s)]) ∧ RL w' v (labL s) ∧ Gro w w'
theorem iterPos_of {w : World} {g p : Nat} {s : ByteArray} (h : w.heap[g]? = some (.stringIter s p)) : w.iterPos g = p := by simp [World.iterPos, h]
theorem size_zero {s : ByteArray} (h : s.size = 0) : s = { data := #[] } := by
  cases s with
  | mk d => 
    have : d = #[] := Array.eq_empty_of_size_eq_zero h
    rw [this]
theorem str_eq (a b : ByteArray) : (a.toList == b.toList) = decide (a = b) := by
  rw [ByteArray.toList_eq, ByteArray.toList_eq]
  by_cases h : a = b
  · subst h; simp
  · have h2 : a.data.toList ≠ b.data.toList := fun e => h (by
      have h3 := Array.toList_inj.1 e
      cases a
      cases b
      simp at h3
      rw [h3])
    simp [h]
    exact fun e => h2 (by rw [e])
theorem run_eqs {P : Program} (a b : ByteArray) (p : Bool) (hp : decide (a = b) = p) (w : World) : (binOp .eql 9 (.string a) (.string b)).run P w = .ok (.bool p) w := by
  have := str_eq a b
  rw [hp] at this
  simp [go_sem, this]
theorem run_binop {P : Program} {o : Oper} {A : Act} {w : World} (op : BinOp) (t : TypeId) (x y : Operand) (t2 : TypeId) (ho : o.op = .binOp op t x y t2) (u v r : Value) (hx : A.eval x = u) (hy : A.eval y = v) (hg : (eqGuard op t x y u v).run P w = .ok () w) (h : (binOp op t u v).run P w = .ok r w) :
    (execOp A.eval o).run P w = .ok (.value r) w := by
  unfold execOp
  simp only [ho, hx, hy, Sem.run_bind, hg, h, Result.andThen_ok, Sem.run_pure]
theorem run_eqs_op {o : Oper} {A : Act} (x y : Operand) (t2 : TypeId) (ho : o.op = .binOp .eql 9 x y t2) (a b : ByteArray) (hx : A.eval x = .string a) (hy : A.eval y = .string b) (p : Bool) (hp : decide (a = b) = p) (w : World) : (execOp A.eval o).run Try.prog w = .ok (.value (.bool p)) w :=
  run_binop .eql 9 x y t2 ho _ _ _ hx hy (by simp [eqGuard, go_sem]) (run_eqs a b p hp w)
theorem str_ne {s : ByteArray} (h : s.size ≠ 0) : decide (s = { data := #[] }) = false := by
  rw [decide_eq_false_iff_not]
  intro e
  rw [e] at h
  exact h rfl
set_option maxHeartbeats 400000 in
theorem runes_empty (w : World) : Calls Try.prog 9 #[.string { data := #[] }] w (RunesP w { data := #[] }) := by
  obtain ⟨h1, h2⟩ := lab_empty { data := #[] } rfl
  have H1 : Hid (labE { data := #[] } = 3) := h1
  have H2 : Hid (labL { data := #[] } = []) := h2
  clear h1 h2
  go_enter Try.func9, Try.ntmps9
  go_wp2
  go_ret2
  exact ⟨_, by rw [H1.out]; rfl, by rw [H2.out]; exact RL.nil w, Gro.refl w⟩
set_option maxHeartbeats 1600000 in
theorem runes_full (s : ByteArray) (h0 : s.size ≠ 0) (w : World) : Calls Try.prog 9 #[.string s] w (RunesP w s) := by
  have GG : Gro w w := Gro.refl w
  have hne := str_ne h0
  go_enter Try.func9, Try.ntmps9
  go_wp2_with (first | (with_reducible refine wpList_at ?_; first | (refine wpList_range_d 12 rfl rfl 9 _ rfl Try.underlying9 _ rfl ?_; intro w1 g1 G1 e1 k1; have b1 := size_base GG e1; replace GG := GG.trans G1; clear G1 e1; (try simp only [Act.put, List.setIfInBounds_toArray, List.set_cons_zero, List.set_cons_succ])) | (refine wpList_value_d 10 rfl rfl (.bool false) (run_eqs_op _ _ _ rfl s _ rfl rfl false hne _) ?_; (try simp only [Act.put, List.setIfInBounds_toArray, List.set_cons_zero, List.set_cons_succ]))))
  go_loopw [4] (fun v wr => ∃ (p f : Nat) (dn : List Nat), Shut (runeL s = dn ++ rl s f p) ∧ s.size ≤ p + f ∧ dn.length ≤ 24 ∧ Shut (∀ r ∈ dn, okR r = true) ∧ Own wr g1 v (dn.map cntN) ∧ Gro w wr ∧ wr.heap[g1]? = some (.stringIter s p)) (fun _ wr => s.size - wr.iterPos g1)
  case atStart => exact ⟨0, s.size, [], ⟨rfl⟩, by omega, by simp, ⟨fun r hr => by cases hr⟩, ⟨World.ownsRow_nil _ _ _ _⟩, GG, k1⟩
  case round =>
    rename_i wr
    clear k1 GG
    obtain ⟨p, f, dn, HD, hf, hl, HK, HO, GG, k1⟩ := hrel
    have P0 : Hid (wr.iterPos g1 = p) := iterPos_of k1
    cases hlt : decide (p < s.size)
    · have hps : ¬ p < s.size := by simpa using hlt
      obtain ⟨h1, h2⟩ := lab_done s h0 dn (by rw [HD.out, rl_end s f p hps, List.append_nil]) hl HK.out
      have H1 : Hid (labE s = 0) := h1
      have H2 : Shut (labL s = dn.map cntN) := ⟨h2⟩
      clear h1 h2 hlt
      go_wp2_with (first | (with_reducible refine wpList_at ?_; first | (refine wpList_next_over_d 13 rfl rfl _ rfl g1 rfl s p k1 hps ?_; (try simp only [Act.put, List.setIfInBounds_toArray, List.set_cons_zero, List.set_cons_succ]))))
      go_ret2
      exact ⟨_, by rw [H1.out]; rfl, by rw [H2.out]; exact HO.rl, GG⟩
    · have hps : p < s.size := by simpa using hlt
      clear hlt
      obtain ⟨f', hst, hf'⟩ := rl_step s f p hps hf
      have hwp := width_pos s p hps
      obtain ⟨c, hc⟩ : ∃ c, (Utf8.decode s p).1 = c := ⟨_, rfl⟩
      obtain ⟨n, hn⟩ : ∃ n, (Utf8.decode s p).2 = n := ⟨_, rfl⟩
      have hdec : Utf8.decode s p = (c, n) := by rw [← hc, ← hn]
      rw [hc, hn] at hst
      rw [hn] at hf' hwp
      have HD2 : Shut (runeL s = dn ++ c :: rl s f' (p + n)) := ⟨by rw [HD.out, hst]⟩
      clear hst hc hn HD
      cases hx : okR c
      · obtain ⟨h1, h2⟩ := lab_form s h0 dn _ c HD2.out hl hx
        have H1 : Hid (labE s = 2) := h1
        have H2 : Shut (labL s = []) := ⟨h2⟩
        clear h1 h2
        go_wp2_with (first | (go_at_call 20; refine (counted_no c hx _).mono ?_; rintro e wN ⟨rfl, GN⟩; replace k1 := GN.has k1; replace HO := HO.gro GN; replace GG := GG.trans GN; clear GN) | (with_reducible refine wpList_at ?_; first | (refine wpList_next_d 13 rfl rfl _ rfl g1 rfl s p k1 hps c n hdec ?_; intro wN SN; replace k1 := SN.new; replace HO := HO.store SN (by omega); replace GG := GG.store SN b1; clear SN; (try simp only [Act.put, List.setIfInBounds_toArray, List.set_cons_zero, List.set_cons_succ]))))
        go_ret2
        exact ⟨_, by rw [H1.out]; rfl, by rw [H2.out]; exact RL.nil _, GG⟩
      · by_cases h24 : dn.length = 24
        · obtain ⟨h1, h2⟩ := lab_long s h0 dn _ c HD2.out h24 HK.out hx
          have H1 : Hid (labE s = 4) := h1
          have H2 : Shut (labL s = []) := ⟨h2⟩
          clear h1 h2
          have hle : (dn.map cntN).length = 24 := by rw [List.length_map]; exact h24
          rcases HO.out.2 with ⟨_, hz⟩ | ⟨b, cap, cur, rfl, _⟩
          · omega
          · rw [hle] at HO ⊢
            clear HK HD2 h24
            go_wp2_with (first | (go_at_call 20; refine (counted_ok c hx _).mono ?_; rintro e wN ⟨rfl, GN⟩; replace k1 := GN.has k1; replace HO := HO.gro GN; replace GG := GG.trans GN; clear GN) | (with_reducible refine wpList_at ?_; first | (refine wpList_next_d 13 rfl rfl _ rfl g1 rfl s p k1 hps c n hdec ?_; intro wN SN; replace k1 := SN.new; replace HO := HO.store SN (by omega); replace GG := GG.store SN b1; clear SN; (try simp only [Act.put, List.setIfInBounds_toArray, List.set_cons_zero, List.set_cons_succ]))))
            go_ret2
            exact ⟨_, by rw [H1.out]; rfl, by rw [H2.out]; exact RL.nil _, GG⟩
        · have hlt24 : dn.length < 24 := by omega
          obtain ⟨L, hL⟩ : ∃ L, dn.map cntN = L := ⟨_, rfl⟩
          have hLl : L.length < 24 := by rw [← hL, List.length_map]; exact hlt24
          have HL : Shut (dn.map cntN = L) := ⟨hL⟩
          rw [hL] at HO
          clear hL h24
          rcases HO.out.2 with ⟨rfl, hz⟩ | ⟨b, cap, cur, rfl, _⟩
          · go_wp2_with (first | (go_at_call 20; refine (counted_ok c hx _).mono ?_; rintro e wN ⟨rfl, GN⟩; replace k1 := GN.has k1; replace HO := HO.gro GN; replace GG := GG.trans GN; clear GN) | (with_reducible refine wpList_at ?_; first | (refine wpList_next_d 13 rfl rfl _ rfl g1 rfl s p k1 hps c n hdec ?_; intro wN SN; replace k1 := SN.new; replace HO := HO.store SN (by omega); replace GG := GG.store SN b1; clear SN; (try simp only [Act.put, List.setIfInBounds_toArray, List.set_cons_zero, List.set_cons_succ])) | (refine wpList_slice1 28 rfl rfl _ rfl (cntN c : Int) rfl ?_; intro w2 g2 G2 e2 k2; replace HO := HO.gro G2; replace k1 := G2.has k1; replace GG := GG.trans G2; clear G2 e2; (try simp only [Act.put, List.setIfInBounds_toArray, List.set_cons_zero, List.set_cons_succ])) | (refine wpList_stop rfl ?_)))
            constructor
            refine wpList_app1 g1 rfl _ _ rfl (.slice none 0 0) L rfl HO g2 (cntN c) k2 rfl (by omega) k1 ?_
            intro v' w' HO' k1' B'
            replace k1 := k1'
            replace GG := Below.trans GG (B'.mono (by omega))
            clear k1' B' HO k2
            simp only [Act.put, List.setIfInBounds_toArray, List.set_cons_zero, List.set_cons_succ]
            go_wp2
            go_light
            go_roundw
            case rel =>
              refine ⟨p + n, f', dn ++ [c], ⟨by rw [HD2.out, List.append_assoc]; rfl⟩, by omega, by simp; omega, ⟨fun r hr => ?_⟩, ?_, GG, k1⟩
              · rcases List.mem_append.1 hr with h | h
                · exact HK.out r h
                · simp at h; rw [h]; exact hx
              · have e : (dn ++ [c]).map cntN = L ++ [cntN c] := by rw [List.map_append, HL.out]; rfl
                rw [e]
                exact HO'
            case measure =>
              rw [iterPos_of k1, P0.out]
              omega
          · go_wp2_with (first | (go_at_call 20; refine (counted_ok c hx _).mono ?_; rintro e wN ⟨rfl, GN⟩; replace k1 := GN.has k1; replace HO := HO.gro GN; replace GG := GG.trans GN; clear GN) | (with_reducible refine wpList_at ?_; first | (refine wpList_next_d 13 rfl rfl _ rfl g1 rfl s p k1 hps c n hdec ?_; intro wN SN; replace k1 := SN.new; replace HO := HO.store SN (by omega); replace GG := GG.store SN b1; clear SN; (try simp only [Act.put, List.setIfInBounds_toArray, List.set_cons_zero, List.set_cons_succ])) | (refine wpList_slice1 28 rfl rfl _ rfl (cntN c : Int) rfl ?_; intro w2 g2 G2 e2 k2; replace HO := HO.gro G2; replace k1 := G2.has k1; replace GG := GG.trans G2; clear G2 e2; (try simp only [Act.put, List.setIfInBounds_toArray, List.set_cons_zero, List.set_cons_succ])) | (refine wpList_stop rfl ?_)))
            constructor
            refine wpList_app1 g1 rfl _ _ rfl (.slice (some ⟨b, 0, none⟩) L.length cap) L rfl HO g2 (cntN c) k2 rfl (by omega) k1 ?_
            intro v' w' HO' k1' B'
            replace k1 := k1'
            replace GG := Below.trans GG (B'.mono (by omega))
            clear k1' B' HO k2
            simp only [Act.put, List.setIfInBounds_toArray, List.set_cons_zero, List.set_cons_succ]
            go_wp2
            go_light
            go_roundw
            case rel =>
              refine ⟨p + n, f', dn ++ [c], ⟨by rw [HD2.out, List.append_assoc]; rfl⟩, by omega, by simp; omega, ⟨fun r hr => ?_⟩, ?_, GG, k1⟩
              · rcases List.mem_append.1 hr with h | h
                · exact HK.out r h
                · simp at h; rw [h]; exact hx
              · have e : (dn ++ [c]).map cntN = L ++ [cntN c] := by rw [List.map_append, HL.out]; rfl
                rw [e]
                exact HO'
            case measure =>
              rw [iterPos_of k1, P0.out]
              omega
end Go.Proofs.Ytcgpodmipgnhjaa
