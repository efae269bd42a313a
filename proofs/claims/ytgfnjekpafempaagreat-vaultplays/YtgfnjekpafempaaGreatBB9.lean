import Derived.Test.YtgfnjekpafempaaGreatBB8
namespace Go.Proofs.YtgfnjekpafempaaGreat
open Go.Proofs.Tryz
open Go.RowKit
section
variable {P : Program}
structure Cut2OK (P : Program) (t : TypeId) (ao : Option Addr) (n cap i j : Nat) (ao1 : Option Addr) (n1 cap1 : Nat) : Prop where
  run : ∀ {o : Oper} {A : Act} (x y z : Operand), o.op = .slice t x (some y) (some z) none → A.eval x = .slice ao n cap → A.eval y = .int .i64 (i : Int) → A.eval z = .int .i64 (j : Int) → ∀ w, (execOp A.eval o).run P w = .ok (.value (.slice ao1 n1 cap1)) w
theorem NC.cut2 {t e : TypeId} {k : IntKind} {b : Nat} (T : NumT P t e k b) {w : World} {ao : Option Addr} {cap : Nat} {l : List Nat} (h : NC w k ao cap l) (i n : Nat) (hi : i + n ≤ l.length) :
    ∃ ao1 cap1 L, Shut (L = (l.drop i).take n) ∧ L.length = n ∧ NC w k ao1 cap1 L ∧ Cut2OK P t ao l.length cap i (i + n) ao1 L.length cap1 := by
  have hl : ((l.drop i).take n).length = n := by rw [List.length_take, List.length_drop]; omega
  exact ⟨_, _, (l.drop i).take n, ⟨rfl⟩, hl, (h.drop i (by omega)).take n (by rw [List.length_drop]; omega), ⟨fun x y z ho hx hy hz w => by
    rw [ZR T x y z ho ao l.length cap i (i + n) hx hy hz (by omega) (by have := h.fit; omega) w, hl]
    have : i + n - i = n := by omega
    rw [this]⟩⟩
theorem VC {ops : Array Oper} {rest : List Oper} {o : Oper} {a : Act} {w : World} {Q : Exit → Act → World → Prop} {t e : TypeId} {k : IntKind} {b : Nat} (T : NumT P t e k b) (dst : Nat) (hd : o.dst = some dst) (hgd : o.guard = none) (x y : Operand) (ho : o.op = .makeSlice t x y) (kl kc : IntKind) (n : Nat) (hx : a.eval x = .int kl (n : Int)) (hy : a.eval y = .int kc (n : Int)) (hb : b * n ≤ 281474976710656) (hm : n ≤ maxLen)
    (h : ∀ w' g cs, Gro w w' → w.heap.size = g → w'.heap[g]? = some (.cells cs e (0, 0)) → cs.size = n → wpList P ops Q rest (a.put (some dst) (.slice (some ⟨g, 0, none⟩) n n)) w') : wpList P ops Q (o :: rest) a w := by
  obtain ⟨i, hi, hz, hsz, hby⟩ := T.info
  refine wpList_make_full w hgd x y t ho w.heap.size e i (.int k 0) 1 T.und hi hz hsz kl kc _ _ n hx hy rfl rfl (by rw [hby]; exact hb) hm (Nat.le_refl _) ?_
  intro w' h1 h2
  rw [hd]
  rcases h1.2 with ⟨h3, _⟩ | ⟨g, c, cur, h3, _, h4, _, _, h5, _⟩
  · cases h3
  · injection h3 with e1 e2 e3
    injection e1 with e1
    injection e1 with e1
    subst e1 e3
    exact h w' _ cur ⟨h2.os, h2.tape, h2.output, h2.size, fun k hk => h2.block k hk (by simp)⟩ rfl h4 (by omega)
theorem JZ {ops : Array Oper} {rest : List Oper} {o : Oper} {a : Act} {w : World} {Q : Exit → Act → World → Prop} {t e : TypeId} {k : IntKind} {b : Nat} (T : NumT P t e k b) (dst : Nat) (hd : o.dst = some dst) (hgd : o.guard = none) (x y : Operand) (ho : o.op = .call { callee := .builtin .copy, args := #[x, y], argTypes := #[t, t] })
    (g n dCap : Nat) (hx : a.eval x = .slice (some ⟨g, 0, none⟩) n dCap) {cs : Array Value} {e' : TypeId} (hg : w.heap[g]? = some (.cells cs e' (0, 0))) (hcs : cs.size = n) {ao' : Option Addr} {m cap' : Nat} {L l' : List Nat} (hy : a.eval y = .slice ao' m cap') (hm : L.length = m) (hsrc : NC w k ao' cap' L) (hln : n ≤ m) (hl : L.take n = l')
    (h : ∀ w', Stored w w' g (.cells (l'.map fun r : Nat => Value.int k (r : Int)).toArray e' (0, 0)) → wpList P ops Q rest (a.put (some dst) (.int .i64 (n : Int))) w') : wpList P ops Q (o :: rest) a w := by
  have hl' : l'.length = n := by rw [← hl, List.length_take]; omega
  have hmin : Nat.min m n = n := Nat.min_eq_right hln
  by_cases h0 : n = 0
  · refine wpList_copy_nothing hgd x y t t ho e T.und T.size1 _ _ _ _ _ _ hx hy (by rw [hmin]; exact h0) ?_
    rw [hd]
    have e1 : l' = [] := List.eq_nil_of_length_eq_zero (by omega)
    have e2 : cs = #[] := Array.eq_empty_of_size_eq_zero (by omega)
    have := h w ⟨rfl, rfl, rfl, rfl, by rw [e1]; rw [e2] at hg; exact hg, fun _ _ => rfl⟩
    rw [h0] at this
    exact this
  · obtain ⟨ad, rfl, _⟩ := hsrc.at (j := 0) (by omega)
    refine wpList_copy_own hgd x y t t ho e T.und T.size1 g 0 n dCap ad m cap' hx hy cs e' hg (l'.map fun r : Nat => Value.int k (r : Int)) (by rw [hmin]; simp; omega) (fun j v hv => ?_) (by simp; omega) (fun v hv => ?_) ?_
    · rw [List.getElem?_map] at hv
      by_cases hj : j < l'.length
      · rw [List.getElem?_eq_getElem hj] at hv
        have hc := hsrc.cell ad rfl j (by omega)
        rw [List.getD_eq_getElem?_getD] at hc
        have : L[j]? = l'[j]? := by rw [← hl, List.getElem?_take, if_pos (by omega)]
        rw [this, List.getElem?_eq_getElem hj] at hc
        rw [hc]
        simpa using hv
      · rw [List.getElem?_eq_none (by omega)] at hv
        cases hv
    · obtain ⟨r, _, rfl⟩ := List.mem_map.1 hv; rfl
    · rw [hd]
      have e1 : (cs.toList.take 0 ++ ((l'.map fun r : Nat => Value.int k (r : Int)) ++ cs.toList.drop (0 + (l'.map fun r : Nat => Value.int k (r : Int)).length))).toArray = (l'.map fun r : Nat => Value.int k (r : Int)).toArray := by
        have : cs.toList.drop (0 + (l'.map fun r : Nat => Value.int k (r : Int)).length) = [] := List.drop_of_length_le (by simp; omega)
        rw [this]
        simp
      rw [e1]
      have := h _ (stored_setRow _ hg)
      simp only [goInt, List.length_map, hl']
      exact this
variable {o : Oper} {A : Act}
theorem jR (t t2 : TypeId) (x y : Operand) (ho : o.op = .binOp .gtr t x y t2) (a b : Nat) (hx : A.eval x = .int .u64 (a : Int)) (hy : A.eval y = .int .u64 (b : Int)) (p : Bool) (hp : decide (b < a) = p) (w : World) : (execOp A.eval o).run P w = .ok (.value (.bool p)) w := by
  subst hp
  refine jF .gtr t x y t2 ho _ _ _ hx hy (by simp [eqGuard]) ?_
  simp [go_sem]
theorem zK (t t2 : TypeId) (x y : Operand) (ho : o.op = .binOp .lss t x y t2) (a b : Nat) (hx : A.eval x = .int .u64 (a : Int)) (hy : A.eval y = .int .u64 (b : Int)) (p : Bool) (hp : decide (a < b) = p) (w : World) : (execOp A.eval o).run P w = .ok (.value (.bool p)) w := by
  subst hp
  refine jF .lss t x y t2 ho _ _ _ hx hy (by simp [eqGuard]) ?_
  simp [go_sem]
end
theorem conv253 {o : Oper} {A : Act} (x : Operand) (ho : o.op = .convert 64 3 x) (n : Nat) (hn : n < 9223372036854775808) (hx : A.eval x = .int .u64 (n : Int)) (w : World) : (execOp A.eval o).run Tryz.prog w = .ok (.value (.int .i64 (n : Int))) w := by
  have h := ya (n : Int) (by omega) (by omega)
  unfold execOp
  simp only [ho, hx]
  simp [convert, go_sem, Conv.intToInt, h]
theorem KM {o : Oper} {A : Act} (ho : o.op = .buildSlice 27 0 #[]) (w : World) :
    (execOp A.eval o).run Tryz.prog w = .ok (.value (.slice (some ⟨w.heap.size, 0, none⟩) 0 0)) (w.alloc (.cells #[] 5)) := by
  have h1 : (Instr.buildSlice 27 0 #[]).run Tryz.prog w = .ok (.slice (some ⟨w.heap.size, 0, none⟩) 0 0) (w.alloc (.cells #[] 5)) := by kernel_rfl
  unfold execOp
  simp only [ho, List.map_toArray, List.map_nil, Sem.run_bind, h1, Result.andThen_ok, Sem.run_pure]
theorem Jg {ops : Array Oper} {rest : List Oper} {o : Oper} {a : Act} {w : World} {Q : Exit → Act → World → Prop} (dst : Nat) (hd : o.dst = some dst) (hgd : o.guard = none) (ho : o.op = .buildSlice 27 0 #[])
    (h : ∀ w' g, Gro w w' → w.heap.size = g → OB w' 5 .u8 g (some ⟨g, 0, none⟩) 0 [] → wpList Tryz.prog ops Q rest (a.put (some dst) (.slice (some ⟨g, 0, none⟩) 0 0)) w') : wpList Tryz.prog ops Q (o :: rest) a w :=
  wpList_plain hgd fun _ hK => by
    unfold Oper.wp
    rw [KM ho, Oper.upon_value, hd]
    exact hK _ _ (h _ _ (zl _ _) rfl (OB.made (heap_alloc_new _ _) (Nat.le_refl _) (Nat.le_refl _) (by decide) rfl rfl (fun x hx => by (cases hx))))
def TextP (w : World) (R : List Nat × Nat × Nat) (e : Ending) (w' : World) : Prop := ∃ ao cap L, e = .returned (.tuple #[.slice ao (List.length L) cap, .int .i64 (R.2.1 : Int), .int .i64 (R.2.2 : Int)]) ∧ Shut (L = R.1) ∧ OB w' 5 .u8 w.heap.size ao cap L ∧ Gro w w'
theorem YO {P : Program} {ops : Array Oper} {rest : List Oper} {o : Oper} {a : Act} {w : World} {Q : Exit → Act → World → Prop} {s x : Operand} {t1 t2 : TypeId} (_ho : o.op = .call { callee := .builtin .copy, args := #[s, x], argTypes := #[t1, t2] }) (h : Stop (wpList P ops Q (o :: rest) a w)) : wpList P ops Q (o :: rest) a w := h.out
set_option maxHeartbeats 1600000 in
theorem Ux (ao : Option Addr) (cap : Nat) (l : List Nat) (w : World) (HC : NC w .u8 ao cap l) (i m : Int) (hlen : l.length ≤ 140737488355000) (hm : m < 9223372036854775808) : Calls Tryz.prog 96 #[.slice ao l.length cap, .int .i64 i, .int .i64 m] w (TextP w (getT l i m)) := by
  obtain ⟨R, hR⟩ : ∃ R, getT l i m = R := ⟨_, rfl⟩
  have HR : Shut (getT l i m = R) := ⟨hR⟩
  rw [hR]
  clear hR
  obtain ⟨⟨n, q, er⟩, hg⟩ : ∃ g, getE l i = g := ⟨_, rfl⟩
  have HG : Shut (getE l i = (n, q, er)) := ⟨hg⟩
  obtain ⟨hb1, hb2, hb3⟩ := JV l HC.lt256 i n q er hg
  have HB1 : Shut _ := ⟨hb1⟩
  clear hg hb1 hb2
  have HR2 : Shut ((if er ≠ 0 then ([], 0, er) else if m < 0 ∨ m < (n : Int) then ([], 0, 4) else if l.length - q < n then ([], 0, 3) else ((l.drop q).take n, q + n, 0)) = R) := ⟨by rw [← HR.out, getT, HG.out]⟩
  clear HR
  by_cases he : er = 0
  · subst he
    rw [if_neg (by simp)] at HR2
    obtain ⟨hn, _, _, hq, _⟩ := HB1.out rfl
    have HN : Shut _ := ⟨hn⟩
    clear HB1 hn
    by_cases hm0 : m < 0
    · have hR : R = ([], 0, 4) := by rw [← HR2.out, if_pos (by omega)]
      subst hR
      clear HR2
      go_enter func96, ntmps96
      go_wp2_with (first | (go_at_call 46; refine (yt ao cap l _ HC i (by omega)).mono ?_; rintro e wN ⟨rfl, hwN⟩; replace hwN := hwN.symm; subst hwN; rw [HG.out]) | (with_reducible refine jx ?_; (first | (refine jc 22 rfl rfl (.bool false) (jj 31 .i64 _ _ _ rfl underlying31 ((0 : Nat) : Int) 0 rfl rfl false (by simp) _) ?_) | (refine jc 25 rfl rfl (.bool true) (jI _ _ _ rfl m 0 rfl rfl true (by simp; omega) _) ?_)); (try simp only [Act.put, List.setIfInBounds_toArray, List.set_cons_zero, List.set_cons_succ])))
      go_ret3
      exact ⟨none, 0, [], rfl, ⟨rfl⟩, OB.nil _ _ _ _, Gro.refl _⟩
    · obtain ⟨mm, rfl⟩ : ∃ mm : Nat, m = (mm : Int) := ⟨m.toNat, by omega⟩
      by_cases hgt : mm < n
      · have hR : R = ([], 0, 4) := by rw [← HR2.out, if_pos (by omega)]
        subst hR
        clear HR2
        go_enter func96, ntmps96
        go_wp2_with (first | (go_at_call 46; refine (yt ao cap l _ HC i (by omega)).mono ?_; rintro e wN ⟨rfl, hwN⟩; replace hwN := hwN.symm; subst hwN; rw [HG.out]) | (with_reducible refine jx ?_; (first | (refine jc 22 rfl rfl (.bool false) (jj 31 .i64 _ _ _ rfl underlying31 ((0 : Nat) : Int) 0 rfl rfl false (by simp) _) ?_) | (refine jc 25 rfl rfl (.bool false) (jI _ _ _ rfl (mm : Int) 0 rfl rfl false (by simp) _) ?_) | (refine ju 29 rfl rfl (.int .u64 (mm : Int)) (conv325 _ rfl mm (by unfold lim; omega) rfl _) ?_) | (refine ju 30 rfl rfl (.bool true) (jR _ _ _ _ rfl n mm rfl rfl true (by simp; omega) _) ?_)); (try simp only [Act.put, List.setIfInBounds_toArray, List.set_cons_zero, List.set_cons_succ])))
        go_ret3
        exact ⟨none, 0, [], rfl, ⟨rfl⟩, OB.nil _ _ _ _, Gro.refl _⟩
      · by_cases hsh : l.length - q < n
        · have hR : R = ([], 0, 3) := by rw [← HR2.out, if_neg (by omega), if_pos hsh]
          subst hR
          clear HR2
          go_enter func96, ntmps96
          go_wp2_with (first | (go_at_call 46; refine (yt ao cap l _ HC i (by omega)).mono ?_; rintro e wN ⟨rfl, hwN⟩; replace hwN := hwN.symm; subst hwN; rw [HG.out]) | (with_reducible refine jx ?_; (first | (refine jc 22 rfl rfl (.bool false) (jj 31 .i64 _ _ _ rfl underlying31 ((0 : Nat) : Int) 0 rfl rfl false (by simp) _) ?_) | (refine jc 25 rfl rfl (.bool false) (jI _ _ _ rfl (mm : Int) 0 rfl rfl false (by simp) _) ?_) | (refine ju 29 rfl rfl (.int .u64 (mm : Int)) (conv325 _ rfl mm (by unfold lim; omega) rfl _) ?_) | (refine ju 30 rfl rfl (.bool false) (jR _ _ _ _ rfl n mm rfl rfl false (by simp; omega) _) ?_) | (refine jc 36 rfl rfl (.int .i64 ((l.length - q : Nat) : Int)) (jP _ _ _ rfl (l.length : Int) (q : Int) _ rfl rfl (by omega) (by omega) (by omega) _) ?_) | (refine jc 37 rfl rfl (.int .u64 ((l.length - q : Nat) : Int)) (conv325 _ rfl (l.length - q) (by unfold lim; omega) rfl _) ?_) | (refine jc 38 rfl rfl (.bool true) (jR _ _ _ _ rfl n (l.length - q) rfl rfl true (by simp; omega) _) ?_)); (try simp only [Act.put, List.setIfInBounds_toArray, List.set_cons_zero, List.set_cons_succ])))
          go_ret3
          exact ⟨none, 0, [], rfl, ⟨rfl⟩, OB.nil _ _ _ _, Gro.refl _⟩
        · have hR : R = ((l.drop q).take n, q + n, 0) := by rw [← HR2.out, if_neg (by omega), if_neg hsh]
          have HR3 : Shut _ := ⟨hR⟩
          clear HR2 hR
          have hqn : q + n ≤ l.length := by omega
          obtain ⟨ao1, cap1, L, EL, hL, NL, CL⟩ := HC.cut2 bT q n hqn
          have HLn : Shut (L.length = n) := ⟨hL⟩
          have HR4 : Shut (R = (L, q + n, 0)) := ⟨by rw [HR3.out, EL.out]⟩
          clear hL HR3 EL
          go_enter func96, ntmps96
          go_wp2_with (first | (go_at_call 46; refine (yt ao cap l _ HC i (by omega)).mono ?_; rintro e wN ⟨rfl, hwN⟩; replace hwN := hwN.symm; subst hwN; rw [HG.out]) | (with_reducible refine jx ?_; first | (refine jc 22 rfl rfl (.bool false) (jj 31 .i64 _ _ _ rfl underlying31 ((0 : Nat) : Int) 0 rfl rfl false (by simp) _) ?_; (try simp only [Act.put, List.setIfInBounds_toArray, List.set_cons_zero, List.set_cons_succ])) | (refine jc 25 rfl rfl (.bool false) (jI _ _ _ rfl (mm : Int) 0 rfl rfl false (by simp) _) ?_; (try simp only [Act.put, List.setIfInBounds_toArray, List.set_cons_zero, List.set_cons_succ])) | (refine ju 29 rfl rfl (.int .u64 (mm : Int)) (conv325 _ rfl mm (by unfold lim; omega) rfl _) ?_; (try simp only [Act.put, List.setIfInBounds_toArray, List.set_cons_zero, List.set_cons_succ])) | (refine ju 30 rfl rfl (.bool false) (jR _ _ _ _ rfl n mm rfl rfl false (by simp; omega) _) ?_; (try simp only [Act.put, List.setIfInBounds_toArray, List.set_cons_zero, List.set_cons_succ])) | (refine jc 36 rfl rfl (.int .i64 ((l.length - q : Nat) : Int)) (jP _ _ _ rfl (l.length : Int) (q : Int) _ rfl rfl (by omega) (by omega) (by omega) _) ?_; (try simp only [Act.put, List.setIfInBounds_toArray, List.set_cons_zero, List.set_cons_succ])) | (refine jc 37 rfl rfl (.int .u64 ((l.length - q : Nat) : Int)) (conv325 _ rfl (l.length - q) (by unfold lim; omega) rfl _) ?_; (try simp only [Act.put, List.setIfInBounds_toArray, List.set_cons_zero, List.set_cons_succ])) | (refine jc 38 rfl rfl (.bool false) (jR _ _ _ _ rfl n (l.length - q) rfl rfl false (by simp; omega) _) ?_; (try simp only [Act.put, List.setIfInBounds_toArray, List.set_cons_zero, List.set_cons_succ])) | (refine jc 41 rfl rfl (.int .i64 (n : Int)) (conv253 _ rfl n (by omega) rfl _) ?_; (try simp only [Act.put, List.setIfInBounds_toArray, List.set_cons_zero, List.set_cons_succ])) | (refine jc 42 rfl rfl (.int .i64 ((q + n : Nat) : Int)) (jp _ _ _ rfl (q : Int) (n : Int) _ rfl rfl (by omega) (by omega) (by omega) _) ?_; (try simp only [Act.put, List.setIfInBounds_toArray, List.set_cons_zero, List.set_cons_succ])) | (refine VC bT 44 rfl rfl _ _ rfl .u64 .u64 n rfl rfl (by omega) (by unfold maxLen; omega) ?_; intro w2 g2 cs2 G2 e2 k2 s2; have HS2 : Shut _ := ⟨s2⟩; clear s2; (try simp only [Act.put, List.setIfInBounds_toArray, List.set_cons_zero, List.set_cons_succ])) | (refine jc 49 rfl rfl (.slice ao1 L.length cap1) (CL.run _ _ _ rfl rfl rfl rfl _) ?_; (try simp only [Act.put, List.setIfInBounds_toArray, List.set_cons_zero, List.set_cons_succ])) | (refine YO rfl ?_)))
          constructor
          refine JZ bT 50 rfl rfl _ _ rfl g2 n n rfl k2 HS2.out rfl rfl (NL.gro G2) (by rw [HLn.out]; exact Nat.le_refl _) (List.take_of_length_le (by rw [HLn.out]; exact Nat.le_refl _)) ?_
          intro w3 S3
          have GG : Gro w w3 := G2.store S3 (by omega)
          have HO : OB w3 5 .u8 w.heap.size (some ⟨g2, 0, none⟩) n L := OB.made S3.new (by omega) (by rw [HLn.out]; exact Nat.le_refl _) (by unfold maxLen; omega) (by simp [HLn.out]) (by rw [List.take_of_length_le (by simp)]) NL.wf
          clear S3 k2 G2
          simp only [Act.put, List.setIfInBounds_toArray, List.set_cons_zero, List.set_cons_succ]
          go_wp2
          go_ret3
          exact ⟨some ⟨g2, 0, none⟩, n, L, by rw [HR4.out, HLn.out]; rfl, ⟨by rw [HR4.out]⟩, HO, GG⟩
  · have hR : R = ([], 0, er) := by rw [← HR2.out, if_pos he]
    subst hR
    clear HR2
    go_enter func96, ntmps96
    go_wp2_with (first | (go_at_call 46; refine (yt ao cap l _ HC i (by omega)).mono ?_; rintro e wN ⟨rfl, hwN⟩; replace hwN := hwN.symm; subst hwN; rw [HG.out]) | (with_reducible refine jx ?_; first | (refine jc 22 rfl rfl (.bool true) (jj 31 .i64 _ _ _ rfl underlying31 (er : Int) 0 rfl rfl true (by simp; omega) _) ?_; (try simp only [Act.put, List.setIfInBounds_toArray, List.set_cons_zero, List.set_cons_succ]))))
    go_ret3
    exact ⟨none, 0, [], rfl, ⟨rfl⟩, OB.nil _ _ _ _, Gro.refl _⟩
set_option maxHeartbeats 1600000 in
theorem Uw (ao : Option Addr) (cap : Nat) (l : List Nat) (w : World) (HC : NC w .u8 ao cap l) (i m : Int) (hlen : l.length ≤ 140737488355000) (hm : m < 9223372036854775808) : Calls Tryz.prog 77 #[.slice ao l.length cap, .int .i64 i, .int .i64 m] w (TextP w (getT l i m)) := by
  obtain ⟨R, hR⟩ : ∃ R, getT l i m = R := ⟨_, rfl⟩
  have HR : Shut (getT l i m = R) := ⟨hR⟩
  rw [hR]
  clear hR
  obtain ⟨⟨n, q, er⟩, hg⟩ : ∃ g, getE l i = g := ⟨_, rfl⟩
  have HG : Shut (getE l i = (n, q, er)) := ⟨hg⟩
  obtain ⟨hb1, hb2, hb3⟩ := JV l HC.lt256 i n q er hg
  have HB1 : Shut _ := ⟨hb1⟩
  clear hg hb1 hb2
  have HR2 : Shut ((if er ≠ 0 then ([], 0, er) else if m < 0 ∨ m < (n : Int) then ([], 0, 4) else if l.length - q < n then ([], 0, 3) else ((l.drop q).take n, q + n, 0)) = R) := ⟨by rw [← HR.out, getT, HG.out]⟩
  clear HR
  by_cases he : er = 0
  · subst he
    rw [if_neg (by simp)] at HR2
    obtain ⟨hn, _, _, hq, _⟩ := HB1.out rfl
    have HN : Shut _ := ⟨hn⟩
    clear HB1 hn
    by_cases hm0 : m < 0
    · have hR : R = ([], 0, 4) := by rw [← HR2.out, if_pos (by omega)]
      subst hR
      clear HR2
      go_enter func77, ntmps77
      go_wp2_with (first | (go_at_call 75; refine (yr ao cap l _ HC i (by omega)).mono ?_; rintro e wN ⟨rfl, hwN⟩; replace hwN := hwN.symm; subst hwN; rw [HG.out]) | (with_reducible refine jx ?_; (first | (refine jc 20 rfl rfl (.bool false) (jj 31 .i64 _ _ _ rfl underlying31 ((0 : Nat) : Int) 0 rfl rfl false (by simp) _) ?_) | (refine jc 23 rfl rfl (.bool true) (jI _ _ _ rfl m 0 rfl rfl true (by simp; omega) _) ?_)); (try simp only [Act.put, List.setIfInBounds_toArray, List.set_cons_zero, List.set_cons_succ])))
      go_ret3
      exact ⟨none, 0, [], rfl, ⟨rfl⟩, OB.nil _ _ _ _, Gro.refl _⟩
    · obtain ⟨mm, rfl⟩ : ∃ mm : Nat, m = (mm : Int) := ⟨m.toNat, by omega⟩
      by_cases hgt : mm < n
      · have hR : R = ([], 0, 4) := by rw [← HR2.out, if_pos (by omega)]
        subst hR
        clear HR2
        go_enter func77, ntmps77
        go_wp2_with (first | (go_at_call 75; refine (yr ao cap l _ HC i (by omega)).mono ?_; rintro e wN ⟨rfl, hwN⟩; replace hwN := hwN.symm; subst hwN; rw [HG.out]) | (with_reducible refine jx ?_; (first | (refine jc 20 rfl rfl (.bool false) (jj 31 .i64 _ _ _ rfl underlying31 ((0 : Nat) : Int) 0 rfl rfl false (by simp) _) ?_) | (refine jc 23 rfl rfl (.bool false) (jI _ _ _ rfl (mm : Int) 0 rfl rfl false (by simp) _) ?_) | (refine ju 27 rfl rfl (.int .u64 (mm : Int)) (conv325 _ rfl mm (by unfold lim; omega) rfl _) ?_) | (refine ju 28 rfl rfl (.bool true) (jR _ _ _ _ rfl n mm rfl rfl true (by simp; omega) _) ?_)); (try simp only [Act.put, List.setIfInBounds_toArray, List.set_cons_zero, List.set_cons_succ])))
        go_ret3
        exact ⟨none, 0, [], rfl, ⟨rfl⟩, OB.nil _ _ _ _, Gro.refl _⟩
      · by_cases hsh : l.length - q < n
        · have hR : R = ([], 0, 3) := by rw [← HR2.out, if_neg (by omega), if_pos hsh]
          subst hR
          clear HR2
          go_enter func77, ntmps77
          go_wp2_with (first | (go_at_call 75; refine (yr ao cap l _ HC i (by omega)).mono ?_; rintro e wN ⟨rfl, hwN⟩; replace hwN := hwN.symm; subst hwN; rw [HG.out]) | (with_reducible refine jx ?_; (first | (refine jc 20 rfl rfl (.bool false) (jj 31 .i64 _ _ _ rfl underlying31 ((0 : Nat) : Int) 0 rfl rfl false (by simp) _) ?_) | (refine jc 23 rfl rfl (.bool false) (jI _ _ _ rfl (mm : Int) 0 rfl rfl false (by simp) _) ?_) | (refine ju 27 rfl rfl (.int .u64 (mm : Int)) (conv325 _ rfl mm (by unfold lim; omega) rfl _) ?_) | (refine ju 28 rfl rfl (.bool false) (jR _ _ _ _ rfl n mm rfl rfl false (by simp; omega) _) ?_) | (refine jc 33 rfl rfl (.int .i64 ((l.length - q : Nat) : Int)) (jP _ _ _ rfl (l.length : Int) (q : Int) _ rfl rfl (by omega) (by omega) (by omega) _) ?_) | (refine jc 34 rfl rfl (.int .u64 ((l.length - q : Nat) : Int)) (conv325 _ rfl (l.length - q) (by unfold lim; omega) rfl _) ?_) | (refine jc 36 rfl rfl (.bool true) (zK _ _ _ _ rfl (l.length - q) n rfl rfl true (by simp; omega) _) ?_)); (try simp only [Act.put, List.setIfInBounds_toArray, List.set_cons_zero, List.set_cons_succ])))
          go_ret3
          exact ⟨none, 0, [], rfl, ⟨rfl⟩, OB.nil _ _ _ _, Gro.refl _⟩
        · have hR : R = ((l.drop q).take n, q + n, 0) := by rw [← HR2.out, if_neg (by omega), if_neg hsh]
          have HR3 : Shut _ := ⟨hR⟩
          clear HR2 hR
          have hqn : q + n ≤ l.length := by omega
          obtain ⟨ao1, cap1, L, EL, hL, NL, CL⟩ := HC.cut2 bT q n hqn
          have HLn : Shut (L.length = n) := ⟨hL⟩
          have HR4 : Shut (R = (L, q + n, 0)) := ⟨by rw [HR3.out, EL.out]⟩
          clear hL HR3 EL
          go_enter func77, ntmps77
          go_wp2_with (first | (go_at_call 75; refine (yr ao cap l _ HC i (by omega)).mono ?_; rintro e wN ⟨rfl, hwN⟩; replace hwN := hwN.symm; subst hwN; rw [HG.out]) | (with_reducible refine jx ?_; first | (refine jc 20 rfl rfl (.bool false) (jj 31 .i64 _ _ _ rfl underlying31 ((0 : Nat) : Int) 0 rfl rfl false (by simp) _) ?_; (try simp only [Act.put, List.setIfInBounds_toArray, List.set_cons_zero, List.set_cons_succ])) | (refine jc 23 rfl rfl (.bool false) (jI _ _ _ rfl (mm : Int) 0 rfl rfl false (by simp) _) ?_; (try simp only [Act.put, List.setIfInBounds_toArray, List.set_cons_zero, List.set_cons_succ])) | (refine ju 27 rfl rfl (.int .u64 (mm : Int)) (conv325 _ rfl mm (by unfold lim; omega) rfl _) ?_; (try simp only [Act.put, List.setIfInBounds_toArray, List.set_cons_zero, List.set_cons_succ])) | (refine ju 28 rfl rfl (.bool false) (jR _ _ _ _ rfl n mm rfl rfl false (by simp; omega) _) ?_; (try simp only [Act.put, List.setIfInBounds_toArray, List.set_cons_zero, List.set_cons_succ])) | (refine jc 33 rfl rfl (.int .i64 ((l.length - q : Nat) : Int)) (jP _ _ _ rfl (l.length : Int) (q : Int) _ rfl rfl (by omega) (by omega) (by omega) _) ?_; (try simp only [Act.put, List.setIfInBounds_toArray, List.set_cons_zero, List.set_cons_succ])) | (refine jc 34 rfl rfl (.int .u64 ((l.length - q : Nat) : Int)) (conv325 _ rfl (l.length - q) (by unfold lim; omega) rfl _) ?_; (try simp only [Act.put, List.setIfInBounds_toArray, List.set_cons_zero, List.set_cons_succ])) | (refine jc 36 rfl rfl (.bool false) (zK _ _ _ _ rfl (l.length - q) n rfl rfl false (by simp; omega) _) ?_; (try simp only [Act.put, List.setIfInBounds_toArray, List.set_cons_zero, List.set_cons_succ])) | (refine Jg 37 rfl rfl rfl ?_; intro w2 g2 G2 e2 K2; (try simp only [Act.put, List.setIfInBounds_toArray, List.set_cons_zero, List.set_cons_succ])) | (refine jc 42 rfl rfl (.int .i64 (n : Int)) (conv253 _ rfl n (by omega) rfl _) ?_; (try simp only [Act.put, List.setIfInBounds_toArray, List.set_cons_zero, List.set_cons_succ])) | (refine jc 43 rfl rfl (.int .i64 ((q + n : Nat) : Int)) (jp _ _ _ rfl (q : Int) (n : Int) _ rfl rfl (by omega) (by omega) (by omega) _) ?_; (try simp only [Act.put, List.setIfInBounds_toArray, List.set_cons_zero, List.set_cons_succ])) | (refine jc 44 rfl rfl (.slice ao1 L.length cap1) (CL.run _ _ _ rfl rfl rfl rfl _) ?_; (try simp only [Act.put, List.setIfInBounds_toArray, List.set_cons_zero, List.set_cons_succ])) | (refine jc 48 rfl rfl (.int .i64 (n : Int)) (conv253 _ rfl n (by omega) rfl _) ?_; (try simp only [Act.put, List.setIfInBounds_toArray, List.set_cons_zero, List.set_cons_succ])) | (refine jc 49 rfl rfl (.int .i64 ((q + n : Nat) : Int)) (jp _ _ _ rfl (q : Int) (n : Int) _ rfl rfl (by omega) (by omega) (by omega) _) ?_; (try simp only [Act.put, List.setIfInBounds_toArray, List.set_cons_zero, List.set_cons_succ])) | (refine zR rfl ?_)))
          constructor
          refine zS bT 45 rfl rfl _ _ rfl (l := []) rfl K2 rfl (NL.gro G2) (by rw [HLn.out]; simp; omega) (by decide) (by have := G2.size; have := K2.ge _ rfl; omega) ?_
          intro ao3 cap3 L3 w3 E3 HO3 B3
          have hgw : w.heap.size ≤ g2 := by omega
          have GG : Gro w w3 := Below.trans G2 (B3.mono hgw)
          have HO := HO3.mono hgw
          clear HO3 B3 K2 G2
          simp only [Act.put, List.setIfInBounds_toArray, List.set_cons_zero, List.set_cons_succ]
          go_wp2_with (first | (with_reducible refine jx ?_; (first | (refine jc 48 rfl rfl (.int .i64 (n : Int)) (conv253 _ rfl n (by omega) rfl _) ?_) | (refine jc 49 rfl rfl (.int .i64 ((q + n : Nat) : Int)) (jp _ _ _ rfl (q : Int) (n : Int) _ rfl rfl (by omega) (by omega) (by omega) _) ?_)); (try simp only [Act.put, List.setIfInBounds_toArray, List.set_cons_zero, List.set_cons_succ])))
          go_ret3
          exact ⟨ao3, cap3, L3, by rw [HR4.out]; rfl, ⟨by rw [HR4.out, E3.out]; rfl⟩, HO, GG⟩
  · have hR : R = ([], 0, er) := by rw [← HR2.out, if_pos he]
    subst hR
    clear HR2
    go_enter func77, ntmps77
    go_wp2_with (first | (go_at_call 75; refine (yr ao cap l _ HC i (by omega)).mono ?_; rintro e wN ⟨rfl, hwN⟩; replace hwN := hwN.symm; subst hwN; rw [HG.out]) | (with_reducible refine jx ?_; first | (refine jc 20 rfl rfl (.bool true) (jj 31 .i64 _ _ _ rfl underlying31 (er : Int) 0 rfl rfl true (by simp; omega) _) ?_; (try simp only [Act.put, List.setIfInBounds_toArray, List.set_cons_zero, List.set_cons_succ]))))
    go_ret3
    exact ⟨none, 0, [], rfl, ⟨rfl⟩, OB.nil _ _ _ _, Gro.refl _⟩
end Go.Proofs.YtgfnjekpafempaaGreat
