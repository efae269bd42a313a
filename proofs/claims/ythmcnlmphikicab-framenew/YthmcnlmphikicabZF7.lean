/- Comparing: identities, paths, versions, rows. -/
import Derived.Test.YthmcnlmphikicabZF6
namespace Go.Proofs.Ythmcnlmphikicab
open Go.RowKit
/-! ### Comparing -/
theorem ne_dec {p q : Prop} [Decidable p] [Decidable q] (h : p ↔ q) : decide p = decide q := by simp [h]
theorem eqI_id (d : Nat) (x y : Nat → Nat) (w : World) : (Op.equalIn (d + 1 + 1) 27 (.agg (c23 x)) (.agg (c23 y))).run Try.prog w = .ok (decide (idL x = idL y)) w := by
  have hp : ∀ z : Nat → Nat, ∀ i, i < 16 → (part 5 (c23 z) i).run Try.prog w = .ok (.int .u8 ((z i : Nat) : Int)) w := fun z =>
    lt16 (p := fun i => (part 5 (c23 z) i).run Try.prog w = .ok (.int .u8 ((z i : Nat) : Int)) w) (by kernel_rfl) (by kernel_rfl) (by kernel_rfl) (by kernel_rfl) (by kernel_rfl) (by kernel_rfl) (by kernel_rfl) (by kernel_rfl) (by kernel_rfl) (by kernel_rfl) (by kernel_rfl) (by kernel_rfl) (by kernel_rfl) (by kernel_rfl) (by kernel_rfl) (by kernel_rfl)
  refine run_equalIn_row _ 27 5 16 Try.underlying27 w (Try.sizeOf5 w) (c23 x) (c23 y) (fun i => .int .u8 ((x i : Nat) : Int)) (fun i => .int .u8 ((y i : Nat) : Int)) (fun i => ((x i : Nat) : Int) == ((y i : Nat) : Int))
    (hp x) (hp y) (fun i _ => run_equalIn_int w _ 5 .u8 .u8 _ _ Try.underlying5) _ ?_
  rw [decide_eq_true_iff]
  constructor
  · intro h i hi
    have h1 : (idL x).getD i 0 = (idL y).getD i 0 := by rw [h]
    have h2 : ∀ z : Nat → Nat, ∀ i, i < 16 → (idL z).getD i 0 = z i := fun z => lt16 (p := fun i => (idL z).getD i 0 = z i) rfl rfl rfl rfl rfl rfl rfl rfl rfl rfl rfl rfl rfl rfl rfl rfl
    rw [h2 x i hi, h2 y i hi] at h1
    simp [h1]
  · intro h
    have h2 : ∀ i, i < 16 → x i = y i := fun i hi => by have := h i hi; simp at this; omega
    simp only [idL]
    rw [h2 0 (by omega), h2 1 (by omega), h2 2 (by omega), h2 3 (by omega), h2 4 (by omega), h2 5 (by omega), h2 6 (by omega), h2 7 (by omega), h2 8 (by omega), h2 9 (by omega), h2 10 (by omega), h2 11 (by omega), h2 12 (by omega), h2 13 (by omega), h2 14 (by omega), h2 15 (by omega)]
theorem eq23 (x y : Nat → Nat) (w : World) : (binOp .eql 27 (.agg (c23 x)) (.agg (c23 y))).run Try.prog w = .ok (.bool (decide (idL x = idL y))) w := by
  rw [run_eql_struct, eqI_id 9998 x y w]; rfl
theorem ne23 (x y : Nat → Nat) (w : World) : (binOp .neq 27 (.agg (c23 x)) (.agg (c23 y))).run Try.prog w = .ok (.bool (!decide (idL x = idL y))) w := by
  rw [run_neq_struct, eqI_id 9998 x y w]; rfl
theorem fields25 : Try.prog.fieldsOf 29 = #[{ name := "Who", type := 27, offset := 0, embedded := false, tag := "", pkgPath := "", byteOffset := 0 }, { name := "N", type := 2, offset := 16, embedded := false, tag := "", pkgPath := "", byteOffset := 16 }] := by kernel_rfl
theorem fields27 : Try.prog.fieldsOf 31 = #[{ name := "Inc", type := 2, offset := 0, embedded := false, tag := "", pkgPath := "", byteOffset := 0 }, { name := "N", type := 2, offset := 1, embedded := false, tag := "", pkgPath := "", byteOffset := 8 }] := by kernel_rfl
theorem fields31 : Try.prog.fieldsOf 35 = #[{ name := "N", type := 2, offset := 0, embedded := false, tag := "", pkgPath := "", byteOffset := 0 }, { name := "Who", type := 27, offset := 1, embedded := false, tag := "", pkgPath := "", byteOffset := 8 }] := by kernel_rfl
theorem und25 : Try.prog.underlying 29 = some (.struct (Try.prog.fieldsOf 29)) := by rw [fields25]; exact Try.underlying29
theorem und27 : Try.prog.underlying 31 = some (.struct (Try.prog.fieldsOf 31)) := by rw [fields27]; exact Try.underlying31
theorem und31 : Try.prog.underlying 35 = some (.struct (Try.prog.fieldsOf 35)) := by rw [fields31]; exact Try.underlying35
theorem beq_dec (a b : Int) : (a == b) = decide (a = b) := rfl
theorem eqF25 (d : Nat) (x y : Nat → Nat) (n m : Int) (w : World) : (Op.equalIn (d + 1 + 1 + 1) 29 (.agg (c25 x n)) (.agg (c25 y m))).run Try.prog w = .ok (decide (idL x = idL y) && decide (n = m)) w := by
  have h1 : ∀ (z : Nat → Nat) (k : Int), (part 27 (c25 z k) 0).run Try.prog w = .ok (.agg (c23 z)) w := fun z k => by kernel_rfl
  have h2 : ∀ (z : Nat → Nat) (k : Int), (part 2 (c25 z k) 16).run Try.prog w = .ok (.int .i64 k) w := fun z k => by kernel_rfl
  have h3 := eqI_id d x y w
  have h4 := run_equalIn_int (P := Try.prog) w (d + 1) 2 .i64 .i64 n m Try.underlying2
  rw [beq_dec] at h4
  rw [run_equalIn_struct w (d + 1 + 1) 29 _ _ und25 (by kernel_rfl), fields25]
  generalize decide (idL x = idL y) = p at *
  generalize decide (n = m) = q at *
  unfold Op.eqFields
  rw [if_pos (by decide), Sem.run_bind, h1, Result.andThen_ok, Sem.run_bind, h1, Result.andThen_ok, Sem.run_bind, h3, Result.andThen_ok]
  cases p
  · rfl
  rw [if_neg (by decide)]
  unfold Op.eqFields
  rw [if_pos (by decide), Sem.run_bind, h2, Result.andThen_ok, Sem.run_bind, h2, Result.andThen_ok, Sem.run_bind, h4, Result.andThen_ok]
  cases q
  · rfl
  · rfl
theorem eqF27 (d : Nat) (x y n m : Int) (w : World) : (Op.equalIn (d + 1 + 1) 31 (.agg (c27 x n)) (.agg (c27 y m))).run Try.prog w = .ok (decide (x = y) && decide (n = m)) w := by
  have h1 : ∀ (z k : Int), (part 2 (c27 z k) 0).run Try.prog w = .ok (.int .i64 z) w := fun z k => by kernel_rfl
  have h2 : ∀ (z k : Int), (part 2 (c27 z k) 1).run Try.prog w = .ok (.int .i64 k) w := fun z k => by kernel_rfl
  have h3 := run_equalIn_int (P := Try.prog) w d 2 .i64 .i64 x y Try.underlying2
  have h4 := run_equalIn_int (P := Try.prog) w d 2 .i64 .i64 n m Try.underlying2
  rw [beq_dec] at h3 h4
  rw [run_equalIn_struct w (d + 1) 31 _ _ und27 (by kernel_rfl), fields27]
  generalize decide (x = y) = p at *
  generalize decide (n = m) = q at *
  unfold Op.eqFields
  rw [if_pos (by decide), Sem.run_bind, h1, Result.andThen_ok, Sem.run_bind, h1, Result.andThen_ok, Sem.run_bind, h3, Result.andThen_ok]
  cases p
  · rfl
  rw [if_neg (by decide)]
  unfold Op.eqFields
  rw [if_pos (by decide), Sem.run_bind, h2, Result.andThen_ok, Sem.run_bind, h2, Result.andThen_ok, Sem.run_bind, h4, Result.andThen_ok]
  cases q
  · rfl
  · rfl
theorem eqF31 (d : Nat) (n m : Int) (x y : Nat → Nat) (w : World) : (Op.equalIn (d + 1 + 1 + 1) 35 (.agg (c31 n x)) (.agg (c31 m y))).run Try.prog w = .ok (decide (n = m) && decide (idL x = idL y)) w := by
  have h1 : ∀ (z : Nat → Nat) (k : Int), (part 27 (c31 k z) 1).run Try.prog w = .ok (.agg (c23 z)) w := fun z k => by kernel_rfl
  have h2 : ∀ (z : Nat → Nat) (k : Int), (part 2 (c31 k z) 0).run Try.prog w = .ok (.int .i64 k) w := fun z k => by kernel_rfl
  have h3 := eqI_id d x y w
  have h4 := run_equalIn_int (P := Try.prog) w (d + 1) 2 .i64 .i64 n m Try.underlying2
  rw [beq_dec] at h4
  rw [run_equalIn_struct w (d + 1 + 1) 35 _ _ und31 (by kernel_rfl), fields31]
  generalize decide (idL x = idL y) = p at *
  generalize decide (n = m) = q at *
  unfold Op.eqFields
  rw [if_pos (by decide), Sem.run_bind, h2, Result.andThen_ok, Sem.run_bind, h2, Result.andThen_ok, Sem.run_bind, h4, Result.andThen_ok]
  cases q
  · rfl
  rw [if_neg (by decide)]
  unfold Op.eqFields
  rw [if_pos (by decide), Sem.run_bind, h1, Result.andThen_ok, Sem.run_bind, h1, Result.andThen_ok, Sem.run_bind, h3, Result.andThen_ok]
  cases p
  · rfl
  · rfl
theorem eq25 (x y : Nat → Nat) (n m : Int) (w : World) : (binOp .eql 29 (.agg (c25 x n)) (.agg (c25 y m))).run Try.prog w = .ok (.bool (decide (idL x = idL y) && decide (n = m))) w := by
  rw [run_eql_struct, eqF25 9997 x y n m w]; rfl
theorem eq27 (x y n m : Int) (w : World) : (binOp .eql 31 (.agg (c27 x n)) (.agg (c27 y m))).run Try.prog w = .ok (.bool (decide (x = y) && decide (n = m))) w := by
  rw [run_eql_struct, eqF27 9998 x y n m w]; rfl
theorem eq31 (n m : Int) (x y : Nat → Nat) (w : World) : (binOp .eql 35 (.agg (c31 n x)) (.agg (c31 m y))).run Try.prog w = .ok (.bool (decide (n = m) && decide (idL x = idL y))) w := by
  rw [run_eql_struct, eqF31 9997 n m x y w]; rfl
theorem run_neqT {P : Program} {o : Oper} {A : Act} (t : TypeId) (k : IntKind) (x y : Operand) (t2 : TypeId) (ho : o.op = .binOp .neq t x y t2) (hu : P.underlying t = some (.int k)) (a b : Int) (hx : A.eval x = .int k a) (hy : A.eval y = .int k b) (hp : decide (a = b) = false) (w : World) : (execOp A.eval o).run P w = .ok (.value (.bool true)) w := run_neq_k t k x y t2 ho hu a b hx hy true hp w
theorem run_neqF {P : Program} {o : Oper} {A : Act} (t : TypeId) (k : IntKind) (x y : Operand) (t2 : TypeId) (ho : o.op = .binOp .neq t x y t2) (hu : P.underlying t = some (.int k)) (a b : Int) (hx : A.eval x = .int k a) (hy : A.eval y = .int k b) (hp : decide (a = b) = true) (w : World) : (execOp A.eval o).run P w = .ok (.value (.bool false)) w := run_neq_k t k x y t2 ho hu a b hx hy false hp w
theorem run_cmpA {o : Oper} {A : Act} {w : World} (op : BinOp) (t : TypeId) (x y : Operand) (t2 : TypeId) (ho : o.op = .binOp op t x y t2) (c d : Array Value) (hx : A.eval x = .agg c) (hy : A.eval y = .agg d) (hm : Try.prog.eqGuardType Try.prog.depth t = false) (v : Value) (h : (binOp op t (.agg c) (.agg d)).run Try.prog w = .ok v w) : (execOp A.eval o).run Try.prog w = .ok (.value v) w :=
  run_binop op t x y t2 ho _ _ _ hx hy (run_eqGuard_agg w op t x y c d hm) h
theorem bytesEqual_any (ao ao' : Option Addr) (cap cap' : Nat) (l m : List Nat) (w : World) (HL : NC w .u8 ao cap l) (HM : NC w .u8 ao' cap' m) : Calls Try.prog 33 #[.slice ao l.length cap, .slice ao' m.length cap'] w fun e w' => e = .returned (.bool (decide (l = m))) ∧ Gro w w' := by
  have hd : decide (bas l = bas m) = decide (l = m) := ne_dec ⟨fun h => bas_inj HL.lt256 HM.lt256 h, fun h => by rw [h]⟩
  obtain ⟨p, hp⟩ : ∃ p, decide (l = m) = p := ⟨_, rfl⟩
  rw [hp] at hd
  rw [hp]
  clear hp
  go_enter Try.func33, Try.ntmps33
  go_wp2_with (first | (with_reducible refine wpList_at ?_; first | (refine wpList_value_d 6 rfl rfl (.string (bas l)) (run_text_op bT 9 Try.underlying9 _ rfl rfl HL) ?_; (try simp only [Act.put, List.setIfInBounds_toArray, List.set_cons_zero, List.set_cons_succ])) | (refine wpList_value_d 8 rfl rfl (.string (bas m)) (run_text_op bT 9 Try.underlying9 _ rfl rfl HM) ?_; (try simp only [Act.put, List.setIfInBounds_toArray, List.set_cons_zero, List.set_cons_succ])) | (refine wpList_value_d 9 rfl rfl (.bool p) (run_eqs_op _ _ _ rfl _ _ rfl rfl p hd _) ?_; (try simp only [Act.put, List.setIfInBounds_toArray, List.set_cons_zero, List.set_cons_succ]))))
  go_ret
  exact ⟨rfl, Gro.refl _⟩
theorem run_idx1 {P : Program} {o : Oper} {A : Act} {t e : TypeId} {b : Nat} {z : Value} (T : RowT P t e 1 b z) (x y : Operand) (ho : o.op = .indexAddr t x y) (ad : Addr) (n cap j : Nat) (hx : A.eval x = .slice (some ad) n cap) (hy : A.eval y = .int .i64 (j : Int)) (hj : j < n) (w : World) :
    (execOp A.eval o).run P w = .ok (.value (.pointer (some (ad.add j)))) w := by
  have := run_idxX T x y ho ad n cap j hx hy hj w
  rw [Nat.mul_one] at this
  exact this
theorem cell_gro {w w' : World} {a : Addr} {v : Value} (G : Gro w.drew w') (h : w.cell? a = some v) : w'.cell? a = some v := (World.cell?_of_block (G.block _ (World.block_lt_of_cell? w _ h))).trans h
set_option maxRecDepth 100000 in
set_option maxHeartbeats 3200000 in
theorem equalI_any (ao ao' : Option Addr) (cap cap' : Nat) (l m : List Int) (w : World) (HL : XC w 1 ao cap l.length (l.map (Value.int .i64 ·))) (HM : XC w 1 ao' cap' m.length (m.map (Value.int .i64 ·))) (hlen : l.length ≤ 140737488355000) : Calls Try.prog 31 #[.slice ao l.length cap, .slice ao' m.length cap'] w fun e w' => e = .returned (.bool (decide (l = m))) ∧ Gro w w' := by
  cases hne : decide ((l.length : Int) = (m.length : Int))
  · have e1 : decide (l = m) = false := decide_eq_false fun h => by subst h; simp at hne
    rw [e1]
    clear e1
    go_enter Try.func31, Try.ntmps31
    go_wp2_with (first | (with_reducible refine wpList_at ?_; first | (refine wpList_value_d 10 rfl rfl (.bool true) (run_neqT 3 .i64 _ _ _ rfl Try.underlying3 (l.length : Int) (m.length : Int) rfl rfl hne _) ?_; (try simp only [Act.put, List.setIfInBounds_toArray, List.set_cons_zero, List.set_cons_succ]))))
    go_ret
    exact ⟨rfl, Gro.refl _⟩
  · have HLM : Shut (l.length = m.length) := ⟨by simp at hne; omega⟩
    go_enter Try.func31, Try.ntmps31
    go_wp2_with (first | (with_reducible refine wpList_at ?_; first | (refine wpList_value_d 10 rfl rfl (.bool false) (run_neqF 3 .i64 _ _ _ rfl Try.underlying3 (l.length : Int) (m.length : Int) rfl rfl hne _) ?_; (try simp only [Act.put, List.setIfInBounds_toArray, List.set_cons_zero, List.set_cons_succ]))))
    go_loopw [13] (fun i wr => ∃ j : Nat, j ≤ l.length ∧ i = .int .i64 (j : Int) ∧ Shut (l.take j = m.take j) ∧ Gro w wr) (fun i _ => l.length - (intOf i).toNat)
    case atStart => exact ⟨0, by omega, rfl, ⟨rfl⟩, Gro.refl _⟩
    case round =>
      rename_i wr
      obtain ⟨j, hj, rfl, HT, GG⟩ := hrel
      cases hlt : decide ((j : Int) < (l.length : Int))
      · have ej : j = l.length := by simp at hlt; omega
        have e1 : decide (l = m) = true := decide_eq_true (by have := HT.out; rw [ej, List.take_length, HLM.out, List.take_length] at this; exact this)
        have E1 : Shut _ := ⟨e1⟩
        clear e1 ej
        go_wp2_with (first | (with_reducible refine wpList_at ?_; first | (refine wpList_value_d 14 rfl rfl (.bool false) (run_lss64 _ _ _ rfl (j : Int) (l.length : Int) rfl rfl false hlt _) ?_; (try simp only [Act.put, List.setIfInBounds_toArray, List.set_cons_zero, List.set_cons_succ]))))
        go_ret
        exact ⟨by rw [E1.out]; rfl, GG⟩
      · have hjl : j < l.length := by simp at hlt; omega
        have hjm : j < m.length := by have := HLM.out; omega
        have HSl : Shut _ := ⟨take_one l 0 j hjl⟩
        have HSm : Shut _ := ⟨take_one m 0 j hjm⟩
        have HDl : Shut (l = m → l.getD j 0 = m.getD j 0) := ⟨fun h => by rw [h]⟩
        obtain ⟨ad, rfl, hc1⟩ := xc_at1 HL hjl
        obtain ⟨ad2, rfl, hc2⟩ := xc_at1 HM hjm
        replace hc1 : Shut (wr.cell? (ad.add j) = _) := ⟨(World.cell?_of_block (GG.block _ (World.block_lt_of_cell? w _ hc1))).trans hc1⟩
        replace hc2 : Shut (wr.cell? (ad2.add j) = _) := ⟨(World.cell?_of_block (GG.block _ (World.block_lt_of_cell? w _ hc2))).trans hc2⟩

        obtain ⟨x, hx⟩ : ∃ x, l.getD j 0 = x := ⟨_, rfl⟩
        obtain ⟨y, hy⟩ : ∃ y, m.getD j 0 = y := ⟨_, rfl⟩
        rw [hx] at HSl HDl hc1
        rw [hy] at HSm HDl hc2
        clear hx hy
        cases hxy : decide (x = y)
        · have e1 : decide (l = m) = false := decide_eq_false fun h => by have := HDl.out h; subst this; simp at hxy
          have E1 : Shut _ := ⟨e1⟩
          clear e1
          go_wp2_with (first | (with_reducible refine wpList_at ?_; first | (refine wpList_value_d 14 rfl rfl (.bool true) (run_lss64 _ _ _ rfl (j : Int) (l.length : Int) rfl rfl true hlt _) ?_; (try simp only [Act.put, List.setIfInBounds_toArray, List.set_cons_zero, List.set_cons_succ]))))
          refine wp_region_exA (A := ?Ar1) 9 [(0, 16), (1, 17), (2, 18), (3, 19), (4, 20), (5, 21), (6, 22), (7, 23), (8, 24)] [.val (.slice (some ad) l.length cap), .val (.int .i64 (j : Int)), .val (.pointer (some (ad.add j))), .val (.int .i64 x), .val (.slice (some ad2) m.length cap'), .val (.int .i64 (j : Int)), .val (.pointer (some (ad2.add j))), .val (.int .i64 y), .val (.bool true)] follows (by kernel_rfl) rfl ?hAr1
            (opsA_cons ?o0r1 (opsA_cons ?o1r1 (opsA_cons ?o2r1 (opsA_cons ?o3r1 (opsA_cons ?o4r1 (opsA_cons ?o5r1 (opsA_cons ?o6r1 (opsA_cons ?o7r1 (opsA_cons ?o8r1 opsA_nil))))))))) ?restr1
          case hAr1 =>
            intro ptrs
            simp only [full, foldSlots, filledE, postE, List.foldl_cons, List.foldl_nil, List.getD_cons_zero, List.getD_cons_succ, fill_val, List.set_cons_zero, List.set_cons_succ]
            exact rfl
          case o0r1 => exact fun _ _ _ _ => opE_move (v := (.slice (some ad) l.length cap)) _ rfl rfl rfl
          case o1r1 => exact fun _ _ _ _ => opE_move (v := (.int .i64 (j : Int))) _ rfl rfl rfl
          case o2r1 => exact fun _ _ hw _ => opE_value (v := (.pointer (some (ad.add j)))) rfl (run_idx1 iT28 _ _ rfl ad l.length cap j rfl rfl hjl _)
          case o3r1 => exact fun _ _ hw _ => opE_value (v := (.int .i64 x)) rfl (run_ldc1 3 (na3 _) _ rfl (ad.add j) rfl _ (cell_gro hw hc1.out))
          case o4r1 => exact fun _ _ _ _ => opE_move (v := (.slice (some ad2) m.length cap')) _ rfl rfl rfl
          case o5r1 => exact fun _ _ _ _ => opE_move (v := (.int .i64 (j : Int))) _ rfl rfl rfl
          case o6r1 => exact fun _ _ hw _ => opE_value (v := (.pointer (some (ad2.add j)))) rfl (run_idx1 iT28 _ _ rfl ad2 m.length cap' j rfl rfl hjm _)
          case o7r1 => exact fun _ _ hw _ => opE_value (v := (.int .i64 y)) rfl (run_ldc1 3 (na3 _) _ rfl (ad2.add j) rfl _ (cell_gro hw hc2.out))
          case o8r1 => exact fun _ _ hw _ => opE_value (v := (.bool true)) rfl (run_neqT 3 .i64 _ _ _ rfl Try.underlying3 x y rfl rfl hxy _)
          intro ptrs w5 G5 _
          simp only [List.drop_succ_cons, List.drop_zero]
          replace GG := GG.drew.trans G5
          go_wp2
          go_ret
          exact ⟨by rw [E1.out]; rfl, GG⟩
        · have exy : x = y := of_decide_eq_true hxy
          have HT2 : Shut (l.take (j + 1) = m.take (j + 1)) := ⟨by rw [HSl.out, HSm.out, HT.out, exy]⟩
          clear exy
          go_wp2_with (first | (with_reducible refine wpList_at ?_; first | (refine wpList_value_d 14 rfl rfl (.bool true) (run_lss64 _ _ _ rfl (j : Int) (l.length : Int) rfl rfl true hlt _) ?_; (try simp only [Act.put, List.setIfInBounds_toArray, List.set_cons_zero, List.set_cons_succ]))))
          refine wp_region_exA (A := ?Ar2) 9 [(0, 16), (1, 17), (2, 18), (3, 19), (4, 20), (5, 21), (6, 22), (7, 23), (8, 24)] [.val (.slice (some ad) l.length cap), .val (.int .i64 (j : Int)), .val (.pointer (some (ad.add j))), .val (.int .i64 x), .val (.slice (some ad2) m.length cap'), .val (.int .i64 (j : Int)), .val (.pointer (some (ad2.add j))), .val (.int .i64 y), .val (.bool false)] follows (by kernel_rfl) rfl ?hAr2
            (opsA_cons ?o0r2 (opsA_cons ?o1r2 (opsA_cons ?o2r2 (opsA_cons ?o3r2 (opsA_cons ?o4r2 (opsA_cons ?o5r2 (opsA_cons ?o6r2 (opsA_cons ?o7r2 (opsA_cons ?o8r2 opsA_nil))))))))) ?restr2
          case hAr2 =>
            intro ptrs
            simp only [full, foldSlots, filledE, postE, List.foldl_cons, List.foldl_nil, List.getD_cons_zero, List.getD_cons_succ, fill_val, List.set_cons_zero, List.set_cons_succ]
            exact rfl
          case o0r2 => exact fun _ _ _ _ => opE_move (v := (.slice (some ad) l.length cap)) _ rfl rfl rfl
          case o1r2 => exact fun _ _ _ _ => opE_move (v := (.int .i64 (j : Int))) _ rfl rfl rfl
          case o2r2 => exact fun _ _ hw _ => opE_value (v := (.pointer (some (ad.add j)))) rfl (run_idx1 iT28 _ _ rfl ad l.length cap j rfl rfl hjl _)
          case o3r2 => exact fun _ _ hw _ => opE_value (v := (.int .i64 x)) rfl (run_ldc1 3 (na3 _) _ rfl (ad.add j) rfl _ (cell_gro hw hc1.out))
          case o4r2 => exact fun _ _ _ _ => opE_move (v := (.slice (some ad2) m.length cap')) _ rfl rfl rfl
          case o5r2 => exact fun _ _ _ _ => opE_move (v := (.int .i64 (j : Int))) _ rfl rfl rfl
          case o6r2 => exact fun _ _ hw _ => opE_value (v := (.pointer (some (ad2.add j)))) rfl (run_idx1 iT28 _ _ rfl ad2 m.length cap' j rfl rfl hjm _)
          case o7r2 => exact fun _ _ hw _ => opE_value (v := (.int .i64 y)) rfl (run_ldc1 3 (na3 _) _ rfl (ad2.add j) rfl _ (cell_gro hw hc2.out))
          case o8r2 => exact fun _ _ hw _ => opE_value (v := (.bool false)) rfl (run_neqF 3 .i64 _ _ _ rfl Try.underlying3 x y rfl rfl hxy _)
          intro ptrs w5 G5 _
          simp only [List.drop_succ_cons, List.drop_zero]
          replace GG := GG.drew.trans G5
          go_wp2
          go_light
          go_roundw
          case rel => exact ⟨j + 1, by omega, by go_num, HT2, GG⟩
          case measure => simp [intOf]; omega
set_option maxRecDepth 100000 in
set_option maxHeartbeats 3200000 in
theorem equalD_any (ao ao' : Option Addr) (cap cap' : Nat) (l m : List (List Nat)) (w : World) (HL : XC w 16 ao cap l.length (cellsI l)) (HM : XC w 16 ao' cap' m.length (cellsI m)) (hol : ok16 l) (hom : ok16 m) (hlen : l.length ≤ 140737488355000) : Calls Try.prog 32 #[.slice ao l.length cap, .slice ao' m.length cap'] w fun e w' => e = .returned (.bool (decide (l = m))) ∧ Gro w w' := by
  cases hne : decide ((l.length : Int) = (m.length : Int))
  · have e1 : decide (l = m) = false := decide_eq_false fun h => by subst h; simp at hne
    rw [e1]
    clear e1
    go_enter Try.func32, Try.ntmps32
    go_wp2_with (first | (with_reducible refine wpList_at ?_; first | (refine wpList_value_d 10 rfl rfl (.bool true) (run_neqT 3 .i64 _ _ _ rfl Try.underlying3 (l.length : Int) (m.length : Int) rfl rfl hne _) ?_; (try simp only [Act.put, List.setIfInBounds_toArray, List.set_cons_zero, List.set_cons_succ]))))
    go_ret
    exact ⟨rfl, Gro.refl _⟩
  · have HLM : Shut (l.length = m.length) := ⟨by simp at hne; omega⟩
    go_enter Try.func32, Try.ntmps32
    go_wp2_with (first | (with_reducible refine wpList_at ?_; first | (refine wpList_value_d 10 rfl rfl (.bool false) (run_neqF 3 .i64 _ _ _ rfl Try.underlying3 (l.length : Int) (m.length : Int) rfl rfl hne _) ?_; (try simp only [Act.put, List.setIfInBounds_toArray, List.set_cons_zero, List.set_cons_succ]))))
    go_loopw [13] (fun i wr => ∃ j : Nat, j ≤ l.length ∧ i = .int .i64 (j : Int) ∧ Shut (l.take j = m.take j) ∧ Gro w wr) (fun i _ => l.length - (intOf i).toNat)
    case atStart => exact ⟨0, by omega, rfl, ⟨rfl⟩, Gro.refl _⟩
    case round =>
      rename_i wr
      obtain ⟨j, hj, rfl, HT, GG⟩ := hrel
      cases hlt : decide ((j : Int) < (l.length : Int))
      · have ej : j = l.length := by simp at hlt; omega
        have e1 : decide (l = m) = true := decide_eq_true (by have := HT.out; rw [ej, List.take_length, HLM.out, List.take_length] at this; exact this)
        have E1 : Shut _ := ⟨e1⟩
        clear e1 ej
        go_wp2_with (first | (with_reducible refine wpList_at ?_; first | (refine wpList_value_d 14 rfl rfl (.bool false) (run_lss64 _ _ _ rfl (j : Int) (l.length : Int) rfl rfl false hlt _) ?_; (try simp only [Act.put, List.setIfInBounds_toArray, List.set_cons_zero, List.set_cons_succ]))))
        go_ret
        exact ⟨by rw [E1.out]; rfl, GG⟩
      · have hjl : j < l.length := by simp at hlt; omega
        have hjm : j < m.length := by have := HLM.out; omega
        have HSl : Shut _ := ⟨take_one l [] j hjl⟩
        have HSm : Shut _ := ⟨take_one m [] j hjm⟩
        have HDl : Shut (l = m → l.getD j [] = m.getD j []) := ⟨fun h => by rw [h]⟩
        obtain ⟨ad, rfl⟩ := HL.some (by omega)
        obtain ⟨ad2, rfl⟩ := HM.some (by omega)
        have hc1 := And.intro (cellsI_at l j hol hjl) (hol _ (getD_mem l [] j hjl))
        have hc2 := And.intro (cellsI_at m j hom hjm) (hom _ (getD_mem m [] j hjm))

        obtain ⟨x, hx⟩ : ∃ x, l.getD j [] = x := ⟨_, rfl⟩
        obtain ⟨y, hy⟩ : ∃ y, m.getD j [] = y := ⟨_, rfl⟩
        rw [hx] at HSl HDl hc1
        rw [hy] at HSm HDl hc2
        clear hx hy
        have HX1 : Shut _ := ⟨hc1.2⟩
        have HY1 : Shut _ := ⟨hc2.2⟩
        have E1c : Shut ((((cellsI l).drop (j * 16)).take 16).toArray = c23 (idF x)) := ⟨by rw [hc1.1, ← bA_c23 hc1.2.1]; rfl⟩
        have E2c : Shut ((((cellsI m).drop (j * 16)).take 16).toArray = c23 (idF y)) := ⟨by rw [hc2.1, ← bA_c23 hc2.2.1]; rfl⟩
        clear hc1 hc2
        cases hxy : decide (idL (idF x) = idL (idF y))
        · have e1 : decide (l = m) = false := decide_eq_false fun h => by have := HDl.out h; subst this; simp at hxy
          have E1 : Shut _ := ⟨e1⟩
          have EXY : Shut _ := ⟨hxy⟩
          clear e1
          go_wp2_with (first | (with_reducible refine wpList_at ?_; first | (refine wpList_value_d 14 rfl rfl (.bool true) (run_lss64 _ _ _ rfl (j : Int) (l.length : Int) rfl rfl true hlt _) ?_; (try simp only [Act.put, List.setIfInBounds_toArray, List.set_cons_zero, List.set_cons_succ]))))
          refine wp_region_exA (A := ?Ar3) 9 [(0, 16), (1, 17), (2, 18), (3, 19), (4, 20), (5, 21), (6, 22), (7, 23), (8, 24)] [.val (.slice (some ad) l.length cap), .val (.int .i64 (j : Int)), .val (.pointer (some (ad.add (j * 16)))), .val (.agg (c23 (idF x))), .val (.slice (some ad2) m.length cap'), .val (.int .i64 (j : Int)), .val (.pointer (some (ad2.add (j * 16)))), .val (.agg (c23 (idF y))), .val (.bool true)] follows (by kernel_rfl) rfl ?hAr3
            (opsA_cons ?o0r3 (opsA_cons ?o1r3 (opsA_cons ?o2r3 (opsA_cons ?o3r3 (opsA_cons ?o4r3 (opsA_cons ?o5r3 (opsA_cons ?o6r3 (opsA_cons ?o7r3 (opsA_cons ?o8r3 opsA_nil))))))))) ?restr3
          case hAr3 =>
            intro ptrs
            simp only [full, foldSlots, filledE, postE, List.foldl_cons, List.foldl_nil, List.getD_cons_zero, List.getD_cons_succ, fill_val, List.set_cons_zero, List.set_cons_succ]
            exact rfl
          case o0r3 => exact fun _ _ _ _ => opE_move (v := (.slice (some ad) l.length cap)) _ rfl rfl rfl
          case o1r3 => exact fun _ _ _ _ => opE_move (v := (.int .i64 (j : Int))) _ rfl rfl rfl
          case o2r3 => exact fun _ _ hw _ => opE_value (v := (.pointer (some (ad.add (j * 16))))) rfl (run_idxX iT29 _ _ rfl ad l.length cap j rfl rfl hjl _)
          case o3r3 => exact fun _ _ hw _ => opE_value (v := (.agg (c23 (idF x)))) rfl (run_ldXv iT29 _ Try.underlying27 rfl _ rfl ad j rfl _ (HL.gro (GG.drew.trans hw)) hjl _ E1c.out)
          case o4r3 => exact fun _ _ _ _ => opE_move (v := (.slice (some ad2) m.length cap')) _ rfl rfl rfl
          case o5r3 => exact fun _ _ _ _ => opE_move (v := (.int .i64 (j : Int))) _ rfl rfl rfl
          case o6r3 => exact fun _ _ hw _ => opE_value (v := (.pointer (some (ad2.add (j * 16))))) rfl (run_idxX iT29 _ _ rfl ad2 m.length cap' j rfl rfl hjm _)
          case o7r3 => exact fun _ _ hw _ => opE_value (v := (.agg (c23 (idF y)))) rfl (run_ldXv iT29 _ Try.underlying27 rfl _ rfl ad2 j rfl _ (HM.gro (GG.drew.trans hw)) hjm _ E2c.out)
          case o8r3 => exact fun _ _ hw _ => opE_value (v := (.bool true)) rfl (run_cmpA .neq 27 _ _ _ rfl _ _ rfl rfl (by kernel_rfl) _ (by rw [ne23, EXY.out]; rfl))
          intro ptrs w5 G5 _
          simp only [List.drop_succ_cons, List.drop_zero]
          replace GG := GG.drew.trans G5
          go_wp2
          go_ret
          exact ⟨by rw [E1.out]; rfl, GG⟩
        · have exy : x = y := by have := of_decide_eq_true hxy; rw [idL_idF HX1.out.1, idL_idF HY1.out.1] at this; exact this
          have EXY : Shut _ := ⟨hxy⟩
          have HT2 : Shut (l.take (j + 1) = m.take (j + 1)) := ⟨by rw [HSl.out, HSm.out, HT.out, exy]⟩
          clear exy
          go_wp2_with (first | (with_reducible refine wpList_at ?_; first | (refine wpList_value_d 14 rfl rfl (.bool true) (run_lss64 _ _ _ rfl (j : Int) (l.length : Int) rfl rfl true hlt _) ?_; (try simp only [Act.put, List.setIfInBounds_toArray, List.set_cons_zero, List.set_cons_succ]))))
          refine wp_region_exA (A := ?Ar4) 9 [(0, 16), (1, 17), (2, 18), (3, 19), (4, 20), (5, 21), (6, 22), (7, 23), (8, 24)] [.val (.slice (some ad) l.length cap), .val (.int .i64 (j : Int)), .val (.pointer (some (ad.add (j * 16)))), .val (.agg (c23 (idF x))), .val (.slice (some ad2) m.length cap'), .val (.int .i64 (j : Int)), .val (.pointer (some (ad2.add (j * 16)))), .val (.agg (c23 (idF y))), .val (.bool false)] follows (by kernel_rfl) rfl ?hAr4
            (opsA_cons ?o0r4 (opsA_cons ?o1r4 (opsA_cons ?o2r4 (opsA_cons ?o3r4 (opsA_cons ?o4r4 (opsA_cons ?o5r4 (opsA_cons ?o6r4 (opsA_cons ?o7r4 (opsA_cons ?o8r4 opsA_nil))))))))) ?restr4
          case hAr4 =>
            intro ptrs
            simp only [full, foldSlots, filledE, postE, List.foldl_cons, List.foldl_nil, List.getD_cons_zero, List.getD_cons_succ, fill_val, List.set_cons_zero, List.set_cons_succ]
            exact rfl
          case o0r4 => exact fun _ _ _ _ => opE_move (v := (.slice (some ad) l.length cap)) _ rfl rfl rfl
          case o1r4 => exact fun _ _ _ _ => opE_move (v := (.int .i64 (j : Int))) _ rfl rfl rfl
          case o2r4 => exact fun _ _ hw _ => opE_value (v := (.pointer (some (ad.add (j * 16))))) rfl (run_idxX iT29 _ _ rfl ad l.length cap j rfl rfl hjl _)
          case o3r4 => exact fun _ _ hw _ => opE_value (v := (.agg (c23 (idF x)))) rfl (run_ldXv iT29 _ Try.underlying27 rfl _ rfl ad j rfl _ (HL.gro (GG.drew.trans hw)) hjl _ E1c.out)
          case o4r4 => exact fun _ _ _ _ => opE_move (v := (.slice (some ad2) m.length cap')) _ rfl rfl rfl
          case o5r4 => exact fun _ _ _ _ => opE_move (v := (.int .i64 (j : Int))) _ rfl rfl rfl
          case o6r4 => exact fun _ _ hw _ => opE_value (v := (.pointer (some (ad2.add (j * 16))))) rfl (run_idxX iT29 _ _ rfl ad2 m.length cap' j rfl rfl hjm _)
          case o7r4 => exact fun _ _ hw _ => opE_value (v := (.agg (c23 (idF y)))) rfl (run_ldXv iT29 _ Try.underlying27 rfl _ rfl ad2 j rfl _ (HM.gro (GG.drew.trans hw)) hjm _ E2c.out)
          case o8r4 => exact fun _ _ hw _ => opE_value (v := (.bool false)) rfl (run_cmpA .neq 27 _ _ _ rfl _ _ rfl rfl (by kernel_rfl) _ (by rw [ne23, EXY.out]; rfl))
          intro ptrs w5 G5 _
          simp only [List.drop_succ_cons, List.drop_zero]
          replace GG := GG.drew.trans G5
          go_wp2
          go_light
          go_roundw
          case rel => exact ⟨j + 1, by omega, by go_num, HT2, GG⟩
          case measure => simp [intOf]; omega
end Go.Proofs.Ythmcnlmphikicab
