/- Rows that are written over. -/
import Derived.Test.YthmcnlmphikicabZX1
import Derived.Test.YthmcnlmphikicabZS1
import Derived.Test.YthmcnlmphikicabZB5
namespace Go.Proofs.Ythmcnlmphikicab
open Go.RowKit
structure GroS (S : List Nat) (w w' : World) : Prop where
  os : w'.os = w.os
  tape : w'.tape = w.tape
  output : w'.output = w.output
  size : w.heap.size ≤ w'.heap.size
  old : ∀ k, k < w.heap.size → k ∉ S → w'.heap[k]? = w.heap[k]?
theorem GroS.refl (S : List Nat) (w : World) : GroS S w w := ⟨rfl, rfl, rfl, Nat.le_refl _, fun _ _ _ => rfl⟩
theorem GroS.trans {S : List Nat} {a b c : World} (h : GroS S a b) (k : GroS S b c) : GroS S a c :=
  ⟨k.os.trans h.os, k.tape.trans h.tape, k.output.trans h.output, Nat.le_trans h.size k.size, fun i hi hn => (k.old i (Nat.lt_of_lt_of_le hi h.size) hn).trans (h.old i hi hn)⟩
theorem GroS.of {S : List Nat} {a b : World} (h : Gro a b) : GroS S a b := ⟨h.os, h.tape, h.output, h.size, fun k hk _ => h.block k hk⟩
theorem GroS.tg {S : List Nat} {a b c : World} (h : GroS S a b) (k : Gro b c) : GroS S a c := h.trans (.of k)
theorem GroS.drew {S : List Nat} {a b : World} (h : GroS S a b) : GroS S a b.drew := h.tg (Gro.refl b).drew
theorem GroS.st {S : List Nat} {g : Nat} {a b c : World} {x : Obj} (h : GroS S a b) (T : Stored b c g x) (hg : a.heap.size ≤ g ∨ g ∈ S) : GroS S a c :=
  ⟨T.os.trans h.os, T.tape.trans h.tape, T.output.trans h.output, Nat.le_trans h.size (Nat.le_of_eq T.size.symm), fun i hi hn => (T.old i (fun e => by
    rcases hg with hg | hg
    · omega
    · exact hn (e ▸ hg))).trans (h.old i hi hn)⟩
theorem GroS.has {S : List Nat} {k : Nat} {a b : World} {x : Obj} (h : GroS S a b) (hk : a.heap[k]? = some x) (hn : k ∉ S) : b.heap[k]? = some x := by
  rw [h.old k (lt_of_heap hk) hn]; exact hk
theorem GroS.mono {S T : List Nat} {a b : World} (h : GroS S a b) (hs : ∀ x ∈ S, x ∈ T) : GroS T a b := ⟨h.os, h.tape, h.output, h.size, fun k hk hn => h.old k hk fun e => hn (hs k e)⟩
theorem GroS.gro {S : List Nat} {w a b : World} (h : GroS S a b) (G : Gro w a) (hs : ∀ x ∈ S, w.heap.size ≤ x) : Gro w b :=
  ⟨h.os.trans G.os, h.tape.trans G.tape, h.output.trans G.output, Nat.le_trans G.size h.size, fun k hk => (h.old k (Nat.lt_of_lt_of_le hk G.size) (fun e => by have := hs k e; omega)).trans (G.block k hk)⟩
theorem GroS.gros {S T : List Nat} {w a b : World} (h : GroS S a b) (G : GroS T w a) (hs : ∀ x ∈ S, x ∈ T ∨ w.heap.size ≤ x) : GroS T w b :=
  ⟨h.os.trans G.os, h.tape.trans G.tape, h.output.trans G.output, Nat.le_trans G.size h.size, fun k hk hn => (h.old k (Nat.lt_of_lt_of_le hk G.size) (fun e => by
    rcases hs k e with h | h
    · exact hn h
    · omega)).trans (G.old k hk hn)⟩
theorem GroS.nc {S : List Nat} {w w' : World} {k : IntKind} {ao : Option Addr} {cap : Nat} {l : List Nat} (G : GroS S w w') (h : NC w k ao cap l) (hne : ∀ ad, ao = some ad → 0 < l.length → ad.block ∉ S) : NC w' k ao cap l :=
  ⟨h.fit, h.bare, fun ad ha j hj => by
    have h1 := h.cell ad ha j hj
    have hb : (ad.add j).block = ad.block := add_block ad j
    exact (World.cell?_of_block (G.old _ (World.block_lt_of_cell? w _ h1) (by rw [hb]; exact hne ad ha (by omega)))).trans h1, h.wf⟩
def blk (ao : Option Addr) : List Nat := match ao with
  | none => []
  | some ad => [ad.block]
theorem mem_blk {ao : Option Addr} {k : Nat} : k ∈ blk ao ↔ ∃ ad, ao = some ad ∧ ad.block = k := by
  cases ao <;> simp [blk, eq_comm]
theorem OX.gros {S : List Nat} {w w' : World} {e : TypeId} {sz B : Nat} {ao : Option Addr} {cap n : Nat} {cs : List Value} (h : OX w e sz B ao cap n cs) (G : GroS S w w') (hs : ∀ ad, ao = some ad → ad.block ∉ S) : OX w' e sz B ao cap n cs := by
  refine ⟨⟨h.own.1, ?_⟩, h.one⟩
  rcases h.own.2 with h1 | ⟨g, c, cur, h1, h2, h3, h4⟩
  · exact .inl h1
  · refine .inr ⟨g, c, cur, h1, h2, G.has h3 ?_, h4⟩
    injection h1 with h1
    exact hs _ h1
structure RI (w : World) (e : TypeId) (k : IntKind) (sz : Nat) (ao : Option Addr) (n : Nat) : Prop where
  row : 0 < n → ∃ g cur, ao = some ⟨g, 0, none⟩ ∧ w.heap[g]? = some (.cells cur e (0, 0)) ∧ n * sz ≤ cur.size ∧ ∀ j, j < n * sz → ∃ x, cur[j]? = some (.int k x)
theorem RI.of {w : World} {e : TypeId} {k : IntKind} {sz B : Nat} {ao : Option Addr} {cap n : Nat} {cs : List Value} (h : OX w e sz B ao cap n cs) (hc : ∀ v ∈ cs, ∃ x, v = .int k x) : RI w e k sz ao n := ⟨fun h0 => by
  rcases h.own.2 with ⟨h1, h2⟩ | ⟨g, c, cur, h1, hB, h2, h3, h4, h5, h6⟩
  · omega
  · injection h1 with e1 e2 e3
    subst e1 e3
    have hsz : n * sz ≤ cur.size := by rw [h5]; exact Nat.mul_le_mul_right _ h3
    refine ⟨g, cur, rfl, h2, hsz, fun j hj => ?_⟩
    have hj2 : j < cur.size := by omega
    obtain ⟨x, hx⟩ := hc cur[j] (by
      rw [← h6]
      have : (cur.toList.take (n * sz))[j]? = some cur[j] := by
        rw [List.getElem?_take_of_lt hj]
        simp [hj2]
      exact List.mem_of_getElem? this)
    exact ⟨x, by rw [Array.getElem?_eq_getElem hj2, hx]⟩⟩
theorem RI.gro {w w' : World} {e : TypeId} {k : IntKind} {sz n : Nat} {ao : Option Addr} (h : RI w e k sz ao n) (G : Gro w w') : RI w' e k sz ao n := ⟨fun h0 => by
  obtain ⟨g, cur, h1, h2, h3⟩ := h.row h0
  exact ⟨g, cur, h1, G.has h2, h3⟩⟩
theorem RI.st {w w' : World} {e e' : TypeId} {k k' : IntKind} {sz n : Nat} {ao : Option Addr} (h : RI w e k sz ao n) {g j : Nat} {cur : Array Value} {y : Int} (hg : w.heap[g]? = some (.cells cur e' (0, 0))) (hj : j < cur.size) (St : Stored w w' g (.cells (splice cur j #[.int k' y]) e' (0, 0))) (hk : e = e' → k = k') : RI w' e k sz ao n := ⟨fun h0 => by
  obtain ⟨g2, cur2, h1, h2, h3, h4⟩ := h.row h0
  by_cases hgg : g2 = g
  · subst hgg
    rw [hg] at h2
    injection h2 with h2
    injection h2 with h5 h6
    subst h5 h6
    obtain rfl := hk rfl
    refine ⟨g2, _, h1, St.new, ?_, fun i hi => ?_⟩
    · rw [splice_one _ _ _ hj]
      simpa using h3
    · rw [splice_one _ _ _ hj]
      by_cases hij : j = i
      · subst hij
        exact ⟨y, by simp [hj]⟩
      · obtain ⟨x, hx⟩ := h4 i hi
        exact ⟨x, by rw [Array.getElem?_setIfInBounds_ne hij]; exact hx⟩
  · exact ⟨g2, cur2, h1, St.has hgg h2, h3, h4⟩⟩
theorem run_incW {P : Program} {o : Oper} {A : Act} (t t2 : TypeId) (x y : Operand) (ho : o.op = .binOp .add t x y t2) (k : IntKind) (z : Int) (hx : A.eval x = .int k z) (hy : A.eval y = .int k 1) (w : World) : (execOp A.eval o).run P w = .ok (.value (.int k (k.wrap (z + 1)))) w := by
  refine run_binop .add t x y t2 ho _ _ _ hx hy (by simp [eqGuard]) ?_
  simp [go_sem]
end Go.Proofs.Ythmcnlmphikicab
namespace Go.Proofs.Ythmcnlmphikicab
open Go.RowKit
section
variable {P : Program} {o : Oper} {A : Act}
structure CutOK (P : Program) (t : TypeId) (ao : Option Addr) (n cap i : Nat) (ao1 : Option Addr) (n1 cap1 : Nat) : Prop where
  run : ∀ {o : Oper} {A : Act} (x y : Operand), o.op = .slice t x (some y) none none → A.eval x = .slice ao n cap → A.eval y = .int .i64 (i : Int) → ∀ w, (execOp A.eval o).run P w = .ok (.value (.slice ao1 n1 cap1)) w
theorem NC.cut {t e : TypeId} {k : IntKind} {b : Nat} (T : NumT P t e k b) {w : World} {ao : Option Addr} {cap : Nat} {l : List Nat} (h : NC w k ao cap l) (i : Nat) (hi : i ≤ l.length) :
    ∃ ao1 cap1 L, Shut (L = l.drop i) ∧ NC w k ao1 cap1 L ∧ CutOK P t ao l.length cap i ao1 L.length cap1 :=
  ⟨_, _, l.drop i, ⟨rfl⟩, h.drop i hi, ⟨fun x y ho hx hy w => by rw [run_cut T x y ho ao l.length cap i hx hy hi w, List.length_drop]⟩⟩
theorem run_shl8 (t t2 : TypeId) (x y : Operand) (ho : o.op = .binOp .shl t x y t2) (n : Nat) (hn : n < 72057594037927936) (ky : IntKind) (hx : A.eval x = .int .u64 (n : Int)) (hy : A.eval y = .int ky 8) (w : World) : (execOp A.eval o).run P w = .ok (.value (.int .u64 ((n * 256 : Nat) : Int))) w := by
  refine run_binop .shl t x y t2 ho _ _ _ hx hy (by simp [eqGuard]) ?_
  have h2 : IntKind.u64.wrap ((n : Int) * 2 ^ min 8 IntKind.u64.bits) = ((n * 256 : Nat) : Int) := by
    have : min 8 IntKind.u64.bits = 8 := rfl
    rw [this]
    simp [IntKind.wrap, IntKind.bits, IntKind.signed]
    omega
  simp [binOp, Op.shift, h2]
theorem or_nat (a b : Nat) (ha : a < 72057594037927936) (hb : b < 256) : (BitVec.ofInt 64 ((a * 256 : Nat) : Int) ||| BitVec.ofInt 64 (b : Int)).toNat = a * 256 + b := by
  rw [BitVec.ofInt_natCast, BitVec.ofInt_natCast, BitVec.toNat_or, BitVec.toNat_ofNat, BitVec.toNat_ofNat, Nat.mod_eq_of_lt (by omega), Nat.mod_eq_of_lt (by omega)]
  have := Nat.shiftLeft_add_eq_or_of_lt (b := b) (i := 8) (by omega) a
  rw [Nat.shiftLeft_eq, show (2 : Nat) ^ 8 = 256 from rfl] at this
  omega
theorem run_or8 (t t2 : TypeId) (x y : Operand) (ho : o.op = .binOp .or t x y t2) (a b : Nat) (ha : a < 72057594037927936) (hb : b < 256) (hx : A.eval x = .int .u64 ((a * 256 : Nat) : Int)) (hy : A.eval y = .int .u64 (b : Int)) (r : Nat) (hr : a * 256 + b = r) (w : World) : (execOp A.eval o).run P w = .ok (.value (.int .u64 (r : Int))) w := by
  refine run_binop .or t x y t2 ho _ _ _ hx hy (by simp [eqGuard]) ?_
  subst hr
  have h2 : IntKind.u64.wrap (((BitVec.ofInt 64 ((a * 256 : Nat) : Int) ||| BitVec.ofInt 64 (b : Int)).toNat : Nat) : Int) = ((a * 256 + b : Nat) : Int) := by
    rw [or_nat a b ha hb]
    simp [IntKind.wrap, IntKind.bits, IntKind.signed]
    omega
  have e : IntKind.u64.bits = 64 := rfl
  show (Op.intBits .or .u64 ((a * 256 : Nat) : Int) (b : Int)).run P w = _
  unfold Op.intBits
  simp only [Sem.run_pure]
  exact congrArg (fun z => Result.ok (Value.int .u64 z) w) h2
theorem run_gtr64 (x y : Operand) (t2 : TypeId) (ho : o.op = .binOp .gtr 3 x y t2) (a b : Int) (hx : A.eval x = .int .i64 a) (hy : A.eval y = .int .i64 b) (p : Bool) (hp : decide (b < a) = p) (w : World) : (execOp A.eval o).run P w = .ok (.value (.bool p)) w := by
  subst hp
  refine run_binop .gtr 3 x y t2 ho _ _ _ hx hy (by simp [eqGuard]) ?_
  simp [go_sem]
theorem run_eq_k (t : TypeId) (k : IntKind) (x y : Operand) (t2 : TypeId) (ho : o.op = .binOp .eql t x y t2) (hu : P.underlying t = some (.int k)) (a b : Int) (hx : A.eval x = .int k a) (hy : A.eval y = .int k b) (p : Bool) (hp : decide (a = b) = p) (w : World) : (execOp A.eval o).run P w = .ok (.value (.bool p)) w := by
  subst hp
  refine run_binop .eql t x y t2 ho _ _ _ hx hy (by simp [eqGuard, go_sem]) ?_
  have h := run_equalIn_int w Op.maxDepth t k k a b hu
  simp only [binOp]
  simp [go_sem]
  rfl
end
theorem conv53 {o : Oper} {A : Act} (x : Operand) (ho : o.op = .convert 5 3 x) (n : Nat) (hn : n < 256) (hx : A.eval x = .int .u8 (n : Int)) (w : World) : (execOp A.eval o).run Try.prog w = .ok (.value (.int .i64 (n : Int))) w := by
  have h := wrap_in (n : Int) (by omega) (by omega)
  unfold execOp
  simp only [ho, hx]
  simp [convert, go_sem, Conv.intToInt, h]
theorem conv525 {o : Oper} {A : Act} (x : Operand) (ho : o.op = .convert 5 62 x) (n : Nat) (hn : n < 256) (hx : A.eval x = .int .u8 (n : Int)) (w : World) : (execOp A.eval o).run Try.prog w = .ok (.value (.int .u64 (n : Int))) w := by
  have h : IntKind.u64.wrap (n : Int) = (n : Int) := by
    simp [IntKind.wrap, IntKind.bits, IntKind.signed]
    omega
  unfold execOp
  simp only [ho, hx]
  simp [go_sem, h]
theorem within_any (ao : Option Addr) (n cap : Nat) (i : Int) (w : World) : Calls Try.prog 66 #[.slice ao n cap, .int .i64 i] w fun e w' => e = .returned (.bool (decide (0 ≤ i ∧ i ≤ (n : Int)))) ∧ w' = w := by
  by_cases h : 0 ≤ i
  · go_enter Try.func66, Try.ntmps66
    go_wp2
    go_ret
    refine ⟨?_, rfl⟩
    simp [h]
  · go_enter Try.func66, Try.ntmps66
    go_wp2
    go_ret
    refine ⟨?_, rfl⟩
    simp
    omega
end Go.Proofs.Ythmcnlmphikicab
