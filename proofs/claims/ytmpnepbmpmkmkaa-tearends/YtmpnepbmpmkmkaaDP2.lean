/- Keys and entries in memory: cells, likeness, rows. -/
import Derived.Test.YtmpnepbmpmkmkaaDP1
import Derived.Test.YtmpnepbmpmkmkaaDQ1
import Derived.Test.YtmpnepbmpmkmkaaDBase
namespace Go.Proofs.Ytmpnepbmpmkmkaa
open Classical
open Go.RowKit
def paL (p : Pa) : List Value := (idA p.who).toList ++ [.int .i64 p.n]
def enL (x : En) : List Value := paL x.p ++ ((idA x.a).toList ++ ((idA x.b).toList ++ [.int .i64 x.na, .int .i64 x.nb]))
def paA (p : Pa) : Array Value := (paL p).toArray
def enA (x : En) : Array Value := (enL x).toArray
theorem idA_len (n : Nat) : (idA n).toList.length = 16 := by simp [idA]
theorem paL_len (p : Pa) : (paL p).length = 17 := by simp [paL, idA]
theorem enL_len (x : En) : (enL x).length = 51 := by simp [enL, paL, idA]
theorem paA_size (p : Pa) : (paA p).size = 17 := paL_len p
theorem enA_size (x : En) : (enA x).size = 51 := enL_len x
theorem paL_one (p : Pa) : ∀ v ∈ paL p, v.oneCell' = true := fun v hv => by
  rcases List.mem_append.1 hv with hv | hv
  · exact Array.all_eq_true_iff_forall_mem.1 (idA_one p.who) v (by simpa using hv)
  · rw [List.mem_singleton.1 hv]; rfl
theorem enL_one (x : En) : ∀ v ∈ enL x, v.oneCell' = true := fun v hv => by
  rcases List.mem_append.1 hv with hv | hv
  · exact paL_one x.p v hv
  rcases List.mem_append.1 hv with hv | hv
  · exact Array.all_eq_true_iff_forall_mem.1 (idA_one x.a) v (by simpa using hv)
  rcases List.mem_append.1 hv with hv | hv
  · exact Array.all_eq_true_iff_forall_mem.1 (idA_one x.b) v (by simpa using hv)
  simp only [List.mem_cons, List.not_mem_nil, or_false] at hv
  rcases hv with rfl | rfl <;> rfl
theorem enA_one (x : En) : (enA x).all (·.oneCell') = true := by
  rw [Array.all_eq_true_iff_forall_mem]
  exact fun v hv => enL_one x v (by simpa [enA] using hv)
theorem dP_w (p : Pa) : ((paL p).drop 0).take 16 = (idA p.who).toList := by kernel_rfl
theorem dE_0 (x : En) : ((enL x).drop 0).take 51 = enL x := by kernel_rfl
theorem dE_p (x : En) : ((enL x).drop 0).take 17 = paL x.p := by kernel_rfl
theorem aP_0 (p : Pa) : (paA p).extract 0 (0 + 17) = paA p := by kernel_rfl
theorem aP_w (p : Pa) : (paA p).extract 0 (0 + 16) = idA p.who := by kernel_rfl
theorem aP_n (p : Pa) : (paA p)[16]? = some (.int .i64 p.n) := by kernel_rfl
theorem aE_0 (x : En) : (enA x).extract 0 (0 + 51) = enA x := by kernel_rfl
theorem aE_p (x : En) : (enA x).extract 0 (0 + 17) = paA x.p := by kernel_rfl
theorem aE_a (x : En) : (enA x).extract 17 (17 + 16) = idA x.a := by kernel_rfl
theorem aE_b (x : En) : (enA x).extract 33 (33 + 16) = idA x.b := by kernel_rfl
theorem aE_na (x : En) : (enA x)[49]? = some (.int .i64 x.na) := by kernel_rfl
theorem aE_nb (x : En) : (enA x)[50]? = some (.int .i64 x.nb) := by kernel_rfl
/-- A call of a script. -/
structure Oq where
  k : Int
  n : Int
  x : En
structure Oq.ok (o : Oq) : Prop where
  k : I64 o.k
  n : I64 o.n
  x : o.x.ok
def zO : Oq := ⟨0, 0, zE⟩
def opL (o : Oq) : List Value := [.int .i64 o.k, .int .i64 o.n] ++ enL o.x
/-! ### Types -/
theorem si33 : (Try.prog.info? 52).map (·.size) = some 51 := by kernel_rfl
theorem si31 : (Try.prog.info? 26).map (·.size) = some 17 := by kernel_rfl
theorem si33' (x : En) : (Try.prog.info? 52).map (·.size) = some (enA x).size := by rw [enA_size]; exact si33
theorem na2 (w : World) : (isAgg 2).run Try.prog w = .ok false w := by kernel_rfl
theorem zero33 (w : World) : (zeroValue 52).run Try.prog w = .ok (.agg (enA zE)) w := by rw [Try.zeroValue52]; kernel_rfl
theorem fields31 : Try.prog.fieldsOf 26 = #[{ name := "Who", type := 24, offset := 0, embedded := false, tag := "", pkgPath := "", byteOffset := 0 }, { name := "N", type := 2, offset := 16, embedded := false, tag := "", pkgPath := "", byteOffset := 16 }] := by kernel_rfl
theorem fields33 : Try.prog.fieldsOf 52 = #[{ name := "P", type := 26, offset := 0, embedded := false, tag := "", pkgPath := "", byteOffset := 0 }, { name := "A", type := 24, offset := 17, embedded := false, tag := "", pkgPath := "", byteOffset := 24 }, { name := "B", type := 24, offset := 33, embedded := false, tag := "", pkgPath := "", byteOffset := 40 }, { name := "Na", type := 3, offset := 49, embedded := false, tag := "", pkgPath := "", byteOffset := 56 }, { name := "Nb", type := 3, offset := 50, embedded := false, tag := "", pkgPath := "", byteOffset := 64 }] := by kernel_rfl
theorem und31 : Try.prog.underlying 26 = some (.struct (Try.prog.fieldsOf 26)) := by rw [fields31]; exact Try.underlying26
theorem und33 : Try.prog.underlying 52 = some (.struct (Try.prog.fieldsOf 52)) := by rw [fields33]; exact Try.underlying52
/-! ### Likeness -/
theorem beq_dec (a b : Int) : (a == b) = decide (a = b) := rfl
theorem eqI_id (d : Nat) (a b : Nat) (ha : a < top) (hb : b < top) (w : World) : (Op.equalIn (d + 1 + 1) 24 (.agg (idA a)) (.agg (idA b))).run Try.prog w = .ok (decide (a = b)) w := by
  refine run_equalIn_row _ 24 5 16 Try.underlying24 w (Try.sizeOf5 w) (idA a) (idA b) (fun i => .int .u8 (byt a i)) (fun i => .int .u8 (byt b i)) (fun i => (byt a i : Int) == byt b i)
    (fun i hi => part_id a i hi w) (fun i hi => part_id b i hi w) (fun i _ => run_equalIn_int w _ 5 .u8 .u8 _ _ Try.underlying5) _ ?_
  rw [decide_eq_true_iff]
  constructor
  · rintro rfl i _; simp
  · intro h
    exact eq_of_bytes ha hb fun i hi => by have := h i hi; simp at this; omega
theorem eqF31 (d : Nat) (p q : Pa) (hp : p.ok) (hq : q.ok) (w : World) : (Op.equalIn (d + 1 + 1 + 1) 26 (.agg (paA p)) (.agg (paA q))).run Try.prog w = .ok (decide (p = q)) w := by
  have h1 : ∀ z : Pa, (part 24 (paA z) 0).run Try.prog w = .ok (.agg (idA z.who)) w := fun z => by kernel_rfl
  have h2 : ∀ z : Pa, (part 2 (paA z) 16).run Try.prog w = .ok (.int .i64 z.n) w := fun z => by kernel_rfl
  have h3 := eqI_id d p.who q.who hp.who hq.who w
  have h4 := run_equalIn_int (P := Try.prog) w (d + 1) 2 .i64 .i64 p.n q.n Try.underlying2
  rw [beq_dec] at h4
  have e : decide (p = q) = (decide (p.who = q.who) && decide (p.n = q.n)) := by
    obtain ⟨u, m⟩ := p
    obtain ⟨v, k⟩ := q
    simp
  rw [e, run_equalIn_struct w (d + 1 + 1) 26 _ _ und31 (by kernel_rfl), fields31]
  clear e hp hq
  generalize decide (p.who = q.who) = P1 at *
  generalize decide (p.n = q.n) = P2 at *
  unfold Op.eqFields
  rw [if_pos (by decide), Sem.run_bind, h1, Result.andThen_ok, Sem.run_bind, h1, Result.andThen_ok, Sem.run_bind, h3, Result.andThen_ok]
  cases P1
  · rfl
  rw [if_neg (by decide)]
  unfold Op.eqFields
  rw [if_pos (by decide), Sem.run_bind, h2, Result.andThen_ok, Sem.run_bind, h2, Result.andThen_ok, Sem.run_bind, h4, Result.andThen_ok]
  cases P2 <;> rfl
theorem eqF33 (d : Nat) (x y : En) (hx : x.ok) (hy : y.ok) (w : World) : (Op.equalIn (d + 1 + 1 + 1 + 1) 52 (.agg (enA x)) (.agg (enA y))).run Try.prog w = .ok (decide (x = y)) w := by
  have p1 : ∀ z : En, (part 26 (enA z) 0).run Try.prog w = .ok (.agg (paA z.p)) w := fun z => by kernel_rfl
  have p2 : ∀ z : En, (part 24 (enA z) 17).run Try.prog w = .ok (.agg (idA z.a)) w := fun z => by kernel_rfl
  have p3 : ∀ z : En, (part 24 (enA z) 33).run Try.prog w = .ok (.agg (idA z.b)) w := fun z => by kernel_rfl
  have p4 : ∀ z : En, (part 3 (enA z) 49).run Try.prog w = .ok (.int .i64 z.na) w := fun z => by kernel_rfl
  have p5 : ∀ z : En, (part 3 (enA z) 50).run Try.prog w = .ok (.int .i64 z.nb) w := fun z => by kernel_rfl
  have h1 := eqF31 d x.p y.p hx.p hy.p w
  have h2 := eqI_id (d + 1) x.a y.a hx.a hy.a w
  have h3 := eqI_id (d + 1) x.b y.b hx.b hy.b w
  have h4 := run_equalIn_int (P := Try.prog) w (d + 1 + 1) 3 .i64 .i64 x.na y.na Try.underlying3
  have h5 := run_equalIn_int (P := Try.prog) w (d + 1 + 1) 3 .i64 .i64 x.nb y.nb Try.underlying3
  rw [beq_dec] at h4 h5
  have e : decide (x = y) = (decide (x.p = y.p) && (decide (x.a = y.a) && (decide (x.b = y.b) && (decide (x.na = y.na) && decide (x.nb = y.nb))))) := by
    obtain ⟨q1, q2, q3, q4, q5⟩ := x
    obtain ⟨r1, r2, r3, r4, r5⟩ := y
    simp
  rw [e, run_equalIn_struct w (d + 1 + 1 + 1) 52 _ _ und33 (by kernel_rfl), fields33]
  clear e hx hy
  generalize decide (x.p = y.p) = P1 at *
  generalize decide (x.a = y.a) = P2 at *
  generalize decide (x.b = y.b) = P3 at *
  generalize decide (x.na = y.na) = P4 at *
  generalize decide (x.nb = y.nb) = P5 at *
  unfold Op.eqFields
  rw [if_pos (by decide), Sem.run_bind, p1, Result.andThen_ok, Sem.run_bind, p1, Result.andThen_ok, Sem.run_bind, h1, Result.andThen_ok]
  cases P1
  · rfl
  rw [if_neg (by decide)]
  unfold Op.eqFields
  rw [if_pos (by decide), Sem.run_bind, p2, Result.andThen_ok, Sem.run_bind, p2, Result.andThen_ok, Sem.run_bind, h2, Result.andThen_ok]
  cases P2
  · rfl
  rw [if_neg (by decide)]
  unfold Op.eqFields
  rw [if_pos (by decide), Sem.run_bind, p3, Result.andThen_ok, Sem.run_bind, p3, Result.andThen_ok, Sem.run_bind, h3, Result.andThen_ok]
  cases P3
  · rfl
  rw [if_neg (by decide)]
  unfold Op.eqFields
  rw [if_pos (by decide), Sem.run_bind, p4, Result.andThen_ok, Sem.run_bind, p4, Result.andThen_ok, Sem.run_bind, h4, Result.andThen_ok]
  cases P4
  · rfl
  rw [if_neg (by decide)]
  unfold Op.eqFields
  rw [if_pos (by decide), Sem.run_bind, p5, Result.andThen_ok, Sem.run_bind, p5, Result.andThen_ok, Sem.run_bind, h5, Result.andThen_ok]
  cases P5 <;> rfl
theorem run_cmpA {o : Oper} {A : Act} {w : World} (op : BinOp) (t : TypeId) (x y : Operand) (t2 : TypeId) (ho : o.op = .binOp op t x y t2) (c d : Array Value) (hx : A.eval x = .agg c) (hy : A.eval y = .agg d) (hm : Try.prog.eqGuardType Try.prog.depth t = false) (v : Value) (h : (binOp op t (.agg c) (.agg d)).run Try.prog w = .ok v w) : (execOp A.eval o).run Try.prog w = .ok (.value v) w :=
  run_binop op t x y t2 ho _ _ _ hx hy (run_eqGuard_agg w op t x y c d hm) h
section
variable {o : Oper} {A : Act} {w : World}
theorem run_neI (x y : Operand) (t2 : TypeId) (ho : o.op = .binOp .neq 24 x y t2) (n m : Nat) (hx : A.eval x = .agg (idA n)) (hy : A.eval y = .agg (idA m)) (hn : n < top) (hm : m < top) (p : Bool) (hp : decide (n = m) = !p) :
    (execOp A.eval o).run Try.prog w = .ok (.value (.bool p)) w := by
  have : p = !decide (n = m) := by rw [hp]; simp
  subst this
  exact run_eqlop_id x y t2 ho n m hx hy _ (fun w => run_neq_id n m hn hm w) w
theorem run_eqP (x y : Operand) (t2 : TypeId) (ho : o.op = .binOp .eql 26 x y t2) (n m : Pa) (hx : A.eval x = .agg (paA n)) (hy : A.eval y = .agg (paA m)) (hn : n.ok) (hm : m.ok) (p : Bool) (hp : decide (n = m) = p) :
    (execOp A.eval o).run Try.prog w = .ok (.value (.bool p)) w := by
  subst hp
  exact run_cmpA .eql 26 x y t2 ho _ _ hx hy (by kernel_rfl) _ (by rw [run_eql_struct, eqF31 9997 n m hn hm w]; rfl)
theorem run_neP (x y : Operand) (t2 : TypeId) (ho : o.op = .binOp .neq 26 x y t2) (n m : Pa) (hx : A.eval x = .agg (paA n)) (hy : A.eval y = .agg (paA m)) (hn : n.ok) (hm : m.ok) (p : Bool) (hp : decide (n = m) = !p) :
    (execOp A.eval o).run Try.prog w = .ok (.value (.bool p)) w := by
  have : p = !decide (n = m) := by rw [hp]; simp
  subst this
  exact run_cmpA .neq 26 x y t2 ho _ _ hx hy (by kernel_rfl) _ (by rw [run_neq_struct, eqF31 9997 n m hn hm w]; rfl)
theorem run_neE (x y : Operand) (t2 : TypeId) (ho : o.op = .binOp .neq 52 x y t2) (n m : En) (hx : A.eval x = .agg (enA n)) (hy : A.eval y = .agg (enA m)) (hn : n.ok) (hm : m.ok) (p : Bool) (hp : decide (n = m) = !p) :
    (execOp A.eval o).run Try.prog w = .ok (.value (.bool p)) w := by
  have : p = !decide (n = m) := by rw [hp]; simp
  subst this
  exact run_cmpA .neq 52 x y t2 ho _ _ hx hy (by kernel_rfl) _ (by rw [run_neq_struct, eqF33 9996 n m hn hm w]; rfl)
end
end Go.Proofs.Ytmpnepbmpmkmkaa
