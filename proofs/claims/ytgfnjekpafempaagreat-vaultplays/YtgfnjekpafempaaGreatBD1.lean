import Derived.Test.YtgfnjekpafempaaGreatBB2
import Derived.Test.YtgfnjekpafempaaGreatBX1
namespace Go.Proofs.YtgfnjekpafempaaGreat
open Go.RowKit
theorem s_enter {P : Program} {f : FuncId} {fn : Func} {c : Code} {w : World} {R : Ending → World → Prop} {n : Nat} (hf : P.funcs[f]? = some fn) (hb : fn.body = some c) (hn : fn.ntmps = n) (xs T : List Value) (hT : xs ++ List.replicate (n - xs.length) undef = T)
    (h : c.wp P (bodyPost P fn R) ⟨T.toArray, []⟩ w) : Calls P f xs.toArray w R := by
  refine calls_of_wp hf hb ?_
  subst hT
  subst hn
  have : (xs.toArray ++ Array.replicate (fn.ntmps - xs.toArray.size) undef) = (xs ++ List.replicate (fn.ntmps - xs.length) undef).toArray := by
    apply Array.toList_inj.1
    simp
  rw [this]
  exact h
theorem eN {P : Program} {f : FuncId} {fn : Func} {c : Code} {w : World} {R : Ending → World → Prop} {n : Nat} {T : List Value} (hf : P.funcs[f]? = some fn) (hb : fn.body = some c) (hn : fn.ntmps = n) (xs : List Value) (h : c.wp P (bodyPost P fn R) ⟨T.toArray, []⟩ w) (e : xs ++ List.replicate (n - xs.length) undef = T := by simp only [List.length_cons, List.length_nil, List.cons_append, List.nil_append, Nat.reduceAdd, Nat.reduceSub, List.reduceReplicate]; exact rfl) : Calls P f xs.toArray w R := s_enter hf hb hn xs T e h
def c47 (x0 : Sl) (x1 : Int) (x2 : Int) : Array Value := #[.slice x0.ao x0.n x0.cap, .int .i64 x1, .int .i64 x2]
def c92 (x0 : Sl) (x1 : Int) (x2 : Int) : Array Value := #[.slice x0.ao x0.n x0.cap, .int .i64 x1, .int .i64 x2]
theorem si3 : (Tryz.prog.info? 3).map (·.size) = some 1 := by kernel_rfl
theorem na3 (w : World) : (isAgg 3).run Tryz.prog w = .ok false w := by kernel_rfl
theorem si5 : (Tryz.prog.info? 5).map (·.size) = some 1 := by kernel_rfl
theorem na27 (w : World) : (isAgg 27).run Tryz.prog w = .ok false w := by kernel_rfl
theorem na90 (w : World) : (isAgg 90).run Tryz.prog w = .ok false w := by kernel_rfl
def bv (l : List Nat) : Array Value := (l.map fun r : Nat => Value.int .u8 (r : Int)).toArray
theorem zE (l : List Nat) : (bv l).size = l.length := by simp [bv]
theorem bv_one (l : List Nat) : (bv l).all (·.oneCell') = true := by
  rw [Array.all_eq_true_iff_forall_mem]
  intro x hx
  simp only [bv, List.mem_toArray, List.mem_map] at hx
  obtain ⟨r, _, rfl⟩ := hx
  rfl
theorem Vv (l : List Nat) (j : Nat) (h : j < l.length) : (bv l)[j]? = some (.int .u8 (l.getD j 0 : Int)) := by
  simp [bv, List.getD_eq_getElem?_getD, List.getElem?_eq_getElem h]
def wr (L : List Nat) (off : Nat) (l : List Nat) : List Nat := L.take off ++ l ++ L.drop (off + l.length)
theorem yN {L l : List Nat} {off : Nat} (h : off + l.length ≤ L.length) : (wr L off l).length = L.length := by
  simp only [wr, List.length_append, List.length_take, List.length_drop]
  omega
theorem QC {L l : List Nat} {off : Nat} (h : ∀ x ∈ L, x < 256) (h' : ∀ x ∈ l, x < 256) : ∀ x ∈ wr L off l, x < 256 := fun x hx => by
  simp only [wr, List.mem_append] at hx
  rcases hx with (hx | hx) | hx
  · exact h x (List.mem_of_mem_take hx)
  · exact h' x hx
  · exact h x (List.mem_of_mem_drop hx)
theorem Yq (L l : List Nat) (off : Nat) : splice (bv L) off (bv l) = bv (wr L off l) := by
  simp [splice, bv, wr, List.map_take, List.map_drop]
theorem Qw (L : List Nat) (off n : Nat) : (bv L).extract off (off + n) = bv ((L.drop off).take n) := by
  apply Array.toList_inj.1
  simp [bv, List.map_take, List.map_drop]
theorem Kc (n : Nat) : (madeCells #[Value.int .u8 0] n).toList = (bv (List.replicate n 0)).toList := by
  rw [toList_madeCells_one]
  simp [bv]
def z64 : Array Value := bv (List.replicate 64 0)
theorem rep_get (n i : Nat) (h : i < n) : (bv (List.replicate n 0))[i]? = some (.int .u8 0) := by
  rw [Vv _ _ (by simpa using h)]
  simp [List.getD_eq_getElem?_getD, h]
theorem z64_at (i : Nat) (h : i < 64) : z64[i]! = .int .u8 0 := by
  have : z64[i]? = some (.int .u8 0) := rep_get 64 i h
  simp [Array.getElem!_eq_getD, Array.getD_eq_getD_getElem?, this]
theorem jdu (n : Nat) : (madeCells z64 n).toList = (bv (List.replicate n 0)).toList := by
  apply List.ext_getElem?
  intro i
  simp only [madeCells, Array.toList_map, Array.toList_range, List.getElem?_map]
  have e : z64.size = 64 := rfl
  by_cases hi : i < n
  · rw [List.getElem?_range hi, Option.map_some, e, z64_at _ (Nat.mod_lt _ (by decide))]
    simp [bv, hi]
  · rw [List.getElem?_eq_none (by simpa using hi), List.getElem?_eq_none (by simp [bv]; omega)]
    rfl
/-! ### Worlds that only grow, but for some blocks -/
structure GroS (S : List Nat) (w w' : World) : Prop where
  os : w'.os = w.os
  tape : w'.tape = w.tape
  output : w'.output = w.output
  size : w.heap.size ≤ w'.heap.size
  old : ∀ k, k < w.heap.size → k ∉ S → w'.heap[k]? = w.heap[k]?
theorem GroS.refl (S : List Nat) (w : World) : GroS S w w := ⟨rfl, rfl, rfl, Nat.le_refl _, fun _ _ _ => rfl⟩
theorem GroS.trans {S : List Nat} {a b c : World} (h : GroS S a b) (k : GroS S b c) : GroS S a c :=
  ⟨k.os.trans h.os, k.tape.trans h.tape, k.output.trans h.output, Nat.le_trans h.size k.size, fun i hi hn => (k.old i (Nat.lt_of_lt_of_le hi h.size) hn).trans (h.old i hi hn)⟩
theorem GroS.of {S : List Nat} {a b : World} (h : Gro a b) : GroS S a b := ⟨h.os, h.tape, h.output, h.size, fun k hk _ => h.block k hk⟩
theorem GroS.tg {S : List Nat} {a b c : World} (h : GroS S a b) (k : Gro b c) : GroS S a c := h.trans (.of k)
theorem GroS.drew {S : List Nat} {a b : World} (h : GroS S a b) : GroS S a b.drew := h.tg (Gro.refl b).drew
theorem GroS.st {S : List Nat} {g : Nat} {a b c : World} {x : Obj} (h : GroS S a b) (T : Stored b c g x) (hg : a.heap.size ≤ g ∨ g ∈ S) : GroS S a c :=
  ⟨T.os.trans h.os, T.tape.trans h.tape, T.output.trans h.output, Nat.le_trans h.size (Nat.le_of_eq T.size.symm), fun i hi hn => (T.old i (fun e => by
    rcases hg with hg | hg
    · omega
    · exact hn (e ▸ hg))).trans (h.old i hi hn)⟩
theorem GroS.has {S : List Nat} {k : Nat} {a b : World} {x : Obj} (h : GroS S a b) (hk : a.heap[k]? = some x) (hn : k ∉ S) : b.heap[k]? = some x := by
  rw [h.old k (ji hk) hn]; exact hk
theorem GroS.mono {S T : List Nat} {a b : World} (h : GroS S a b) (hs : ∀ x ∈ S, x ∈ T) : GroS T a b := ⟨h.os, h.tape, h.output, h.size, fun k hk hn => h.old k hk fun e => hn (hs k e)⟩
theorem GroS.gro {S : List Nat} {w a b : World} (h : GroS S a b) (G : Gro w a) (hs : ∀ x ∈ S, w.heap.size ≤ x) : Gro w b :=
  ⟨h.os.trans G.os, h.tape.trans G.tape, h.output.trans G.output, Nat.le_trans G.size h.size, fun k hk => (h.old k (Nat.lt_of_lt_of_le hk G.size) (fun e => by have := hs k e; omega)).trans (G.block k hk)⟩
theorem GroS.gros {S T : List Nat} {w a b : World} (h : GroS S a b) (G : GroS T w a) (hs : ∀ x ∈ S, x ∈ T ∨ w.heap.size ≤ x) : GroS T w b :=
  ⟨h.os.trans G.os, h.tape.trans G.tape, h.output.trans G.output, Nat.le_trans G.size h.size, fun k hk hn => (h.old k (Nat.lt_of_lt_of_le hk G.size) (fun e => by
    rcases hs k e with h | h
    · exact hn h
    · omega)).trans (G.old k hk hn)⟩
theorem GroS.nc {S : List Nat} {w w' : World} {k : IntKind} {ao : Option Addr} {cap : Nat} {l : List Nat} (G : GroS S w w') (h : NC w k ao cap l) (hne : ∀ ad, ao = some ad → 0 < l.length → ad.block ∉ S) : NC w' k ao cap l :=
  ⟨h.fit, h.bare, fun ad ha j hj => by
    have h1 := h.cell ad ha j hj
    have hb : (ad.add j).block = ad.block := zY ad j
    exact (World.cell?_of_block (G.old _ (World.block_lt_of_cell? w _ h1) (by rw [hb]; exact hne ad ha (by omega)))).trans h1, h.wf⟩
structure BS (S : List Nat) (w : World) (so : Option Addr) (sc : Nat) (l : List Nat) : Prop where
  nc : NC w .u8 so sc l
  ne : ∀ ad, so = some ad → 0 < l.length → ad.block ∉ S
theorem BS.gros {S : List Nat} {w w' : World} {so : Option Addr} {sc : Nat} {l : List Nat} (h : BS S w so sc l) (G : GroS S w w') : BS S w' so sc l := ⟨G.nc h.nc h.ne, h.ne⟩
theorem BS.gro {S : List Nat} {w w' : World} {so : Option Addr} {sc : Nat} {l : List Nat} (h : BS S w so sc l) (G : Gro w w') : BS S w' so sc l := ⟨h.nc.gro G, h.ne⟩
theorem BS.st {S : List Nat} {w w' : World} {so : Option Addr} {sc : Nat} {l : List Nat} {g : Nat} {x : Obj} (h : BS S w so sc l) (T : Stored w w' g x) (hg : ∀ ad, so = some ad → 0 < l.length → ad.block ≠ g) : BS S w' so sc l :=
  ⟨GroS.nc (S := [g]) ((GroS.refl [g] w).st T (.inr (by simp))) h.nc (fun ad ha h0 => by simpa using hg ad ha h0), h.ne⟩
theorem ZV {w : World} {g off n cap : Nat} {L : List Nat} {t : TypeId} (hg : w.heap[g]? = some (.cells (bv L) t (0, 0))) (hn : off + n ≤ L.length) (hc : n ≤ cap) (hL : ∀ x ∈ L, x < 256) : NC w .u8 (some ⟨g, off, none⟩) cap ((L.drop off).take n) := by
  have hl : ((L.drop off).take n).length = n := by rw [List.length_take, List.length_drop]; omega
  refine ⟨by omega, fun h => by (cases h), fun ad ha j hj => ?_, fun x hx => ?_⟩
  · cases ha
    rw [zQ, cell_of_row w g _ _ t _ hg, Vv _ _ (by omega)]
    have h1 : j < n := by omega
    simp [List.getD_eq_getElem?_getD, h1]
  · have := hL x (List.mem_of_mem_drop (List.mem_of_mem_take hx))
    rw [yY]
    omega
def zs (n : Nat) : List Nat := List.replicate n 0
theorem zo (n : Nat) : (zs n).length = n := by simp [zs]
theorem Zm (n : Nat) : ∀ x ∈ zs n, x < 256 := fun x hx => by
  have := List.eq_of_mem_replicate hx
  omega
section
variable {P : Program} {ops : Array Oper} {rest : List Oper} {o : Oper} {T : List Value} {ds : List Deferred} {w : World} {Q : Exit → Act → World → Prop}
theorem ZI {t e : TypeId} {b : Nat} (TT : NumT P t e .u8 b) (dst : Nat) (hd : o.dst = some dst) (hgd : o.guard = none) (x y : Operand) (ho : o.op = .makeSlice t x y) (n : Nat) (hx : (⟨T.toArray, ds⟩ : Act).eval x = .int .i64 (n : Int)) (hy : (⟨T.toArray, ds⟩ : Act).eval y = .int .i64 (n : Int)) (hb : b * n ≤ 281474976710656) (hm : n ≤ maxLen)
    (h : ∀ w' g, Gro w w' → w.heap.size = g → w'.heap[g]? = some (.cells (bv (zs n)) e (0, 0)) → wpList P ops Q rest ⟨(T.set dst (.slice (some ⟨g, 0, none⟩) n n)).toArray, ds⟩ w') : wpList P ops Q (o :: rest) ⟨T.toArray, ds⟩ w := by
  obtain ⟨i, hi, hz, hsz, hby⟩ := TT.info
  refine wpList_make_full w hgd x y t ho w.heap.size e i (.int .u8 0) 1 TT.und hi hz hsz .i64 .i64 _ _ n hx hy rfl rfl (by rw [hby]; exact hb) hm (Nat.le_refl _) ?_
  intro w' h1 h2
  rw [hd, jX]
  rcases h1.2 with ⟨h3, _⟩ | ⟨g, c, cur, h3, _, h4, _, _, h5, h6⟩
  · cases h3
  · injection h3 with e1 e2 e3
    injection e1 with e1
    injection e1 with e1
    subst e1 e3
    refine h w' _ ⟨h2.os, h2.tape, h2.output, h2.size, fun k hk => h2.block k hk (by simp)⟩ rfl ?_
    have : cur = bv (List.replicate n 0) := by
      apply Array.toList_inj.1
      have e7 : (Value.int .u8 0).cells = #[.int .u8 0] := rfl
      rw [e7, Kc, Nat.mul_one, List.take_of_length_le (by simp; omega)] at h6
      exact h6
    unfold zs
    rw [← this]
    exact h4
theorem jbu {t e : TypeId} {b : Nat} (TT : RowT P t e 64 b (.agg z64)) (dst : Nat) (hd : o.dst = some dst) (hgd : o.guard = none) (x y : Operand) (ho : o.op = .makeSlice t x y) (n : Nat) (hx : (⟨T.toArray, ds⟩ : Act).eval x = .int .i64 (n : Int)) (hy : (⟨T.toArray, ds⟩ : Act).eval y = .int .i64 (n : Int)) (hb : b * n ≤ 281474976710656) (hm : n ≤ maxLen)
    (h : ∀ w' g, Gro w w' → w.heap.size = g → w'.heap[g]? = some (.cells (bv (zs (n * 64))) e (0, 0)) → wpList P ops Q rest ⟨(T.set dst (.slice (some ⟨g, 0, none⟩) n n)).toArray, ds⟩ w') : wpList P ops Q (o :: rest) ⟨T.toArray, ds⟩ w := by
  obtain ⟨i, hi, hz, hsz, hby⟩ := TT.info
  refine wpList_make_full w hgd x y t ho w.heap.size e i (.agg z64) 64 TT.und hi hz hsz .i64 .i64 _ _ n hx hy rfl rfl (by rw [hby]; exact hb) hm (Nat.le_refl _) ?_
  intro w' h1 h2
  rw [hd, jX]
  rcases h1.2 with ⟨h3, _⟩ | ⟨g, c, cur, h3, _, h4, _, _, h5, h6⟩
  · cases h3
  · injection h3 with e1 e2 e3
    injection e1 with e1
    injection e1 with e1
    subst e1 e3
    refine h w' _ ⟨h2.os, h2.tape, h2.output, h2.size, fun k hk => h2.block k hk (by simp)⟩ rfl ?_
    have : cur = bv (List.replicate (n * 64) 0) := by
      apply Array.toList_inj.1
      have e7 : (Value.agg z64).cells = z64 := rfl
      rw [e7, jdu, List.take_of_length_le (by simp; omega)] at h6
      exact h6
    unfold zs
    rw [← this]
    exact h4
theorem uY {t e : TypeId} {b : Nat} (TT : NumT P t e .u8 b) (dst : Nat) (hd : o.dst = some dst) (hgd : o.guard = none) (x y : Operand) (ho : o.op = .call { callee := .builtin .copy, args := #[x, y], argTypes := #[t, t] })
    (g off n dCap : Nat) (hx : (⟨T.toArray, ds⟩ : Act).eval x = .slice (some ⟨g, off, none⟩) n dCap) {L : List Nat} {e' : TypeId} (hg : w.heap[g]? = some (.cells (bv L) e' (0, 0))) {ao' : Option Addr} {m cap' : Nat} {l l' : List Nat} (hy : (⟨T.toArray, ds⟩ : Act).eval y = .slice ao' m cap') (hm : l.length = m) (hsrc : NC w .u8 ao' cap' l) (hl : l.take n = l') (hle : off + n ≤ L.length)
    (h : ∀ w', Stored w w' g (.cells (bv (wr L off l')) e' (0, 0)) → wpList P ops Q rest ⟨(T.set dst (.int .i64 (l'.length : Int))).toArray, ds⟩ w') : wpList P ops Q (o :: rest) ⟨T.toArray, ds⟩ w := by
  have hl' : l'.length = Nat.min m n := by rw [← hl, List.length_take, hm]; exact Nat.min_comm _ _
  have hmn : Nat.min m n ≤ n := Nat.min_le_right _ _
  by_cases h0 : Nat.min m n = 0
  · refine wpList_copy_nothing hgd x y t t ho e TT.und TT.size1 _ _ _ _ _ _ hx hy h0 ?_
    rw [hd, jX]
    have e1 : l' = [] := List.eq_nil_of_length_eq_zero (by omega)
    have := h w ⟨rfl, rfl, rfl, rfl, by rw [e1]; simpa [wr] using hg, fun _ _ => rfl⟩
    rw [e1] at this
    exact this
  · obtain ⟨ad, rfl, _⟩ := hsrc.at (j := 0) (by
      have : Nat.min m n ≤ m := Nat.min_le_left _ _
      omega)
    refine wpList_copy_own hgd x y t t ho e TT.und TT.size1 g off n dCap ad m cap' hx hy (bv L) e' hg (l'.map fun r : Nat => Value.int .u8 (r : Int)) (by simp [hl']) (fun j v hv => ?_) (by simp [bv]; omega) (fun v hv => ?_) ?_
    · rw [List.getElem?_map] at hv
      by_cases hj : j < l'.length
      · rw [List.getElem?_eq_getElem hj] at hv
        have hjm : j < l.length := by
          have : Nat.min m n ≤ m := Nat.min_le_left _ _
          omega
        have hc := hsrc.cell ad rfl j hjm
        rw [List.getD_eq_getElem?_getD] at hc
        have : l[j]? = l'[j]? := by rw [← hl, List.getElem?_take, if_pos (by omega)]
        rw [this, List.getElem?_eq_getElem hj] at hc
        rw [hc]
        simpa using hv
      · rw [List.getElem?_eq_none (by omega)] at hv
        cases hv
    · obtain ⟨r, _, rfl⟩ := List.mem_map.1 hv; rfl
    · rw [hd]
      have e1 : ((bv L).toList.take off ++ ((l'.map fun r : Nat => Value.int .u8 (r : Int)) ++ (bv L).toList.drop (off + (l'.map fun r : Nat => Value.int .u8 (r : Int)).length))).toArray = bv (wr L off l') := by
        simp [bv, wr, List.map_take, List.map_drop]
      rw [e1]
      have := h _ (stored_setRow _ hg)
      simp only [goInt, List.length_map]
      rw [jX]
      exact this
end
section
variable {P : Program} {o : Oper} {A : Act}
theorem JM (x y : Operand) (tys : Array TypeId) (ho : o.op = .call { callee := .builtin .max, args := #[x, y], argTypes := tys }) (a b c : Int) (hx : A.eval x = .int .i64 a) (hy : A.eval y = .int .i64 b) (hc : max a b = c) (w : World) : (execOp A.eval o).run P w = .ok (.value (.int .i64 c)) w := by
  subst hc
  unfold execOp
  simp only [ho, resolve, invoke, builtin, Sem.run_bind, Sem.run_pure, Result.andThen_ok, List.map_toArray, List.map_cons, List.map_nil, hx, hy]
  simp [Builtin.max_, Builtin.max2, go_sem]
  split <;> omega
theorem KP (x y : Operand) (tys : Array TypeId) (ho : o.op = .call { callee := .builtin .min, args := #[x, y], argTypes := tys }) (a b c : Int) (hx : A.eval x = .int .i64 a) (hy : A.eval y = .int .i64 b) (hc : min a b = c) (w : World) : (execOp A.eval o).run P w = .ok (.value (.int .i64 c)) w := by
  subst hc
  unfold execOp
  simp only [ho, resolve, invoke, builtin, Sem.run_bind, Sem.run_pure, Result.andThen_ok, List.map_toArray, List.map_cons, List.map_nil, hx, hy]
  simp [Builtin.min_, Builtin.min2, go_sem]
  split <;> omega
end
end Go.Proofs.YtgfnjekpafempaaGreat
