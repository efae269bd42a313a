/- The chapter's example (fixed); a nil disk. -/
import Derived.Test.YtaejjmoocnpdaaaD5
namespace Go.Proofs.Ytaejjmoocnpdaaa
open Go.RowKit

def zrowE (n : Nat) : PostE := PostE.ex (fun v w => ∃ g, v = .slice (some ⟨g, 0, none⟩) n n ∧ w.heap[g]? = some (.cells (bv (zs n)) 5 (0, 0))) (fun _ _ _ G ⟨g, h, k⟩ => ⟨g, h, G.has k⟩)
theorem fill_zrow (n : Nat) (v : Value) : (zrowE n).fill v = v := rfl
theorem run_mkb {o : Oper} {A : Act} (x y : Operand) (ho : o.op = .makeSlice 22 x y) (n : Nat) (hx : A.eval x = .int .i64 (n : Int)) (hy : A.eval y = .int .i64 (n : Int)) (hn : n ≤ 1000) (w : World) :
    ∃ w', (execOp A.eval o).run Try.prog w = .ok (.value (.slice (some ⟨w.heap.size, 0, none⟩) n n)) w' ∧ Gro w w' ∧ w'.heap[w.heap.size]? = some (.cells (bv (zs n)) 5 (0, 0)) := by
  obtain ⟨i, hi, hz, hsz, hby⟩ := bT.info
  obtain ⟨w', hrun, h1, h2⟩ := run_make_full (P := Try.prog) w w.heap.size 22 5 i (.int .u8 0) 1 bT.und hi hz hsz .i64 .i64 n (by rw [hby]; omega) (by simp only [maxLen]; omega) (Nat.le_refl _)
  refine ⟨w', ?_, ⟨h2.os, h2.tape, h2.output, h2.size, fun k hk => h2.block k hk (by simp)⟩, ?_⟩
  · unfold execOp
    simp only [ho, hx, hy, Sem.run_bind, hrun, Result.andThen_ok, Sem.run_pure]
  · rcases h1.2 with ⟨h3, _⟩ | ⟨g, c, cur, h3, _, h4, _, _, h5, h6⟩
    · cases h3
    · injection h3 with e1 e2 e3
      injection e1 with e1
      injection e1 with e1
      subst e1 e3
      have : cur = bv (zs n) := by
        apply Array.toList_inj.1
        have e7 : (Value.int .u8 0).cells = #[.int .u8 0] := rfl
        rw [e7, made_bv, Nat.mul_one, List.take_of_length_le (by simp; omega)] at h6
        exact h6
      rw [← this]
      exact h4
theorem mkbE {ops : Array Oper} {o : Oper} {A : Act} {w : World} (hw : Region.wanted o (yielded ops A.tmps) = true) (x y : Operand) (ho : o.op = .makeSlice 22 x y) (n : Nat) (hx : A.eval x = .int .i64 (n : Int)) (hy : A.eval y = .int .i64 (n : Int)) (hn : n ≤ 1000) : OpE Try.prog ops (zrowE n) o A w := by
  obtain ⟨w', h1, h2, h3⟩ := run_mkb x y ho n hx hy hn w
  exact opE_new (zrowE n) hw h1 h2 ⟨_, rfl, h3⟩
def LF : List Nat := wr (zs (2 * 64)) (0 * 64) (padS [7])
theorem secF : secL LF 1 = zs 64 := by decide
theorem nc_7 {w : World} {g : Nat} (hg : w.heap[g]? = some (.cells #[.int .u8 7] 5 (0, 0))) : NC w .u8 (some ⟨g, 0, none⟩) 1 [7] :=
  nc_blk (L := [7]) (off := 0) (n := 1) (cap := 1) hg (by decide) (by decide) (by decide)
theorem nc_all {w : World} {g : Nat} {L : List Nat} {t : TypeId} (hg : w.heap[g]? = some (.cells (bv L) t (0, 0))) (hL : ∀ x ∈ L, x < 256) : NC w .u8 (some ⟨g, 0, none⟩) L.length L := by
  have h := nc_blk (off := 0) (n := L.length) (cap := L.length) hg (by omega) (Nat.le_refl _) hL
  rwa [List.drop_zero, List.take_length] at h
theorem nc_z {w : World} {g : Nat} {t : TypeId} (hg : w.heap[g]? = some (.cells (bv (zs 64)) t (0, 0))) : NC w .u8 (some ⟨g, 0, none⟩) 64 (zs 64) := nc_all hg (zs_byte 64)
theorem nc_F {w : World} {g : Nat} (hg : w.heap[g]? = some (.cells (bv (secL LF 1)) 5 (0, 0))) : NC w .u8 (some ⟨g, 0, none⟩) 64 (zs 64) := by
  rw [secF] at hg
  exact nc_z hg
section
variable {P : Program} {ops : Array Oper} {rest : List Oper} {o : Oper} {T : List Value} {ds : List Deferred} {w : World} {Q : Exit → Act → World → Prop}
/-- A guarded call that returns something. -/
theorem s_gcallxY {gi d : Nat} {b : Bool} (dst : Nat) (hd : o.dst = some dst) (hg : o.guard = some (gi, b)) (y : ∀ T, yielded ops T gi = yv T d) (hv : (yv T.toArray d == some b) = true) (c : Call) (f : FuncId) (hen : ∀ args w, (callFunc f args).run P w = .ok (.enter f args) w) (ho : o.op = .call c) (hc : c.callee = .value (.func f)) (xs : List Operand) (hxs : c.args = xs.toArray) (vs : List Value) (hvs : xs.map (Act.eval ⟨T.toArray, ds⟩) = vs)
    {R : Ending → World → Prop} (H : Calls P f vs.toArray w R) (hR : ∀ e w', R e w' → ∃ v, e = .returned v)
    (h : ∀ v w', R (.returned v) w' → wpList P ops Q rest ⟨(T.set dst v).toArray, ds⟩ w') : wpList P ops Q (o :: rest) ⟨T.toArray, ds⟩ w :=
  wpList_step fun K hK => by
    rw [if_pos (wanted_yv hg y hv)]
    unfold Oper.wp
    rw [run_call c f hen ho hc, hxs, List.map_toArray, hvs, Oper.upon_enter]
    refine H.mono fun e w' hr => ?_
    obtain ⟨v, rfl⟩ := hR _ _ hr
    have := h v w' hr
    rw [← put_list, ← hd] at this
    exact hK _ _ this
end
end Go.Proofs.Ytaejjmoocnpdaaa
