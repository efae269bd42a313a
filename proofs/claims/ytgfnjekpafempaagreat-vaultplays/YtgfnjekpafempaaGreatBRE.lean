import Derived.Test.YtgfnjekpafempaaGreatBRD
import Derived.Test.YtgfnjekpafempaaGreatBAb
namespace Go.Proofs.YtgfnjekpafempaaGreat
set_option maxRecDepth 100000
open Go.RowKit
theorem run_mkB {o : Oper} {A : Act} (x y : Operand) (ho : o.op = .makeSlice 27 x y) (n : Nat) (hx : A.eval x = .int .i64 (n : Int)) (hy : A.eval y = .int .i64 (n : Int)) (hn : n ≤ 1000000) (w : World) :
    ∃ w', (execOp A.eval o).run Tryz.prog w = .ok (.value (.slice (some ⟨w.heap.size, 0, none⟩) n n)) w' ∧ Gro w w' ∧ w'.heap[w.heap.size]? = some (.cells (bv (zs n)) 5 (0, 0)) := by
  obtain ⟨i, hi, hz, hsz, hby⟩ := bT.info
  obtain ⟨w', hrun, h1, h2⟩ := run_make_full (P := Tryz.prog) w w.heap.size 27 5 i (.int .u8 0) 1 bT.und hi hz hsz .i64 .i64 n (by rw [hby]; omega) (by simp only [maxLen]; omega) (Nat.le_refl _)
  refine ⟨w', ?_, ⟨h2.os, h2.tape, h2.output, h2.size, fun k hk => h2.block k hk (by simp)⟩, ?_⟩
  · unfold execOp
    simp only [ho, hx, hy, Sem.run_bind, hrun, Result.andThen_ok, Sem.run_pure]
  · rcases h1.2 with ⟨h3, _⟩ | ⟨g, c, cur, h3, _, h4, _, _, h5, h6⟩
    · cases h3
    · injection h3 with e1 e2 e3
      injection e1 with e1
      injection e1 with e1
      subst e1 e3
      have : cur = bv (zs n) := by
        apply Array.toList_inj.1
        have e7 : (Value.int .u8 0).cells = #[.int .u8 0] := rfl
        rw [e7, Kc, Nat.mul_one, List.take_of_length_le (by simp; omega)] at h6
        exact h6
      rw [← this]
      exact h4
theorem jcb {P : Program} {o : Oper} {A : Act} (t : TypeId) (x y : Operand) (t2 : TypeId) (ho : o.op = .binOp .mul t x y t2) (a b r : Int) (hx : A.eval x = .int .i64 a) (hy : A.eval y = .int .i64 b) (hr : a * b = r) (h1 : -9223372036854775808 ≤ r) (h2 : r < 9223372036854775808) (w : World) : (execOp A.eval o).run P w = .ok (.value (.int .i64 r)) w := by
  refine jF .mul t x y t2 ho _ _ _ hx hy (by simp [eqGuard]) ?_
  have := ya r h1 h2
  simp [go_sem, hr, this]
section
variable {ops : Array Oper} {rest : List Oper} {o : Oper} {T : List Value} {ds : List Deferred} {w : World} {Q : Exit → Act → World → Prop}
theorem s_mkB (dst : Nat) (hd : o.dst = some dst) (hgd : o.guard = none) (x y : Operand) (ho : o.op = .makeSlice 27 x y) (n : Nat) (hx : (⟨T.toArray, ds⟩ : Act).eval x = .int .i64 (n : Int)) (hy : (⟨T.toArray, ds⟩ : Act).eval y = .int .i64 (n : Int)) (hn : n ≤ 1000000)
    (h : ∀ w' g, Gro w w' → w.heap.size = g → OB w' 5 .u8 g (some ⟨g, 0, none⟩) n (zs n) → wpList Tryz.prog ops Q rest ⟨(T.set dst (.slice (some ⟨g, 0, none⟩) n n)).toArray, ds⟩ w') : wpList Tryz.prog ops Q (o :: rest) ⟨T.toArray, ds⟩ w := by
  obtain ⟨w', h1, h2, h3⟩ := run_mkB x y ho n hx hy hn w
  refine wpList_plain hgd fun K hK' => ?_
  unfold Oper.wp
  rw [h1]
  refine hK' _ _ ?_
  rw [hd, jX]
  exact h w' _ h2 rfl (OB.made h3 (Nat.le_refl _) (by rw [zo]; exact Nat.le_refl _) (by simp only [maxLen]; omega) (by rw [zE, zo]) (by rw [List.take_of_length_le (by simp [bv])]; simp [bv]) (fun x hx => by have := Zm n x hx; rw [yY]; omega))
end
set_option maxHeartbeats 4000000 in
theorem jdi (w : World) (ao : Option Addr) (cap : Nat) (C : List Nat) (HN : NC w .u8 ao cap C) (m : Nat) (hC : C.length = m * 64) (hm : m ≤ 4096) : Calls Tryz.prog 4 #[.slice ao C.length cap] w (fun e w' => ∃ p sg rp ro rc, e = .returned (.tuple #[vP p 0, vP rp 0]) ∧ Gro w w' ∧ w.heap.size ≤ p ∧ w.heap.size ≤ sg ∧ w.heap.size ≤ rp ∧ DK w' p sg m C (-1) 0 ∧ QK w' rp w.heap.size ro rc m C (-1) 0) := by
  refine eN Tryz.func4 rfl Tryz.ntmps4 [.slice ao C.length cap] ?_
  have GG := Gro.refl w
  refine qE (qG (mv (.pointer none) rfl (mv (.pointer none) rfl (nq ?_))))
  refine qL (qE (qG (mv (.slice ao C.length cap) rfl (nq ?_))))
  have hz0 := GG.size
  refine jq 8 rfl rfl _ 22 Tryz.call22 rfl rfl _ rfl [.slice ao C.length cap] rfl (of_ok _ ao cap C HN m hC hm) (by rintro _ _ ⟨_, _, he, _, _, _, _⟩; exact ⟨_, he⟩) ?_
  rintro v w1 ⟨p, sg, he, G, bp, bsg, HD⟩
  cases he
  replace HN := HN.gro G
  replace GG := GG.trans G
  clear G
  replace bp := Nat.le_trans hz0 bp
  replace bsg := Nat.le_trans hz0 bsg
  refine nq ?_
  refine mv (.tuple #[vP p 0, iK 0]) rfl (mv (vP p 0) rfl (mv (iK 0) rfl (mv (vP p 0) rfl (mv (iK 0) rfl (nq ?_)))))
  refine qL (qE (qG (mv (vP p 0) rfl (nq ?_))))
  refine ye 12 rfl rfl 27 0 _ rfl [] rfl #[] 5 (by kernel_rfl) ?_
  intro w2 gb G1 egb kgb
  refine nq ?_
  refine mv (.slice ao C.length cap) rfl (nq ?_)
  have HO1 : OB _ 5 .u8 gb (some ⟨gb, 0, none⟩) 0 [] := OB.made kgb (Nat.le_refl _) (Nat.le_refl _) (Nat.zero_le _) rfl rfl (fun x hx => by cases hx)
  refine yH bT 14 rfl rfl _ _ rfl rfl HO1 (l' := C) rfl (HN.gro G1) (by simp only [List.length_nil]; omega) (by decide) (Nat.le_of_lt (ji kgb)) ?_
  intro ao4 cap4 w3 HO2 BB
  rw [List.nil_append] at HO2
  simp only [List.nil_append]
  have G := zq G1 BB (Nat.le_of_eq egb)
  have bgb := jh GG egb
  have HO := HO2.mono bgb
  clear HO1 HO2 BB G1 egb kgb
  replace HN := HN.gro G
  replace HD := HD.gro G
  replace GG := GG.trans G
  clear G
  refine nq ?_
  refine sv (.agg (c47 ⟨ao4, C.length, cap4⟩ (-1) 0)) (jK 47 _ rfl [(0, .slice ao4 C.length cap4), (1, iK (-1))] rfl _ (by kernel_rfl)) rfl (nq ?_)
  refine jW 16 rfl rfl 47 _ rfl _ rfl (c47 ⟨ao4, C.length, cap4⟩ (-1) 0) rfl ?_
  intro w4 g1 G eg1 kg1
  have bg1 := jh GG eg1
  replace HN := HN.gro G
  replace HD := HD.gro G
  replace HO := HO.gro G
  replace GG := GG.trans G
  clear G
  refine nq ?_
  refine mv (vP p 0) rfl (mv (vP g1 0) rfl (nq ?_))
  refine qL (qR ?_)
  refine bodyPost_ret (results_tmp2 Tryz.results4 _ _ _) rfl ?_
  refine ⟨p, sg, g1, ao4, cap4, rfl, GG, bp, bsg, bg1, HD, ⟨?_, HO, hC, hm⟩⟩
  rw [← hC]
  exact kg1
end Go.Proofs.YtgfnjekpafempaaGreat
