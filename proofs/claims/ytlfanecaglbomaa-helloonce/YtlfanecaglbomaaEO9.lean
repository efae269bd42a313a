/- What happens to the talk at its other end. -/
import Derived.Test.YtlfanecaglbomaaEO8
namespace Go.Proofs.Ytlfanecaglbomaa
set_option maxRecDepth 100000
set_option maxHeartbeats 4000000
open Go.RowKit
theorem play1k0n (w0 w : World) (G0 : Gro w0 w) (tp : Nat) (q0 : Nat) (q1 : Nat) (id0 : Nat → Nat) (id1 : Nat → Nat) (x0 : ES) (x1 : ES) (n0 : Nat) (n1 : Nat) (a0 : Option Addr) (c0 : Nat) (f0 : List (PF × Fr)) (a1 : Option Addr) (c1 : Nat) (f1 : List (PF × Fr)) (b0 : Option Addr) (e0 : Nat) (s0 : List SE) (b1 : Option Addr) (e1 : Nat) (s1 : List SE) (d0 : Option Addr) (k0 : Nat) (r0 : List SE) (d1 : Option Addr) (k1 : Nat) (r1 : List SE) (H : Tk w0.heap.size w tp q0 q1 id0 id1 x0 x1 n0 n1 a0 c0 f0 a1 c1 f1 b0 e0 s0 b1 e1 s1 d0 k0 r0 d1 k1 r1) (N : Nat) (hI : Inv N n0 x0 f0 s0 r0 n1 x1 f1 s1 r1) (hN : N ≤ 900) (kd sd ix : Int) (ao : Option Addr) (cap : Nat) (l : List Nat) (_HN : NC w0 .u8 ao cap l) (hsd : uN sd % 2 = 1) (hkd : kd = 0) (hno : f1.length = 0) : Calls Try.prog 30 #[pK tp 0, .agg (c85 kd sd ix ⟨ao, l.length, cap⟩)] w fun e w' => e = .returned (.tuple #[]) ∧ Gro w0 w' ∧ TkI w0.heap.size w' tp q0 q1 id0 id1 (N + 1) := by
  refine jq Try.func30 rfl Try.ntmps30 [pK tp 0, .agg (c85 kd sd ix ⟨ao, l.length, cap⟩)] ?_
  intro U h; simp only [List.length_cons, List.length_nil, List.cons_append, List.nil_append, Nat.reduceAdd, Nat.reduceSub, List.reduceReplicate] at h; subst h
  have GG := Gro.refl w
  replace GG := G0
  have ktp := H.box
  have hfli := hI.b.fl
  have hflj := hI.a.fl
  have hbk := hI.b.bd.k
  have hbc := hI.b.bd.c
  have hbn := hI.b.n
  have hls := hI.b.ls
  have hlg := hI.b.lg
  refine wp_seq (wp_region_lit ?_)
  refine jE 3 rfl rfl 85 _ rfl _ rfl (c85 kd sd ix ⟨ao, l.length, cap⟩) rfl ?_
  intro w1 g1 G eg1 kg1
  have bg1 := jh GG eg1
  have dtpg1 := jf ktp eg1
  replace ktp := G.has ktp
  replace H := H.gro G
  replace GG := GG.trans G
  clear G eg1
  refine wpList_nil (ja (wp_seq (wp_region_lit (sv 11 (pK g1 1) (jc 85 _ 1 rfl _ _ rfl _) (sv 12 (iK sd) (je 3 _ rfl g1 1 rfl 85 _ kg1 (na3 _) _ rfl) ?_)))))
  refine nr ?_; intro U h; simp only [z0, z1] at h; subst h
  refine sv 13 (.int .u64 ((uN sd : Nat) : Int)) (conv345 _ rfl sd rfl _) (sv 14 (.int .u64 ((uN sd % 2 : Nat) : Int)) (jH 119 _ _ _ rfl (uN sd) 2 rfl rfl (by decide) _) (sv 15 (iK 1) (conv453 _ rfl 1 (by decide) (by exact congrArg (fun n : Nat => Value.int .u64 (n : Int)) hsd) _) ?_))
  refine nr ?_; intro U h; simp only [z0, z1] at h; subst h
  refine mv 4 (iK 1) (wpList_nil (ja (wp_seq (wp_region_lit (mv 5 (iK (-1)) (wpList_nil (ja (wp_seq (wp_seq (wp_region_lit (mv 16 (pK tp 0) ?_)))))))))))
  refine nr ?_; intro U h; simp only [z0, z1] at h; subst h
  refine mv 17 (iK 1) (sv 18 (pK tp 0) (jl _ rfl _ rfl) (sv 19 (pK tp 2) (jc 83 _ 1 rfl _ _ rfl _) ?_))
  refine nr ?_; intro U h; simp only [z0, z1] at h; subst h
  refine sv 20 (pK tp 3) (jB _ _ rfl tp 2 1 (by decide) rfl rfl _) (sv 21 (.slice a1 f1.length c1) (je 50 _ rfl tp 3 rfl 83 _ ktp (na50 _) _ rfl) (sv 22 (iK ((f1.length : Nat) : Int)) (jG Try.underlying50 _ rfl _ _ _ rfl _) ?_))
  refine nr ?_; intro U h; simp only [z0, z1] at h; subst h
  refine mv 6 (iK ((f1.length : Nat) : Int)) (wpList_nil (ja (wp_seq (wp_region_lit (mv 23 (iK ((f1.length : Nat) : Int)) (sv 24 (vFa) (jD 3 _ _ _ rfl ((f1.length : Nat) : Int) 0 rfl rfl false (decide_eq_false (by omega)) _) ?_))))))
  refine nr ?_; intro U h; simp only [z0, z1] at h; subst h
  refine wpList_nil (ja (wp_cond_false rfl (wp_skip (ja (wp_seq (wp_region_lit (sv 32 (pK g1 0) (jc 85 _ 0 rfl _ _ rfl _) (sv 33 (iK kd) (je 3 _ rfl g1 0 rfl 85 _ kg1 (na3 _) _ rfl) (wpList_nil (ja (wp_block (wp_seq (wp_region_lit (sv 51 (vTr) (jg 3 .i64 _ _ _ rfl Try.underlying3 kd 0 rfl rfl true (decide_eq_true hkd) _) ?_))))))))))))))
  refine nr ?_; intro U h; simp only [z0, z1] at h; subst h
  refine mv 50 (vTr) (wpList_nil (ja (wp_cond_true rfl (wp_region_lit ?_))))
  cases hu : x1.up
  refine mv 52 (pK tp 0) (mv 53 (iK 1) ?_)
  refine nr ?_; intro U h; simp only [z0, z1] at h; subst h
  refine jt 54 rfl rfl _ 31 Try.call31 rfl rfl _ rfl [pK tp 0, iK 1] rfl (rise1d w0 _ GG _ _ _ _ _ _ _ _ _ _ _ _ _ _ _ _ _ _ _ _ _ _ _ _ _ _ _ H hu hflj (by omega)) (fun _ _ ⟨he, _⟩ => ⟨_, he⟩) ?_
  rintro v w2 ⟨he, GG2, a2, c2, f2, H2, hfl2, hmem2⟩
  cases he
  clear GG H
  have GG := GG2
  have H := H2
  clear GG2 H2
  refine wpList_nil (jQ ?_)
  refine jN (results_none Try.results30 _ _ _) rfl ?_
  exact ⟨rfl, GG, _, _, _, _, _, _, _, _, _, _, _, _, _, _, _, _, _, _, _, _, _, _, H, ((hI.swap).rise id1 hu hfl2 hmem2).swap⟩
  refine mv 52 (pK tp 0) (mv 53 (iK 1) ?_)
  refine nr ?_; intro U h; simp only [z0, z1] at h; subst h
  refine jt 54 rfl rfl _ 31 Try.call31 rfl rfl _ rfl [pK tp 0, iK 1] rfl (rise1u w0 _ GG _ _ _ _ _ _ _ _ _ _ _ _ _ _ _ _ _ _ _ _ _ _ _ _ _ _ _ H hu) (fun _ _ ⟨he, _⟩ => ⟨_, he⟩) ?_
  rintro v w2 ⟨he, GG2, H2⟩
  cases he
  clear GG H
  have GG := GG2
  have H := H2
  clear GG2 H2
  refine wpList_nil (jQ ?_)
  refine jN (results_none Try.results30 _ _ _) rfl ?_
  exact ⟨rfl, GG, _, _, _, _, _, _, _, _, _, _, _, _, _, _, _, _, _, _, _, _, _, _, H, hI.mono⟩
theorem play1k0h (w0 w : World) (G0 : Gro w0 w) (tp : Nat) (q0 : Nat) (q1 : Nat) (id0 : Nat → Nat) (id1 : Nat → Nat) (x0 : ES) (x1 : ES) (n0 : Nat) (n1 : Nat) (a0 : Option Addr) (c0 : Nat) (f0 : List (PF × Fr)) (a1 : Option Addr) (c1 : Nat) (f1 : List (PF × Fr)) (b0 : Option Addr) (e0 : Nat) (s0 : List SE) (b1 : Option Addr) (e1 : Nat) (s1 : List SE) (d0 : Option Addr) (k0 : Nat) (r0 : List SE) (d1 : Option Addr) (k1 : Nat) (r1 : List SE) (H : Tk w0.heap.size w tp q0 q1 id0 id1 x0 x1 n0 n1 a0 c0 f0 a1 c1 f1 b0 e0 s0 b1 e1 s1 d0 k0 r0 d1 k1 r1) (N : Nat) (hI : Inv N n0 x0 f0 s0 r0 n1 x1 f1 s1 r1) (hN : N ≤ 900) (kd sd ix : Int) (ao : Option Addr) (cap : Nat) (l : List Nat) (_HN : NC w0 .u8 ao cap l) (hsd : uN sd % 2 = 1) (hkd : kd = 0) (hpos : 0 < f1.length) : Calls Try.prog 30 #[pK tp 0, .agg (c85 kd sd ix ⟨ao, l.length, cap⟩)] w fun e w' => e = .returned (.tuple #[]) ∧ Gro w0 w' ∧ TkI w0.heap.size w' tp q0 q1 id0 id1 (N + 1) := by
  refine jq Try.func30 rfl Try.ntmps30 [pK tp 0, .agg (c85 kd sd ix ⟨ao, l.length, cap⟩)] ?_
  intro U h; simp only [List.length_cons, List.length_nil, List.cons_append, List.nil_append, Nat.reduceAdd, Nat.reduceSub, List.reduceReplicate] at h; subst h
  have GG := Gro.refl w
  replace GG := G0
  have ktp := H.box
  have hfli := hI.b.fl
  have hflj := hI.a.fl
  have hbk := hI.b.bd.k
  have hbc := hI.b.bd.c
  have hbn := hI.b.n
  have hls := hI.b.ls
  have hlg := hI.b.lg
  refine wp_seq (wp_region_lit ?_)
  refine jE 3 rfl rfl 85 _ rfl _ rfl (c85 kd sd ix ⟨ao, l.length, cap⟩) rfl ?_
  intro w1 g1 G eg1 kg1
  have bg1 := jh GG eg1
  have dtpg1 := jf ktp eg1
  replace ktp := G.has ktp
  replace H := H.gro G
  replace GG := GG.trans G
  clear G eg1
  refine wpList_nil (ja (wp_seq (wp_region_lit (sv 11 (pK g1 1) (jc 85 _ 1 rfl _ _ rfl _) (sv 12 (iK sd) (je 3 _ rfl g1 1 rfl 85 _ kg1 (na3 _) _ rfl) ?_)))))
  refine nr ?_; intro U h; simp only [z0, z1] at h; subst h
  refine sv 13 (.int .u64 ((uN sd : Nat) : Int)) (conv345 _ rfl sd rfl _) (sv 14 (.int .u64 ((uN sd % 2 : Nat) : Int)) (jH 119 _ _ _ rfl (uN sd) 2 rfl rfl (by decide) _) (sv 15 (iK 1) (conv453 _ rfl 1 (by decide) (by exact congrArg (fun n : Nat => Value.int .u64 (n : Int)) hsd) _) ?_))
  refine nr ?_; intro U h; simp only [z0, z1] at h; subst h
  refine mv 4 (iK 1) (wpList_nil (ja (wp_seq (wp_region_lit (mv 5 (iK (-1)) (wpList_nil (ja (wp_seq (wp_seq (wp_region_lit (mv 16 (pK tp 0) ?_)))))))))))
  refine nr ?_; intro U h; simp only [z0, z1] at h; subst h
  refine mv 17 (iK 1) (sv 18 (pK tp 0) (jl _ rfl _ rfl) (sv 19 (pK tp 2) (jc 83 _ 1 rfl _ _ rfl _) ?_))
  refine nr ?_; intro U h; simp only [z0, z1] at h; subst h
  refine sv 20 (pK tp 3) (jB _ _ rfl tp 2 1 (by decide) rfl rfl _) (sv 21 (.slice a1 f1.length c1) (je 50 _ rfl tp 3 rfl 83 _ ktp (na50 _) _ rfl) (sv 22 (iK ((f1.length : Nat) : Int)) (jG Try.underlying50 _ rfl _ _ _ rfl _) ?_))
  refine nr ?_; intro U h; simp only [z0, z1] at h; subst h
  refine mv 6 (iK ((f1.length : Nat) : Int)) (wpList_nil (ja (wp_seq (wp_region_lit (mv 23 (iK ((f1.length : Nat) : Int)) (sv 24 (vTr) (jD 3 _ _ _ rfl ((f1.length : Nat) : Int) 0 rfl rfl true (decide_eq_true (by omega)) _) ?_))))))
  refine nr ?_; intro U h; simp only [z0, z1] at h; subst h
  refine wpList_nil (ja (wp_cond_true rfl (wp_region_lit (sv 25 (pK g1 2) (jc 85 _ 2 rfl _ _ rfl _) (sv 26 (iK ix) (je 3 _ rfl g1 2 rfl 85 _ kg1 (na3 _) _ rfl) (sv 27 (.int .u64 ((uN ix : Nat) : Int)) (conv345 _ rfl ix rfl _) ?_))))))
  refine nr ?_; intro U h; simp only [z0, z1] at h; subst h
  refine mv 28 (iK ((f1.length : Nat) : Int)) (sv 29 (.int .u64 ((f1.length : Nat) : Int)) (conv345N _ rfl f1.length (by omega) rfl _) (sv 30 (.int .u64 ((uN ix % f1.length : Nat) : Int)) (jH 119 _ _ _ rfl (uN ix) f1.length rfl rfl (by omega) _) ?_))
  refine nr ?_; intro U h; simp only [z0, z1] at h; subst h
  obtain ⟨m, hm⟩ : ∃ m, uN ix % f1.length = m := ⟨_, rfl⟩
  have hmi : m < f1.length := hm ▸ Nat.mod_lt _ hpos
  refine sv 31 (iK ((m : Nat) : Int)) (conv453 _ rfl m (by omega) (by exact congrArg (fun n : Nat => Value.int .u64 (n : Int)) hm) _) (mv 5 (iK ((m : Nat) : Int)) (wpList_nil (ja (wp_seq (wp_region_lit (sv 32 (pK g1 0) (jc 85 _ 0 rfl _ _ rfl _) ?_))))))
  refine nr ?_; intro U h; simp only [z0, z1] at h; subst h
  refine sv 33 (iK kd) (je 3 _ rfl g1 0 rfl 85 _ kg1 (na3 _) _ rfl) (wpList_nil (ja (wp_block (wp_seq (wp_region_lit (sv 51 (vTr) (jg 3 .i64 _ _ _ rfl Try.underlying3 kd 0 rfl rfl true (decide_eq_true hkd) _) (mv 50 (vTr) ?_)))))))
  refine nr ?_; intro U h; simp only [z0, z1] at h; subst h
  refine wpList_nil (ja (wp_cond_true rfl (wp_region_lit ?_)))
  cases hu : x1.up
  refine mv 52 (pK tp 0) (mv 53 (iK 1) ?_)
  refine jt 54 rfl rfl _ 31 Try.call31 rfl rfl _ rfl [pK tp 0, iK 1] rfl (rise1d w0 _ GG _ _ _ _ _ _ _ _ _ _ _ _ _ _ _ _ _ _ _ _ _ _ _ _ _ _ _ H hu hflj (by omega)) (fun _ _ ⟨he, _⟩ => ⟨_, he⟩) ?_
  rintro v w2 ⟨he, GG2, a2, c2, f2, H2, hfl2, hmem2⟩
  cases he
  clear GG H
  have GG := GG2
  have H := H2
  clear GG2 H2
  refine nr ?_; intro U h; simp only [z0, z1] at h; subst h
  refine wpList_nil (jQ ?_)
  refine jN (results_none Try.results30 _ _ _) rfl ?_
  exact ⟨rfl, GG, _, _, _, _, _, _, _, _, _, _, _, _, _, _, _, _, _, _, _, _, _, _, H, ((hI.swap).rise id1 hu hfl2 hmem2).swap⟩
  refine mv 52 (pK tp 0) (mv 53 (iK 1) ?_)
  refine jt 54 rfl rfl _ 31 Try.call31 rfl rfl _ rfl [pK tp 0, iK 1] rfl (rise1u w0 _ GG _ _ _ _ _ _ _ _ _ _ _ _ _ _ _ _ _ _ _ _ _ _ _ _ _ _ _ H hu) (fun _ _ ⟨he, _⟩ => ⟨_, he⟩) ?_
  rintro v w2 ⟨he, GG2, H2⟩
  cases he
  clear GG H
  have GG := GG2
  have H := H2
  clear GG2 H2
  refine nr ?_; intro U h; simp only [z0, z1] at h; subst h
  refine wpList_nil (jQ ?_)
  refine jN (results_none Try.results30 _ _ _) rfl ?_
  exact ⟨rfl, GG, _, _, _, _, _, _, _, _, _, _, _, _, _, _, _, _, _, _, _, _, _, _, H, hI.mono⟩
theorem play1k1n (w0 w : World) (G0 : Gro w0 w) (tp : Nat) (q0 : Nat) (q1 : Nat) (id0 : Nat → Nat) (id1 : Nat → Nat) (x0 : ES) (x1 : ES) (n0 : Nat) (n1 : Nat) (a0 : Option Addr) (c0 : Nat) (f0 : List (PF × Fr)) (a1 : Option Addr) (c1 : Nat) (f1 : List (PF × Fr)) (b0 : Option Addr) (e0 : Nat) (s0 : List SE) (b1 : Option Addr) (e1 : Nat) (s1 : List SE) (d0 : Option Addr) (k0 : Nat) (r0 : List SE) (d1 : Option Addr) (k1 : Nat) (r1 : List SE) (H : Tk w0.heap.size w tp q0 q1 id0 id1 x0 x1 n0 n1 a0 c0 f0 a1 c1 f1 b0 e0 s0 b1 e1 s1 d0 k0 r0 d1 k1 r1) (N : Nat) (hI : Inv N n0 x0 f0 s0 r0 n1 x1 f1 s1 r1) (_hN : N ≤ 900) (kd sd ix : Int) (ao : Option Addr) (cap : Nat) (l : List Nat) (_HN : NC w0 .u8 ao cap l) (hsd : uN sd % 2 = 1) (hkd : kd = 1) (hno : f1.length = 0) : Calls Try.prog 30 #[pK tp 0, .agg (c85 kd sd ix ⟨ao, l.length, cap⟩)] w fun e w' => e = .returned (.tuple #[]) ∧ Gro w0 w' ∧ TkI w0.heap.size w' tp q0 q1 id0 id1 (N + 1) := by
  refine jq Try.func30 rfl Try.ntmps30 [pK tp 0, .agg (c85 kd sd ix ⟨ao, l.length, cap⟩)] ?_
  intro U h; simp only [List.length_cons, List.length_nil, List.cons_append, List.nil_append, Nat.reduceAdd, Nat.reduceSub, List.reduceReplicate] at h; subst h
  have GG := Gro.refl w
  replace GG := G0
  have ktp := H.box
  have hfli := hI.b.fl
  have hflj := hI.a.fl
  have hbk := hI.b.bd.k
  have hbc := hI.b.bd.c
  have hbn := hI.b.n
  have hls := hI.b.ls
  have hlg := hI.b.lg
  refine wp_seq (wp_region_lit ?_)
  refine jE 3 rfl rfl 85 _ rfl _ rfl (c85 kd sd ix ⟨ao, l.length, cap⟩) rfl ?_
  intro w1 g1 G eg1 kg1
  have bg1 := jh GG eg1
  have dtpg1 := jf ktp eg1
  replace ktp := G.has ktp
  replace H := H.gro G
  replace GG := GG.trans G
  clear G eg1
  refine wpList_nil (ja (wp_seq (wp_region_lit (sv 11 (pK g1 1) (jc 85 _ 1 rfl _ _ rfl _) (sv 12 (iK sd) (je 3 _ rfl g1 1 rfl 85 _ kg1 (na3 _) _ rfl) ?_)))))
  refine nr ?_; intro U h; simp only [z0, z1] at h; subst h
  refine sv 13 (.int .u64 ((uN sd : Nat) : Int)) (conv345 _ rfl sd rfl _) (sv 14 (.int .u64 ((uN sd % 2 : Nat) : Int)) (jH 119 _ _ _ rfl (uN sd) 2 rfl rfl (by decide) _) (sv 15 (iK 1) (conv453 _ rfl 1 (by decide) (by exact congrArg (fun n : Nat => Value.int .u64 (n : Int)) hsd) _) ?_))
  refine nr ?_; intro U h; simp only [z0, z1] at h; subst h
  refine mv 4 (iK 1) (wpList_nil (ja (wp_seq (wp_region_lit (mv 5 (iK (-1)) (wpList_nil (ja (wp_seq (wp_seq (wp_region_lit (mv 16 (pK tp 0) ?_)))))))))))
  refine nr ?_; intro U h; simp only [z0, z1] at h; subst h
  refine mv 17 (iK 1) (sv 18 (pK tp 0) (jl _ rfl _ rfl) (sv 19 (pK tp 2) (jc 83 _ 1 rfl _ _ rfl _) ?_))
  refine nr ?_; intro U h; simp only [z0, z1] at h; subst h
  refine sv 20 (pK tp 3) (jB _ _ rfl tp 2 1 (by decide) rfl rfl _) (sv 21 (.slice a1 f1.length c1) (je 50 _ rfl tp 3 rfl 83 _ ktp (na50 _) _ rfl) (sv 22 (iK ((f1.length : Nat) : Int)) (jG Try.underlying50 _ rfl _ _ _ rfl _) ?_))
  refine nr ?_; intro U h; simp only [z0, z1] at h; subst h
  refine mv 6 (iK ((f1.length : Nat) : Int)) (wpList_nil (ja (wp_seq (wp_region_lit (mv 23 (iK ((f1.length : Nat) : Int)) (sv 24 (vFa) (jD 3 _ _ _ rfl ((f1.length : Nat) : Int) 0 rfl rfl false (decide_eq_false (by omega)) _) ?_))))))
  refine nr ?_; intro U h; simp only [z0, z1] at h; subst h
  refine wpList_nil (ja (wp_cond_false rfl (wp_skip (ja (wp_seq (wp_region_lit (sv 32 (pK g1 0) (jc 85 _ 0 rfl _ _ rfl _) (sv 33 (iK kd) (je 3 _ rfl g1 0 rfl 85 _ kg1 (na3 _) _ rfl) (wpList_nil (ja (wp_block (wp_seq (wp_region_lit (sv 51 (vFa) (jg 3 .i64 _ _ _ rfl Try.underlying3 kd 0 rfl rfl false (decide_eq_false (by omega)) _) ?_))))))))))))))
  refine nr ?_; intro U h; simp only [z0, z1] at h; subst h
  refine mv 50 (vFa) (wpList_nil (ja (wp_cond_false rfl (wp_seq (wp_region_lit (sv 56 (vTr) (jg 3 .i64 _ _ _ rfl Try.underlying3 kd 1 rfl rfl true (decide_eq_true hkd) _) (mv 55 (vTr) ?_)))))))
  refine nr ?_; intro U h; simp only [z0, z1] at h; subst h
  refine wpList_nil (ja (wp_cond_true rfl (wp_region_lit (mv 57 (pK tp 0) (mv 58 (iK 1) (sv 59 (pK tp 0) (jl _ rfl _ rfl) ?_))))))
  refine nr ?_; intro U h; simp only [z0, z1] at h; subst h
  refine sv 60 (pK tp 0) (jc 83 _ 0 rfl _ _ rfl _) (sv 61 (pK tp 1) (jS _ _ rfl tp 0 1 (by decide) rfl rfl _) (sv 62 (pK q1 0) (je 25 _ rfl tp 1 rfl 83 _ ktp (na25 _) _ rfl) ?_))
  refine nr ?_; intro U h; simp only [z0, z1] at h; subst h
  obtain ⟨mu, tb, HM, hge, hnext⟩ := H.end1 GG.size
  refine jt 63 rfl rfl _ 12 Try.call12 rfl rfl _ rfl [pK q1 0] rfl (uO _ _ _ _ _ _ HM) (fun _ _ ⟨_, _, he, _⟩ => ⟨_, he⟩) ?_
  rintro v w2 ⟨mu2, tb2, he, HX, G, F1, F2⟩
  cases he
  have H2 := hnext _ _ _ _ HX G F1
  have GG2 := G.gro GG hge
  clear GG H
  have GG := GG2
  have H := H2
  clear GG2 H2
  refine wpList_nil (jQ ?_)
  refine jN (results_none Try.results30 _ _ _) rfl ?_
  exact ⟨rfl, GG, _, _, _, _, _, _, _, _, _, _, _, _, _, _, _, _, _, _, _, _, _, _, H, ((hI.swap).fall).swap⟩
theorem play1k1h (w0 w : World) (G0 : Gro w0 w) (tp : Nat) (q0 : Nat) (q1 : Nat) (id0 : Nat → Nat) (id1 : Nat → Nat) (x0 : ES) (x1 : ES) (n0 : Nat) (n1 : Nat) (a0 : Option Addr) (c0 : Nat) (f0 : List (PF × Fr)) (a1 : Option Addr) (c1 : Nat) (f1 : List (PF × Fr)) (b0 : Option Addr) (e0 : Nat) (s0 : List SE) (b1 : Option Addr) (e1 : Nat) (s1 : List SE) (d0 : Option Addr) (k0 : Nat) (r0 : List SE) (d1 : Option Addr) (k1 : Nat) (r1 : List SE) (H : Tk w0.heap.size w tp q0 q1 id0 id1 x0 x1 n0 n1 a0 c0 f0 a1 c1 f1 b0 e0 s0 b1 e1 s1 d0 k0 r0 d1 k1 r1) (N : Nat) (hI : Inv N n0 x0 f0 s0 r0 n1 x1 f1 s1 r1) (_hN : N ≤ 900) (kd sd ix : Int) (ao : Option Addr) (cap : Nat) (l : List Nat) (_HN : NC w0 .u8 ao cap l) (hsd : uN sd % 2 = 1) (hkd : kd = 1) (hpos : 0 < f1.length) : Calls Try.prog 30 #[pK tp 0, .agg (c85 kd sd ix ⟨ao, l.length, cap⟩)] w fun e w' => e = .returned (.tuple #[]) ∧ Gro w0 w' ∧ TkI w0.heap.size w' tp q0 q1 id0 id1 (N + 1) := by
  refine jq Try.func30 rfl Try.ntmps30 [pK tp 0, .agg (c85 kd sd ix ⟨ao, l.length, cap⟩)] ?_
  intro U h; simp only [List.length_cons, List.length_nil, List.cons_append, List.nil_append, Nat.reduceAdd, Nat.reduceSub, List.reduceReplicate] at h; subst h
  have GG := Gro.refl w
  replace GG := G0
  have ktp := H.box
  have hfli := hI.b.fl
  have hflj := hI.a.fl
  have hbk := hI.b.bd.k
  have hbc := hI.b.bd.c
  have hbn := hI.b.n
  have hls := hI.b.ls
  have hlg := hI.b.lg
  refine wp_seq (wp_region_lit ?_)
  refine jE 3 rfl rfl 85 _ rfl _ rfl (c85 kd sd ix ⟨ao, l.length, cap⟩) rfl ?_
  intro w1 g1 G eg1 kg1
  have bg1 := jh GG eg1
  have dtpg1 := jf ktp eg1
  replace ktp := G.has ktp
  replace H := H.gro G
  replace GG := GG.trans G
  clear G eg1
  refine wpList_nil (ja (wp_seq (wp_region_lit (sv 11 (pK g1 1) (jc 85 _ 1 rfl _ _ rfl _) (sv 12 (iK sd) (je 3 _ rfl g1 1 rfl 85 _ kg1 (na3 _) _ rfl) ?_)))))
  refine nr ?_; intro U h; simp only [z0, z1] at h; subst h
  refine sv 13 (.int .u64 ((uN sd : Nat) : Int)) (conv345 _ rfl sd rfl _) (sv 14 (.int .u64 ((uN sd % 2 : Nat) : Int)) (jH 119 _ _ _ rfl (uN sd) 2 rfl rfl (by decide) _) (sv 15 (iK 1) (conv453 _ rfl 1 (by decide) (by exact congrArg (fun n : Nat => Value.int .u64 (n : Int)) hsd) _) ?_))
  refine nr ?_; intro U h; simp only [z0, z1] at h; subst h
  refine mv 4 (iK 1) (wpList_nil (ja (wp_seq (wp_region_lit (mv 5 (iK (-1)) (wpList_nil (ja (wp_seq (wp_seq (wp_region_lit (mv 16 (pK tp 0) ?_)))))))))))
  refine nr ?_; intro U h; simp only [z0, z1] at h; subst h
  refine mv 17 (iK 1) (sv 18 (pK tp 0) (jl _ rfl _ rfl) (sv 19 (pK tp 2) (jc 83 _ 1 rfl _ _ rfl _) ?_))
  refine nr ?_; intro U h; simp only [z0, z1] at h; subst h
  refine sv 20 (pK tp 3) (jB _ _ rfl tp 2 1 (by decide) rfl rfl _) (sv 21 (.slice a1 f1.length c1) (je 50 _ rfl tp 3 rfl 83 _ ktp (na50 _) _ rfl) (sv 22 (iK ((f1.length : Nat) : Int)) (jG Try.underlying50 _ rfl _ _ _ rfl _) ?_))
  refine nr ?_; intro U h; simp only [z0, z1] at h; subst h
  refine mv 6 (iK ((f1.length : Nat) : Int)) (wpList_nil (ja (wp_seq (wp_region_lit (mv 23 (iK ((f1.length : Nat) : Int)) (sv 24 (vTr) (jD 3 _ _ _ rfl ((f1.length : Nat) : Int) 0 rfl rfl true (decide_eq_true (by omega)) _) ?_))))))
  refine nr ?_; intro U h; simp only [z0, z1] at h; subst h
  refine wpList_nil (ja (wp_cond_true rfl (wp_region_lit (sv 25 (pK g1 2) (jc 85 _ 2 rfl _ _ rfl _) (sv 26 (iK ix) (je 3 _ rfl g1 2 rfl 85 _ kg1 (na3 _) _ rfl) (sv 27 (.int .u64 ((uN ix : Nat) : Int)) (conv345 _ rfl ix rfl _) ?_))))))
  refine nr ?_; intro U h; simp only [z0, z1] at h; subst h
  refine mv 28 (iK ((f1.length : Nat) : Int)) (sv 29 (.int .u64 ((f1.length : Nat) : Int)) (conv345N _ rfl f1.length (by omega) rfl _) (sv 30 (.int .u64 ((uN ix % f1.length : Nat) : Int)) (jH 119 _ _ _ rfl (uN ix) f1.length rfl rfl (by omega) _) ?_))
  refine nr ?_; intro U h; simp only [z0, z1] at h; subst h
  obtain ⟨m, hm⟩ : ∃ m, uN ix % f1.length = m := ⟨_, rfl⟩
  have hmi : m < f1.length := hm ▸ Nat.mod_lt _ hpos
  refine sv 31 (iK ((m : Nat) : Int)) (conv453 _ rfl m (by omega) (by exact congrArg (fun n : Nat => Value.int .u64 (n : Int)) hm) _) (mv 5 (iK ((m : Nat) : Int)) (wpList_nil (ja (wp_seq (wp_region_lit (sv 32 (pK g1 0) (jc 85 _ 0 rfl _ _ rfl _) ?_))))))
  refine nr ?_; intro U h; simp only [z0, z1] at h; subst h
  refine sv 33 (iK kd) (je 3 _ rfl g1 0 rfl 85 _ kg1 (na3 _) _ rfl) (wpList_nil (ja (wp_block (wp_seq (wp_region_lit (sv 51 (vFa) (jg 3 .i64 _ _ _ rfl Try.underlying3 kd 0 rfl rfl false (decide_eq_false (by omega)) _) (mv 50 (vFa) ?_)))))))
  refine nr ?_; intro U h; simp only [z0, z1] at h; subst h
  refine wpList_nil (ja (wp_cond_false rfl (wp_seq (wp_region_lit (sv 56 (vTr) (jg 3 .i64 _ _ _ rfl Try.underlying3 kd 1 rfl rfl true (decide_eq_true hkd) _) (mv 55 (vTr) (wpList_nil (ja (wp_cond_true rfl (wp_region_lit (mv 57 (pK tp 0) ?_)))))))))))
  refine nr ?_; intro U h; simp only [z0, z1] at h; subst h
  refine mv 58 (iK 1) (sv 59 (pK tp 0) (jl _ rfl _ rfl) (sv 60 (pK tp 0) (jc 83 _ 0 rfl _ _ rfl _) ?_))
  refine nr ?_; intro U h; simp only [z0, z1] at h; subst h
  refine sv 61 (pK tp 1) (jS _ _ rfl tp 0 1 (by decide) rfl rfl _) (sv 62 (pK q1 0) (je 25 _ rfl tp 1 rfl 83 _ ktp (na25 _) _ rfl) ?_)
  refine nr ?_; intro U h; simp only [z0, z1] at h; subst h
  obtain ⟨mu, tb, HM, hge, hnext⟩ := H.end1 GG.size
  refine jt 63 rfl rfl _ 12 Try.call12 rfl rfl _ rfl [pK q1 0] rfl (uO _ _ _ _ _ _ HM) (fun _ _ ⟨_, _, he, _⟩ => ⟨_, he⟩) ?_
  rintro v w2 ⟨mu2, tb2, he, HX, G, F1, F2⟩
  cases he
  have H2 := hnext _ _ _ _ HX G F1
  have GG2 := G.gro GG hge
  clear GG H
  have GG := GG2
  have H := H2
  clear GG2 H2
  refine wpList_nil (jQ ?_)
  refine jN (results_none Try.results30 _ _ _) rfl ?_
  exact ⟨rfl, GG, _, _, _, _, _, _, _, _, _, _, _, _, _, _, _, _, _, _, _, _, _, _, H, ((hI.swap).fall).swap⟩
theorem play1k2n (w0 w : World) (G0 : Gro w0 w) (tp : Nat) (q0 : Nat) (q1 : Nat) (id0 : Nat → Nat) (id1 : Nat → Nat) (x0 : ES) (x1 : ES) (n0 : Nat) (n1 : Nat) (a0 : Option Addr) (c0 : Nat) (f0 : List (PF × Fr)) (a1 : Option Addr) (c1 : Nat) (f1 : List (PF × Fr)) (b0 : Option Addr) (e0 : Nat) (s0 : List SE) (b1 : Option Addr) (e1 : Nat) (s1 : List SE) (d0 : Option Addr) (k0 : Nat) (r0 : List SE) (d1 : Option Addr) (k1 : Nat) (r1 : List SE) (H : Tk w0.heap.size w tp q0 q1 id0 id1 x0 x1 n0 n1 a0 c0 f0 a1 c1 f1 b0 e0 s0 b1 e1 s1 d0 k0 r0 d1 k1 r1) (N : Nat) (hI : Inv N n0 x0 f0 s0 r0 n1 x1 f1 s1 r1) (hN : N ≤ 900) (kd sd ix : Int) (ao : Option Addr) (cap : Nat) (l : List Nat) (_HN : NC w0 .u8 ao cap l) (hsd : uN sd % 2 = 1) (hkd : kd = 2) (hno : f1.length = 0) : Calls Try.prog 30 #[pK tp 0, .agg (c85 kd sd ix ⟨ao, l.length, cap⟩)] w fun e w' => e = .returned (.tuple #[]) ∧ Gro w0 w' ∧ TkI w0.heap.size w' tp q0 q1 id0 id1 (N + 1) := by
  refine jq Try.func30 rfl Try.ntmps30 [pK tp 0, .agg (c85 kd sd ix ⟨ao, l.length, cap⟩)] ?_
  intro U h; simp only [List.length_cons, List.length_nil, List.cons_append, List.nil_append, Nat.reduceAdd, Nat.reduceSub, List.reduceReplicate] at h; subst h
  have GG := Gro.refl w
  replace GG := G0
  have ktp := H.box
  have hfli := hI.b.fl
  have hflj := hI.a.fl
  have hbk := hI.b.bd.k
  have hbc := hI.b.bd.c
  have hbn := hI.b.n
  have hls := hI.b.ls
  have hlg := hI.b.lg
  refine wp_seq (wp_region_lit ?_)
  refine jE 3 rfl rfl 85 _ rfl _ rfl (c85 kd sd ix ⟨ao, l.length, cap⟩) rfl ?_
  intro w1 g1 G eg1 kg1
  have bg1 := jh GG eg1
  have dtpg1 := jf ktp eg1
  replace ktp := G.has ktp
  replace H := H.gro G
  replace GG := GG.trans G
  clear G eg1
  refine wpList_nil (ja (wp_seq (wp_region_lit (sv 11 (pK g1 1) (jc 85 _ 1 rfl _ _ rfl _) (sv 12 (iK sd) (je 3 _ rfl g1 1 rfl 85 _ kg1 (na3 _) _ rfl) ?_)))))
  refine nr ?_; intro U h; simp only [z0, z1] at h; subst h
  refine sv 13 (.int .u64 ((uN sd : Nat) : Int)) (conv345 _ rfl sd rfl _) (sv 14 (.int .u64 ((uN sd % 2 : Nat) : Int)) (jH 119 _ _ _ rfl (uN sd) 2 rfl rfl (by decide) _) (sv 15 (iK 1) (conv453 _ rfl 1 (by decide) (by exact congrArg (fun n : Nat => Value.int .u64 (n : Int)) hsd) _) ?_))
  refine nr ?_; intro U h; simp only [z0, z1] at h; subst h
  refine mv 4 (iK 1) (wpList_nil (ja (wp_seq (wp_region_lit (mv 5 (iK (-1)) (wpList_nil (ja (wp_seq (wp_seq (wp_region_lit (mv 16 (pK tp 0) ?_)))))))))))
  refine nr ?_; intro U h; simp only [z0, z1] at h; subst h
  refine mv 17 (iK 1) (sv 18 (pK tp 0) (jl _ rfl _ rfl) (sv 19 (pK tp 2) (jc 83 _ 1 rfl _ _ rfl _) ?_))
  refine nr ?_; intro U h; simp only [z0, z1] at h; subst h
  refine sv 20 (pK tp 3) (jB _ _ rfl tp 2 1 (by decide) rfl rfl _) (sv 21 (.slice a1 f1.length c1) (je 50 _ rfl tp 3 rfl 83 _ ktp (na50 _) _ rfl) (sv 22 (iK ((f1.length : Nat) : Int)) (jG Try.underlying50 _ rfl _ _ _ rfl _) ?_))
  refine nr ?_; intro U h; simp only [z0, z1] at h; subst h
  refine mv 6 (iK ((f1.length : Nat) : Int)) (wpList_nil (ja (wp_seq (wp_region_lit (mv 23 (iK ((f1.length : Nat) : Int)) (sv 24 (vFa) (jD 3 _ _ _ rfl ((f1.length : Nat) : Int) 0 rfl rfl false (decide_eq_false (by omega)) _) ?_))))))
  refine nr ?_; intro U h; simp only [z0, z1] at h; subst h
  refine wpList_nil (ja (wp_cond_false rfl (wp_skip (ja (wp_seq (wp_region_lit (sv 32 (pK g1 0) (jc 85 _ 0 rfl _ _ rfl _) (sv 33 (iK kd) (je 3 _ rfl g1 0 rfl 85 _ kg1 (na3 _) _ rfl) (wpList_nil (ja (wp_block (wp_seq (wp_region_lit (sv 51 (vFa) (jg 3 .i64 _ _ _ rfl Try.underlying3 kd 0 rfl rfl false (decide_eq_false (by omega)) _) ?_))))))))))))))
  refine nr ?_; intro U h; simp only [z0, z1] at h; subst h
  refine mv 50 (vFa) (wpList_nil (ja (wp_cond_false rfl (wp_seq (wp_region_lit (sv 56 (vFa) (jg 3 .i64 _ _ _ rfl Try.underlying3 kd 1 rfl rfl false (decide_eq_false (by omega)) _) (mv 55 (vFa) ?_)))))))
  refine nr ?_; intro U h; simp only [z0, z1] at h; subst h
  refine wpList_nil (ja (wp_cond_false rfl (wp_seq (wp_region_lit (sv 65 (vTr) (jg 3 .i64 _ _ _ rfl Try.underlying3 kd 2 rfl rfl true (decide_eq_true hkd) _) (mv 64 (vTr) (wpList_nil (ja (wp_cond_true rfl (wp_region_lit (mv 66 (pK tp 0) ?_)))))))))))
  refine nr ?_; intro U h; simp only [z0, z1] at h; subst h
  refine mv 67 (iK 1) (mv 68 (pK tp 0) (mv 69 (iK 1) ?_))
  refine nr ?_; intro U h; simp only [z0, z1] at h; subst h
  refine sv 70 (pK tp 0) (jl _ rfl _ rfl) (sv 71 (pK tp 0) (jc 83 _ 0 rfl _ _ rfl _) (sv 72 (pK tp 1) (jS _ _ rfl tp 0 1 (by decide) rfl rfl _) ?_))
  refine nr ?_; intro U h; simp only [z0, z1] at h; subst h
  refine sv 73 (pK q1 0) (je 25 _ rfl tp 1 rfl 83 _ ktp (na25 _) _ rfl) ?_
  refine nr ?_; intro U h; simp only [z0, z1] at h; subst h
  have hlt := H.l0.row.lt
  obtain ⟨mu, tb, HM, hge, hnext⟩ := H.end1 GG.size
  refine jt 74 rfl rfl _ 14 Try.call14 rfl rfl _ rfl [pK q1 0] rfl (uu _ _ _ _ _ _ HM (by omega) (by omega)) (fun _ _ ⟨_, _, _, _, _, he, _⟩ => ⟨_, he⟩) ?_
  rintro v w2 ⟨ao1, cap1, fs1, mu2, tb2, he, hm1, hd1, HLl, HX, G, F1, F2⟩
  cases he
  have hd2 : fs1.length ≤ 1 ∨ Dis (blk ao1) (blk a0) := hd1.imp (fun h => h) fun h k hk hm => by have h1 := h k hk; have h2 := hlt k hm; omega
  have hfs1 : fs1.length ≤ 1000000 := by have h := congrArg List.length hm1; rw [List.length_map] at h; rw [h]; exact yD id1 x1 (by omega)
  have H2 := hnext _ _ _ _ HX G F1
  have GG2 := G.gro GG hge
  clear GG H
  have GG := GG2
  have H := H2
  clear GG2 H2
  refine jt 75 rfl rfl _ 32 Try.call32 rfl rfl _ rfl [pK tp 0, iK 1, .slice ao1 fs1.length cap1] rfl (say1 w0 _ GG _ _ _ _ _ _ _ _ _ _ _ _ _ _ _ _ _ _ _ _ _ _ _ _ _ _ _ H ao1 cap1 fs1 HLl (hfs1) hflj (hd2)) (fun _ _ ⟨he, _⟩ => ⟨_, he⟩) ?_
  rintro v w3 ⟨he, GG2, a2, c2, f2, H2, hfl2, hmem2⟩
  cases he
  clear GG H
  have GG := GG2
  have H := H2
  clear GG2 H2
  refine wpList_nil (jQ ?_)
  refine jN (results_none Try.results30 _ _ _) rfl ?_
  exact ⟨rfl, GG, _, _, _, _, _, _, _, _, _, _, _, _, _, _, _, _, _, _, _, _, _, _, H, ((hI.swap).tick id1 hfl2 (fun y hy => (hmem2 y hy).imp (fun h => h) fun h => by have e : fs1.map (·.1) = tickS id1 x1 := hm1; rw [← e]; exact h)).swap⟩
theorem play1k2h (w0 w : World) (G0 : Gro w0 w) (tp : Nat) (q0 : Nat) (q1 : Nat) (id0 : Nat → Nat) (id1 : Nat → Nat) (x0 : ES) (x1 : ES) (n0 : Nat) (n1 : Nat) (a0 : Option Addr) (c0 : Nat) (f0 : List (PF × Fr)) (a1 : Option Addr) (c1 : Nat) (f1 : List (PF × Fr)) (b0 : Option Addr) (e0 : Nat) (s0 : List SE) (b1 : Option Addr) (e1 : Nat) (s1 : List SE) (d0 : Option Addr) (k0 : Nat) (r0 : List SE) (d1 : Option Addr) (k1 : Nat) (r1 : List SE) (H : Tk w0.heap.size w tp q0 q1 id0 id1 x0 x1 n0 n1 a0 c0 f0 a1 c1 f1 b0 e0 s0 b1 e1 s1 d0 k0 r0 d1 k1 r1) (N : Nat) (hI : Inv N n0 x0 f0 s0 r0 n1 x1 f1 s1 r1) (hN : N ≤ 900) (kd sd ix : Int) (ao : Option Addr) (cap : Nat) (l : List Nat) (_HN : NC w0 .u8 ao cap l) (hsd : uN sd % 2 = 1) (hkd : kd = 2) (hpos : 0 < f1.length) : Calls Try.prog 30 #[pK tp 0, .agg (c85 kd sd ix ⟨ao, l.length, cap⟩)] w fun e w' => e = .returned (.tuple #[]) ∧ Gro w0 w' ∧ TkI w0.heap.size w' tp q0 q1 id0 id1 (N + 1) := by
  refine jq Try.func30 rfl Try.ntmps30 [pK tp 0, .agg (c85 kd sd ix ⟨ao, l.length, cap⟩)] ?_
  intro U h; simp only [List.length_cons, List.length_nil, List.cons_append, List.nil_append, Nat.reduceAdd, Nat.reduceSub, List.reduceReplicate] at h; subst h
  have GG := Gro.refl w
  replace GG := G0
  have ktp := H.box
  have hfli := hI.b.fl
  have hflj := hI.a.fl
  have hbk := hI.b.bd.k
  have hbc := hI.b.bd.c
  have hbn := hI.b.n
  have hls := hI.b.ls
  have hlg := hI.b.lg
  refine wp_seq (wp_region_lit ?_)
  refine jE 3 rfl rfl 85 _ rfl _ rfl (c85 kd sd ix ⟨ao, l.length, cap⟩) rfl ?_
  intro w1 g1 G eg1 kg1
  have bg1 := jh GG eg1
  have dtpg1 := jf ktp eg1
  replace ktp := G.has ktp
  replace H := H.gro G
  replace GG := GG.trans G
  clear G eg1
  refine wpList_nil (ja (wp_seq (wp_region_lit (sv 11 (pK g1 1) (jc 85 _ 1 rfl _ _ rfl _) (sv 12 (iK sd) (je 3 _ rfl g1 1 rfl 85 _ kg1 (na3 _) _ rfl) ?_)))))
  refine nr ?_; intro U h; simp only [z0, z1] at h; subst h
  refine sv 13 (.int .u64 ((uN sd : Nat) : Int)) (conv345 _ rfl sd rfl _) (sv 14 (.int .u64 ((uN sd % 2 : Nat) : Int)) (jH 119 _ _ _ rfl (uN sd) 2 rfl rfl (by decide) _) (sv 15 (iK 1) (conv453 _ rfl 1 (by decide) (by exact congrArg (fun n : Nat => Value.int .u64 (n : Int)) hsd) _) ?_))
  refine nr ?_; intro U h; simp only [z0, z1] at h; subst h
  refine mv 4 (iK 1) (wpList_nil (ja (wp_seq (wp_region_lit (mv 5 (iK (-1)) (wpList_nil (ja (wp_seq (wp_seq (wp_region_lit (mv 16 (pK tp 0) ?_)))))))))))
  refine nr ?_; intro U h; simp only [z0, z1] at h; subst h
  refine mv 17 (iK 1) (sv 18 (pK tp 0) (jl _ rfl _ rfl) (sv 19 (pK tp 2) (jc 83 _ 1 rfl _ _ rfl _) ?_))
  refine nr ?_; intro U h; simp only [z0, z1] at h; subst h
  refine sv 20 (pK tp 3) (jB _ _ rfl tp 2 1 (by decide) rfl rfl _) (sv 21 (.slice a1 f1.length c1) (je 50 _ rfl tp 3 rfl 83 _ ktp (na50 _) _ rfl) (sv 22 (iK ((f1.length : Nat) : Int)) (jG Try.underlying50 _ rfl _ _ _ rfl _) ?_))
  refine nr ?_; intro U h; simp only [z0, z1] at h; subst h
  refine mv 6 (iK ((f1.length : Nat) : Int)) (wpList_nil (ja (wp_seq (wp_region_lit (mv 23 (iK ((f1.length : Nat) : Int)) (sv 24 (vTr) (jD 3 _ _ _ rfl ((f1.length : Nat) : Int) 0 rfl rfl true (decide_eq_true (by omega)) _) ?_))))))
  refine nr ?_; intro U h; simp only [z0, z1] at h; subst h
  refine wpList_nil (ja (wp_cond_true rfl (wp_region_lit (sv 25 (pK g1 2) (jc 85 _ 2 rfl _ _ rfl _) (sv 26 (iK ix) (je 3 _ rfl g1 2 rfl 85 _ kg1 (na3 _) _ rfl) (sv 27 (.int .u64 ((uN ix : Nat) : Int)) (conv345 _ rfl ix rfl _) ?_))))))
  refine nr ?_; intro U h; simp only [z0, z1] at h; subst h
  refine mv 28 (iK ((f1.length : Nat) : Int)) (sv 29 (.int .u64 ((f1.length : Nat) : Int)) (conv345N _ rfl f1.length (by omega) rfl _) (sv 30 (.int .u64 ((uN ix % f1.length : Nat) : Int)) (jH 119 _ _ _ rfl (uN ix) f1.length rfl rfl (by omega) _) ?_))
  refine nr ?_; intro U h; simp only [z0, z1] at h; subst h
  obtain ⟨m, hm⟩ : ∃ m, uN ix % f1.length = m := ⟨_, rfl⟩
  have hmi : m < f1.length := hm ▸ Nat.mod_lt _ hpos
  refine sv 31 (iK ((m : Nat) : Int)) (conv453 _ rfl m (by omega) (by exact congrArg (fun n : Nat => Value.int .u64 (n : Int)) hm) _) (mv 5 (iK ((m : Nat) : Int)) (wpList_nil (ja (wp_seq (wp_region_lit (sv 32 (pK g1 0) (jc 85 _ 0 rfl _ _ rfl _) ?_))))))
  refine nr ?_; intro U h; simp only [z0, z1] at h; subst h
  refine sv 33 (iK kd) (je 3 _ rfl g1 0 rfl 85 _ kg1 (na3 _) _ rfl) (wpList_nil (ja (wp_block (wp_seq (wp_region_lit (sv 51 (vFa) (jg 3 .i64 _ _ _ rfl Try.underlying3 kd 0 rfl rfl false (decide_eq_false (by omega)) _) (mv 50 (vFa) ?_)))))))
  refine nr ?_; intro U h; simp only [z0, z1] at h; subst h
  refine wpList_nil (ja (wp_cond_false rfl (wp_seq (wp_region_lit (sv 56 (vFa) (jg 3 .i64 _ _ _ rfl Try.underlying3 kd 1 rfl rfl false (decide_eq_false (by omega)) _) (mv 55 (vFa) (wpList_nil (ja (wp_cond_false rfl (wp_seq (wp_region_lit (sv 65 (vTr) (jg 3 .i64 _ _ _ rfl Try.underlying3 kd 2 rfl rfl true (decide_eq_true hkd) _) ?_))))))))))))
  refine nr ?_; intro U h; simp only [z0, z1] at h; subst h
  refine mv 64 (vTr) (wpList_nil (ja (wp_cond_true rfl (wp_region_lit (mv 66 (pK tp 0) (mv 67 (iK 1) ?_))))))
  refine nr ?_; intro U h; simp only [z0, z1] at h; subst h
  refine mv 68 (pK tp 0) (mv 69 (iK 1) (sv 70 (pK tp 0) (jl _ rfl _ rfl) ?_))
  refine nr ?_; intro U h; simp only [z0, z1] at h; subst h
  refine sv 71 (pK tp 0) (jc 83 _ 0 rfl _ _ rfl _) (sv 72 (pK tp 1) (jS _ _ rfl tp 0 1 (by decide) rfl rfl _) (sv 73 (pK q1 0) (je 25 _ rfl tp 1 rfl 83 _ ktp (na25 _) _ rfl) ?_))
  refine nr ?_; intro U h; simp only [z0, z1] at h; subst h
  have hlt := H.l0.row.lt
  obtain ⟨mu, tb, HM, hge, hnext⟩ := H.end1 GG.size
  refine jt 74 rfl rfl _ 14 Try.call14 rfl rfl _ rfl [pK q1 0] rfl (uu _ _ _ _ _ _ HM (by omega) (by omega)) (fun _ _ ⟨_, _, _, _, _, he, _⟩ => ⟨_, he⟩) ?_
  rintro v w2 ⟨ao1, cap1, fs1, mu2, tb2, he, hm1, hd1, HLl, HX, G, F1, F2⟩
  cases he
  have hd2 : fs1.length ≤ 1 ∨ Dis (blk ao1) (blk a0) := hd1.imp (fun h => h) fun h k hk hm => by have h1 := h k hk; have h2 := hlt k hm; omega
  have hfs1 : fs1.length ≤ 1000000 := by have h := congrArg List.length hm1; rw [List.length_map] at h; rw [h]; exact yD id1 x1 (by omega)
  have H2 := hnext _ _ _ _ HX G F1
  have GG2 := G.gro GG hge
  clear GG H
  have GG := GG2
  have H := H2
  clear GG2 H2
  refine jt 75 rfl rfl _ 32 Try.call32 rfl rfl _ rfl [pK tp 0, iK 1, .slice ao1 fs1.length cap1] rfl (say1 w0 _ GG _ _ _ _ _ _ _ _ _ _ _ _ _ _ _ _ _ _ _ _ _ _ _ _ _ _ _ H ao1 cap1 fs1 HLl (hfs1) hflj (hd2)) (fun _ _ ⟨he, _⟩ => ⟨_, he⟩) ?_
  rintro v w3 ⟨he, GG2, a2, c2, f2, H2, hfl2, hmem2⟩
  cases he
  clear GG H
  have GG := GG2
  have H := H2
  clear GG2 H2
  refine wpList_nil (jQ ?_)
  refine jN (results_none Try.results30 _ _ _) rfl ?_
  exact ⟨rfl, GG, _, _, _, _, _, _, _, _, _, _, _, _, _, _, _, _, _, _, _, _, _, _, H, ((hI.swap).tick id1 hfl2 (fun y hy => (hmem2 y hy).imp (fun h => h) fun h => by have e : fs1.map (·.1) = tickS id1 x1 := hm1; rw [← e]; exact h)).swap⟩
theorem play1k3n (w0 w : World) (G0 : Gro w0 w) (tp : Nat) (q0 : Nat) (q1 : Nat) (id0 : Nat → Nat) (id1 : Nat → Nat) (x0 : ES) (x1 : ES) (n0 : Nat) (n1 : Nat) (a0 : Option Addr) (c0 : Nat) (f0 : List (PF × Fr)) (a1 : Option Addr) (c1 : Nat) (f1 : List (PF × Fr)) (b0 : Option Addr) (e0 : Nat) (s0 : List SE) (b1 : Option Addr) (e1 : Nat) (s1 : List SE) (d0 : Option Addr) (k0 : Nat) (r0 : List SE) (d1 : Option Addr) (k1 : Nat) (r1 : List SE) (H : Tk w0.heap.size w tp q0 q1 id0 id1 x0 x1 n0 n1 a0 c0 f0 a1 c1 f1 b0 e0 s0 b1 e1 s1 d0 k0 r0 d1 k1 r1) (N : Nat) (hI : Inv N n0 x0 f0 s0 r0 n1 x1 f1 s1 r1) (hN : N ≤ 900) (kd sd ix : Int) (ao : Option Addr) (cap : Nat) (l : List Nat) (HN : NC w0 .u8 ao cap l) (hsd : uN sd % 2 = 1) (hkd : kd = 3) (hno : f1.length = 0) : Calls Try.prog 30 #[pK tp 0, .agg (c85 kd sd ix ⟨ao, l.length, cap⟩)] w fun e w' => e = .returned (.tuple #[]) ∧ Gro w0 w' ∧ TkI w0.heap.size w' tp q0 q1 id0 id1 (N + 1) := by
  refine jq Try.func30 rfl Try.ntmps30 [pK tp 0, .agg (c85 kd sd ix ⟨ao, l.length, cap⟩)] ?_
  intro U h; simp only [List.length_cons, List.length_nil, List.cons_append, List.nil_append, Nat.reduceAdd, Nat.reduceSub, List.reduceReplicate] at h; subst h
  have GG := Gro.refl w
  replace GG := G0
  have ktp := H.box
  have hfli := hI.b.fl
  have hflj := hI.a.fl
  have hbk := hI.b.bd.k
  have hbc := hI.b.bd.c
  have hbn := hI.b.n
  have hls := hI.b.ls
  have hlg := hI.b.lg
  refine wp_seq (wp_region_lit ?_)
  refine jE 3 rfl rfl 85 _ rfl _ rfl (c85 kd sd ix ⟨ao, l.length, cap⟩) rfl ?_
  intro w1 g1 G eg1 kg1
  have bg1 := jh GG eg1
  have dtpg1 := jf ktp eg1
  replace ktp := G.has ktp
  replace H := H.gro G
  replace GG := GG.trans G
  clear G eg1
  refine wpList_nil (ja (wp_seq (wp_region_lit (sv 11 (pK g1 1) (jc 85 _ 1 rfl _ _ rfl _) (sv 12 (iK sd) (je 3 _ rfl g1 1 rfl 85 _ kg1 (na3 _) _ rfl) ?_)))))
  refine nr ?_; intro U h; simp only [z0, z1] at h; subst h
  refine sv 13 (.int .u64 ((uN sd : Nat) : Int)) (conv345 _ rfl sd rfl _) (sv 14 (.int .u64 ((uN sd % 2 : Nat) : Int)) (jH 119 _ _ _ rfl (uN sd) 2 rfl rfl (by decide) _) (sv 15 (iK 1) (conv453 _ rfl 1 (by decide) (by exact congrArg (fun n : Nat => Value.int .u64 (n : Int)) hsd) _) ?_))
  refine nr ?_; intro U h; simp only [z0, z1] at h; subst h
  refine mv 4 (iK 1) (wpList_nil (ja (wp_seq (wp_region_lit (mv 5 (iK (-1)) (wpList_nil (ja (wp_seq (wp_seq (wp_region_lit (mv 16 (pK tp 0) ?_)))))))))))
  refine nr ?_; intro U h; simp only [z0, z1] at h; subst h
  refine mv 17 (iK 1) (sv 18 (pK tp 0) (jl _ rfl _ rfl) (sv 19 (pK tp 2) (jc 83 _ 1 rfl _ _ rfl _) ?_))
  refine nr ?_; intro U h; simp only [z0, z1] at h; subst h
  refine sv 20 (pK tp 3) (jB _ _ rfl tp 2 1 (by decide) rfl rfl _) (sv 21 (.slice a1 f1.length c1) (je 50 _ rfl tp 3 rfl 83 _ ktp (na50 _) _ rfl) (sv 22 (iK ((f1.length : Nat) : Int)) (jG Try.underlying50 _ rfl _ _ _ rfl _) ?_))
  refine nr ?_; intro U h; simp only [z0, z1] at h; subst h
  refine mv 6 (iK ((f1.length : Nat) : Int)) (wpList_nil (ja (wp_seq (wp_region_lit (mv 23 (iK ((f1.length : Nat) : Int)) (sv 24 (vFa) (jD 3 _ _ _ rfl ((f1.length : Nat) : Int) 0 rfl rfl false (decide_eq_false (by omega)) _) ?_))))))
  refine nr ?_; intro U h; simp only [z0, z1] at h; subst h
  refine wpList_nil (ja (wp_cond_false rfl (wp_skip (ja (wp_seq (wp_region_lit (sv 32 (pK g1 0) (jc 85 _ 0 rfl _ _ rfl _) (sv 33 (iK kd) (je 3 _ rfl g1 0 rfl 85 _ kg1 (na3 _) _ rfl) (wpList_nil (ja (wp_block (wp_seq (wp_region_lit (sv 51 (vFa) (jg 3 .i64 _ _ _ rfl Try.underlying3 kd 0 rfl rfl false (decide_eq_false (by omega)) _) ?_))))))))))))))
  refine nr ?_; intro U h; simp only [z0, z1] at h; subst h
  refine mv 50 (vFa) (wpList_nil (ja (wp_cond_false rfl (wp_seq (wp_region_lit (sv 56 (vFa) (jg 3 .i64 _ _ _ rfl Try.underlying3 kd 1 rfl rfl false (decide_eq_false (by omega)) _) (mv 55 (vFa) ?_)))))))
  refine nr ?_; intro U h; simp only [z0, z1] at h; subst h
  refine wpList_nil (ja (wp_cond_false rfl (wp_seq (wp_region_lit (sv 65 (vFa) (jg 3 .i64 _ _ _ rfl Try.underlying3 kd 2 rfl rfl false (decide_eq_false (by omega)) _) (mv 64 (vFa) (wpList_nil (ja (wp_cond_false rfl (wp_seq (wp_region_lit (sv 77 (vTr) (jg 3 .i64 _ _ _ rfl Try.underlying3 kd 3 rfl rfl true (decide_eq_true hkd) _) ?_))))))))))))
  refine nr ?_; intro U h; simp only [z0, z1] at h; subst h
  refine mv 76 (vTr) (wpList_nil (ja (wp_cond_true rfl (wp_seq (wp_region_lit (mv 79 (pK tp 0) (mv 80 (iK 1) ?_)))))))
  refine nr ?_; intro U h; simp only [z0, z1] at h; subst h
  refine sv 81 (pK tp 0) (jl _ rfl _ rfl) (sv 82 (pK tp 0) (jc 83 _ 0 rfl _ _ rfl _) (sv 83 (pK tp 1) (jS _ _ rfl tp 0 1 (by decide) rfl rfl _) ?_))
  refine nr ?_; intro U h; simp only [z0, z1] at h; subst h
  refine sv 84 (pK q1 0) (je 25 _ rfl tp 1 rfl 83 _ ktp (na25 _) _ rfl) ?_
  refine nr ?_; intro U h; simp only [z0, z1] at h; subst h
  obtain ⟨mu, tb, HM, hge, hnext⟩ := H.end1 GG.size
  refine jC 85 rfl rfl _ 23 Try.call23 rfl rfl _ rfl [pK q1 0] rfl (yx _ _ _ _ _ _ HM) ?_
  intro w2 G
  replace ktp := G.has ktp
  replace kg1 := G.has kg1
  replace H := H.gro G
  replace GG := GG.trans G
  clear G
  refine nr ?_; intro U h; simp only [z0, z1] at h; subst h
  clear HM hge hnext
  refine mv 78 (.tuple #[.agg (c29 x1.mi x1.mn), .agg (c29 x1.pi x1.pn)]) (mv 86 (.agg (c29 x1.mi x1.mn)) (mv 87 (.agg (c29 x1.pi x1.pn)) ?_))
  refine nr ?_; intro U h; simp only [z0, z1] at h; subst h
  refine js 7 rfl rfl 29 rfl _ zv29 _ rfl ?_
  intro w3 g2 G eg2 kg2
  have bg2 := jh GG eg2
  have dtpg2 := jf ktp eg2
  have dg1g2 := jf kg1 eg2
  replace ktp := G.has ktp
  replace kg1 := G.has kg1
  replace H := H.gro G
  replace GG := GG.trans G
  clear G eg2
  refine js 8 rfl rfl 29 rfl _ zv29 _ rfl ?_
  intro w4 g3 G eg3 kg3
  have bg3 := jh GG eg3
  have dtpg3 := jf ktp eg3
  have dg1g3 := jf kg1 eg3
  have dg2g3 := jf kg2 eg3
  replace ktp := G.has ktp
  replace kg1 := G.has kg1
  replace kg2 := G.has kg2
  replace H := H.gro G
  replace GG := GG.trans G
  clear G eg3
  refine jo rfl rfl 29 _ _ rfl g2 0 rfl (.agg (c29 x1.mi x1.mn)) rfl 29 _ kg2 (c29 x1.mi x1.mn) rfl (by kernel_rfl) (nlB rfl) (by kernel_rfl) (c29 x1.mi x1.mn) (by kernel_rfl) ?_
  intro w6 St
  replace ktp := St.has (by omega) ktp
  replace kg1 := St.has (by omega) kg1
  replace kg3 := St.has (by omega) kg3
  replace H := H.stT kg2 (by decide) (by decide) (by decide) (by decide) St
  replace GG := GG.store St bg2
  replace kg2 := St.new
  clear St
  refine jo rfl rfl 29 _ _ rfl g3 0 rfl (.agg (c29 x1.pi x1.pn)) rfl 29 _ kg3 (c29 x1.pi x1.pn) rfl (by kernel_rfl) (nlB rfl) (by kernel_rfl) (c29 x1.pi x1.pn) (by kernel_rfl) ?_
  intro w8 St
  replace ktp := St.has (by omega) ktp
  replace kg1 := St.has (by omega) kg1
  replace kg2 := St.has (by omega) kg2
  replace H := H.stT kg3 (by decide) (by decide) (by decide) (by decide) St
  replace GG := GG.store St bg3
  replace kg3 := St.new
  clear St
  refine wpList_nil (ja (wp_seq ?_))
  obtain ⟨M, eM⟩ : ∃ M, w8.heap.size = M := ⟨_, rfl⟩
  have hM := Nat.le_of_eq eM.symm
  have hBM : w0.heap.size ≤ M := eM ▸ GG.size
  have dtpM : tp < M := eM ▸ jm ktp
  have dg1M : g1 < M := eM ▸ jm kg1
  have dg2M : g2 < M := eM ▸ jm kg2
  have dg3M : g3 < M := eM ▸ jm kg3
  have n0M : ∀ k ∈ blk a0, k < M := fun k hk => eM ▸ H.l0.row.lt k hk
  have n1M : ∀ k ∈ blk a1, k < M := fun k hk => eM ▸ H.l1.row.lt k hk
  clear eM
  refine jJ (A := ?Ap1) (fun L x => Gro w0 x ∧ x.heap[tp]? = some (.cells (c83 (some ⟨q0, 0, none⟩) (some ⟨q1, 0, none⟩) ⟨a0, f0.length, c0⟩ ⟨a1, f1.length, c1⟩ ((n0 : Nat) : Int) ((n1 : Nat) : Int) ⟨b0, s0.length, e0⟩ ⟨b1, s1.length, e1⟩ ⟨d0, r0.length, k0⟩ ⟨d1, r1.length, k1⟩) 83 (0, 0)) ∧ x.heap[g1]? = some (.cells (c85 kd sd ix ⟨ao, l.length, cap⟩) 85 (0, 0)) ∧ x.heap[g2]? = some (.cells (c29 x1.mi x1.mn) 29 (0, 0)) ∧ x.heap[g3]? = some (.cells (c29 x1.pi x1.pn) 29 (0, 0)) ∧ Tk w0.heap.size x tp q0 q1 id0 id1 x0 (cond (L 8) (sendS x1 l).1 x1) n0 n1 a0 c0 f0 a1 c1 f1 b0 e0 s0 b1 e1 s1 d0 k0 r0 d1 k1 r1 ∧ M ≤ x.heap.size) 14 [(0, 89), (1, 90), (2, 91), (3, 92), (4, 93), (5, 94), (6, 95), (7, 96), (8, 97), (9, 88), (10, 98), (11, 99), (12, 9)] [.val (pK tp 0), .val (iK 1), .val (pK tp 0), .val (pK tp 0), .val (pK tp 1), .val (pK q1 0), .val (pK g1 3), .val (.slice ao l.length cap), sdE (sendS x1 l).2.1 (sendS x1 l).2.2, sdE (sendS x1 l).2.1 (sendS x1 l).2.2, feE (sendS x1 l).2.1, .val (iK (sendS x1 l).2.2), fbE M (sendS x1 l).2.1, .val undef] [] [8, 9, 10, 12] follows (by kernel_rfl) rfl (by kernel_rfl) (by decide) ⟨GG.drew, (Gro.refl _).drew.has ktp, (Gro.refl _).drew.has kg1, (Gro.refl _).drew.has kg2, (Gro.refl _).drew.has kg3, H.gro (Gro.refl _).drew, Nat.le_trans hM (Gro.refl _).drew.size⟩ ?hAp1 (ji (fun _ _ _ h _ G => ⟨h.1.trans G, G.has h.2.1, G.has h.2.2.1, G.has h.2.2.2.1, G.has h.2.2.2.2.1, h.2.2.2.2.2.1.gro G, Nat.le_trans h.2.2.2.2.2.2 G.size⟩) ?o0p1 (ji (fun _ _ _ h _ G => ⟨h.1.trans G, G.has h.2.1, G.has h.2.2.1, G.has h.2.2.2.1, G.has h.2.2.2.2.1, h.2.2.2.2.2.1.gro G, Nat.le_trans h.2.2.2.2.2.2 G.size⟩) ?o1p1 (ji (fun _ _ _ h _ G => ⟨h.1.trans G, G.has h.2.1, G.has h.2.2.1, G.has h.2.2.2.1, G.has h.2.2.2.2.1, h.2.2.2.2.2.1.gro G, Nat.le_trans h.2.2.2.2.2.2 G.size⟩) ?o2p1 (ji (fun _ _ _ h _ G => ⟨h.1.trans G, G.has h.2.1, G.has h.2.2.1, G.has h.2.2.2.1, G.has h.2.2.2.2.1, h.2.2.2.2.2.1.gro G, Nat.le_trans h.2.2.2.2.2.2 G.size⟩) ?o3p1 (ji (fun _ _ _ h _ G => ⟨h.1.trans G, G.has h.2.1, G.has h.2.2.1, G.has h.2.2.2.1, G.has h.2.2.2.2.1, h.2.2.2.2.2.1.gro G, Nat.le_trans h.2.2.2.2.2.2 G.size⟩) ?o4p1 (ji (fun _ _ _ h _ G => ⟨h.1.trans G, G.has h.2.1, G.has h.2.2.1, G.has h.2.2.2.1, G.has h.2.2.2.2.1, h.2.2.2.2.2.1.gro G, Nat.le_trans h.2.2.2.2.2.2 G.size⟩) ?o5p1 (ji (fun _ _ _ h _ G => ⟨h.1.trans G, G.has h.2.1, G.has h.2.2.1, G.has h.2.2.2.1, G.has h.2.2.2.2.1, h.2.2.2.2.2.1.gro G, Nat.le_trans h.2.2.2.2.2.2 G.size⟩) ?o6p1 (ji (fun _ _ _ h _ G => ⟨h.1.trans G, G.has h.2.1, G.has h.2.2.1, G.has h.2.2.2.1, G.has h.2.2.2.2.1, h.2.2.2.2.2.1.gro G, Nat.le_trans h.2.2.2.2.2.2 G.size⟩) ?o7p1 (jX ?o8p1 (ji (fun _ _ _ h _ G => ⟨h.1.trans G, G.has h.2.1, G.has h.2.2.1, G.has h.2.2.2.1, G.has h.2.2.2.2.1, h.2.2.2.2.2.1.gro G, Nat.le_trans h.2.2.2.2.2.2 G.size⟩) ?o9p1 (ji (fun _ _ _ h _ G => ⟨h.1.trans G, G.has h.2.1, G.has h.2.2.1, G.has h.2.2.2.1, G.has h.2.2.2.2.1, h.2.2.2.2.2.1.gro G, Nat.le_trans h.2.2.2.2.2.2 G.size⟩) ?o10p1 (ji (fun _ _ _ h _ G => ⟨h.1.trans G, G.has h.2.1, G.has h.2.2.1, G.has h.2.2.2.1, G.has h.2.2.2.2.1, h.2.2.2.2.2.1.gro G, Nat.le_trans h.2.2.2.2.2.2 G.size⟩) ?o11p1 (ji (fun _ _ _ h _ G => ⟨h.1.trans G, G.has h.2.1, G.has h.2.2.1, G.has h.2.2.2.1, G.has h.2.2.2.2.1, h.2.2.2.2.2.1.gro G, Nat.le_trans h.2.2.2.2.2.2 G.size⟩) ?o12p1 (jX ?o13p1 zc)))))))))))))) ?restp1
  case hAp1 =>
    intro ptrs
    simp only [full, foldSlots, filledE, postE, List.foldl_cons, List.foldl_nil, List.getD_cons_zero, List.getD_cons_succ, ju, vv, vx, vy,  List.set_cons_zero, List.set_cons_succ]
    exact rfl
  case o0p1 => exact fun _ _ _ _ _ _ _ _ => jj (v := pK tp 0) _ rfl rfl rfl
  case o1p1 => exact fun _ _ _ _ _ _ _ _ => jj (v := iK 1) _ rfl rfl rfl
  case o2p1 => exact fun _ _ x hx _ _ _ _ => jb (v := pK tp 0) rfl (jl _ rfl _ rfl)
  case o3p1 => exact fun _ _ x hx _ _ _ _ => jb (v := pK tp 0) rfl (jc 83 _ 0 rfl _ _ rfl _)
  case o4p1 => exact fun _ _ x hx _ _ _ _ => jb (v := pK tp 1) rfl (jS _ _ rfl tp 0 1 (by decide) rfl rfl _)
  case o5p1 => exact fun _ _ x hx _ _ _ _ => jb (v := pK q1 0) rfl (je 25 _ rfl tp 1 rfl 83 _ hx.2.1 (na25 _) _ rfl)
  case o6p1 => exact fun _ _ x hx _ _ _ _ => jb (v := pK g1 3) rfl (jc 85 _ 3 rfl _ _ rfl _)
  case o7p1 => exact fun _ _ x hx _ _ _ _ => jb (v := .slice ao l.length cap) rfl (je 36 _ rfl g1 3 rfl 85 _ hx.2.2.1 (na36 _) _ rfl)
  case o8p1 =>
    intro L ptrs x hx hL hed hno _
    have h2 := hx.2.2.2.2.2.1
    rw [hL] at h2
    obtain ⟨mu, tb, HM, hge, hnext⟩ := h2.end1 hx.1.size
    exact zw (sdE (sendS x1 l).2.1 (sendS x1 l).2.2) rfl _ 16 Try.call16 rfl rfl _ rfl [pK q1 0, .slice ao l.length cap] rfl ((uw _ q1 id1 x1 mu tb HM (by omega) (by omega) ao cap l (HN.gro hx.1) (fun ad ha h0 hm => by have h1 := HN.lt ad ha h0; have h2 := hge _ hm; omega)).mono fun e z ⟨f, mu', tb', he, HV, HX, G, F1, F2⟩ => ⟨_, he, ⟨⟨G.gro hx.1 hge, G.has hx.2.1 (HM.not hx.2.1 (by decide) (by decide) (by decide)), G.has hx.2.2.1 (HM.not hx.2.2.1 (by decide) (by decide) (by decide)), G.has hx.2.2.2.1 (HM.not hx.2.2.2.1 (by decide) (by decide) (by decide)), G.has hx.2.2.2.2.1 (HM.not hx.2.2.2.2.1 (by decide) (by decide) (by decide)), hnext _ _ _ _ HX G F1, Nat.le_trans hx.2.2.2.2.2.2 G.size⟩, StM.valsX [0, 1, 2, 3, 4, 5, 6, 7, 11, 13] [9, 10, 12] (by kernel_rfl) ⟨⟨_, rfl⟩, ⟨_, rfl⟩, ⟨_, rfl⟩, ⟨_, rfl⟩, ⟨_, rfl⟩, ⟨_, rfl⟩, ⟨_, rfl⟩, ⟨_, rfl⟩, ⟨_, rfl⟩, ⟨_, rfl⟩, trivial⟩ (fun j hj u hp => by (simp only [List.mem_cons, List.not_mem_nil, or_false] at hj; rcases hj with rfl | rfl | rfl; (obtain ⟨f, h1, h2⟩ := hp; exact ⟨f, h1, h2.no5 G HM.own⟩); (obtain ⟨f, h1, h2⟩ := hp; exact ⟨f, h1, h2.no5 G HM.own⟩); (obtain ⟨g, z, f, h1, h2, h3, h4, h5⟩ := hp; exact ⟨g, z, f, h1, h2, G.has h3 (HM.not h3 (by decide) (by decide) (by decide)), h4.no5 G HM.own, h5⟩)))⟩, f, rfl, HV⟩)
  case o9p1 =>
    intro L ptrs x hx hL hed hno hE
    exact yH _ _ rfl rfl rfl hE.1
  case o10p1 =>
    intro L ptrs x hx hL hed hno hE
    obtain ⟨⟨f, hv, hf⟩, _⟩ := hE
    exact za _ rfl (zP (a := .agg (frA f)) (b := iK (sendS x1 l).2.2) _ 0 rfl (by exact hv) (.agg (frA f)) rfl) (Gro.refl _) ⟨f, rfl, hf⟩
  case o11p1 =>
    intro L ptrs x hx hL hed hno hE
    obtain ⟨⟨f, hv, hf⟩, _⟩ := hE
    exact jb (v := iK (sendS x1 l).2.2) rfl (zP (a := .agg (frA f)) (b := iK (sendS x1 l).2.2) _ 1 rfl (by exact hv) _ rfl)
  case o12p1 =>
    intro L ptrs x hx hL hed hno hE
    exact za _ rfl (zJ 46 rfl _ zv46) (jR _ _) ⟨x.heap.size, PF.zero, pfr PF.zero Sl.nil Sl.nil Sl.nil Sl.nil, rfl, hx.2.2.2.2.2.2, heap_alloc_new _ _, FV.zero _, .inl rfl⟩
  case o13p1 =>
    intro L ptrs x hx hL hed hno hE
    obtain ⟨⟨g, z, f0x, hvg, hg, hk0, hz, _⟩, ⟨f, hvf, hf⟩, _⟩ := hE
    refine zb _ rfl 46 _ _ rfl g 0 hvg (.agg (frA f)) hvf 46 _ hk0 (frA f) rfl (by kernel_rfl) (nlB rfl) (by kernel_rfl) (frA f) (by kernel_rfl) fun y St => ?_
    have n5 := jv hk0 (by decide)
    have GS := (GroS.refl [g] x).st St (.inr (by simp))
    exact ⟨⟨⟨hx.1.store St (Nat.le_trans hBM hg), St.has (by omega) hx.2.1, St.has (by omega) hx.2.2.1, St.has (by omega) hx.2.2.2.1, St.has (by omega) hx.2.2.2.2.1, hx.2.2.2.2.2.1.gros (S := [g]) ((GroS.refl [g] _).st St (.inr (by simp))) (fun k hk => by cases List.mem_singleton.1 hk; exact ⟨_, _, hk0, by decide, by decide, by decide, fun _ => ⟨fun hm => by have := n0M _ hm; omega, fun hm => by have := n1M _ hm; omega⟩⟩), Nat.le_trans hx.2.2.2.2.2.2 (Nat.le_of_eq St.size.symm)⟩, StM.valsX [0, 1, 2, 3, 4, 5, 6, 7, 11] [8, 9, 10, 12] (by kernel_rfl) ⟨⟨_, rfl⟩, ⟨_, rfl⟩, ⟨_, rfl⟩, ⟨_, rfl⟩, ⟨_, rfl⟩, ⟨_, rfl⟩, ⟨_, rfl⟩, ⟨_, rfl⟩, ⟨_, rfl⟩, trivial⟩ (fun j hj u hp => by (simp only [List.mem_cons, List.not_mem_nil, or_false] at hj; rcases hj with rfl | rfl | rfl | rfl; (obtain ⟨f, h1, h2⟩ := hp; exact ⟨f, h1, h2.no5 GS n5⟩); (obtain ⟨f, h1, h2⟩ := hp; exact ⟨f, h1, h2.no5 GS n5⟩); (obtain ⟨f, h1, h2⟩ := hp; exact ⟨f, h1, h2.no5 GS n5⟩); (obtain ⟨g2, z2, f2, h1, h2, h3, h4, h5⟩ := hp; by_cases e : g2 = g; (subst e; exact ⟨g2, _, f, h1, h2, St.new, hf.no5 GS n5, .inr rfl⟩); exact ⟨g2, z2, f2, h1, h2, St.has e h3, h4.no5 GS n5, h5⟩)))⟩, rfl⟩
  intro ptrs w9 HJ hxE
  simp only [List.drop_succ_cons, List.drop_zero]
  clear GG ktp kg1 kg2 kg3 H hM
  obtain ⟨GG, ktp, kg1, kg2, kg3, H, hM⟩ := HJ
  replace H : Tk w0.heap.size w9 tp q0 q1 id0 id1 x0 (sendS x1 l).1 n0 n1 a0 c0 f0 a1 c1 f1 b0 e0 s0 b1 e1 s1 d0 k0 r0 d1 k1 r1 := H
  obtain ⟨_, _, _, ⟨gf, zf, ff, hv, hgf, kgf, HVf, hzf⟩, _⟩ := hxE
  simp only [hv]
  clear hv hM
  have n0gf : ∀ k ∈ blk a0, k < gf := fun k hk => Nat.lt_of_lt_of_le (n0M k hk) hgf
  have n1gf : ∀ k ∈ blk a1, k < gf := fun k hk => Nat.lt_of_lt_of_le (n1M k hk) hgf
  refine mv 10 (iK ((sendS x1 l).2.2)) ?_
  refine nr ?_; intro U h; simp only [z0, z1] at h; subst h
  refine wpList_nil (ja (wp_seq (wp_region_lit (mv 100 (iK ((sendS x1 l).2.2)) ?_))))
  refine nr ?_; intro U h; simp only [z0, z1] at h; subst h
  obtain ⟨p1, hp1⟩ : ∃ p, decide ((sendS x1 l).2.2 = 0) = p := ⟨_, rfl⟩
  refine sv 101 (.bool p1) (jg 53 .i64 _ _ _ rfl Try.underlying53 (sendS x1 l).2.2 0 rfl rfl p1 hp1 _) ?_
  refine nr ?_; intro U h; simp only [z0, z1] at h; subst h
  cases p1
  rw [yR (of_decide_eq_false hp1)] at H
  refine wpList_nil (ja (wp_cond_false rfl (wp_skip (jQ ?_))))
  refine jN (results_none Try.results30 _ _ _) rfl ?_
  exact ⟨rfl, GG, _, _, _, _, _, _, _, _, _, _, _, _, _, _, _, _, _, _, _, _, _, _, H, hI.mono⟩
  have hok := yQ (of_decide_eq_true hp1)
  refine wpList_nil (ja (wp_cond_true rfl (wp_seq ?_)))
  obtain ⟨M, eM⟩ : ∃ M, w9.heap.size = M := ⟨_, rfl⟩
  have hBM : w0.heap.size ≤ M := eM ▸ GG.size
  have n5 : No5 w9 (blk b1) := fun k hk => by obtain ⟨_, cur, hc⟩ := OY.at H.t1 k hk; exact ⟨_, _, hc, by decide⟩
  refine zd (A := ?Ag1) (blk b1) 18 [(0, 102), (1, 103), (2, 104), (3, 105), (4, 106), (5, 107), (6, 108), (7, 109), (8, 110), (9, 111), (10, 112), (11, 113), (12, 114), (13, 115), (14, 116), (15, 117), (16, 118), (17, 119)] [.val (pK tp 0), .val (iK 1), .val (pK tp 0), .val (iK 1), .val (pK tp 0), .val (pK tp 6), .val (pK tp 7), .val (.slice b1 s1.length e1), .val (.agg (c29 x1.mi x1.mn)), .val (.agg (c29 x1.pi x1.pn)), .val (pK g1 3), .val (.slice ao l.length cap), .val (.string (bas l)), .val (.agg (c88 x1.mi x1.mn x1.pi x1.pn (bas l))), bsE2 M (sEnt x1 l), asE w0.heap.size M b1 (s1 ++ [(sEnt x1 l)]), .val (pK tp 0), .val (pK tp 6)] 15 follows (by kernel_rfl) rfl (by decide) (fun j hj hne v a b _ hb hp => match j, hj, hne, hp with | 0, _, _, hp => hp | 1, _, _, hp => hp | 2, _, _, hp => hp | 3, _, _, hp => hp | 4, _, _, hp => hp | 5, _, _, hp => hp | 6, _, _, hp => hp | 7, _, _, hp => hp | 8, _, _, hp => hp | 9, _, _, hp => hp | 10, _, _, hp => hp | 11, _, _, hp => hp | 12, _, _, hp => hp | 13, _, _, hp => hp | 14, _, _, hp => Exists.elim hp fun g hp => ⟨g, hp.1, hp.2.1, hb.has hp.2.2 (zN H.t1 eM hp.2.1)⟩ | 15, _, hne, _ => absurd rfl hne | 16, _, _, hp => hp | 17, _, _, hp => hp | m + 18, hj, _, _ => absurd hj (by omega)) ?hAg1 (jp (by decide) ?o0g1 (jp (by decide) ?o1g1 (jp (by decide) ?o2g1 (jp (by decide) ?o3g1 (jp (by decide) ?o4g1 (jp (by decide) ?o5g1 (jp (by decide) ?o6g1 (jp (by decide) ?o7g1 (jp (by decide) ?o8g1 (jp (by decide) ?o9g1 (jp (by decide) ?o10g1 (jp (by decide) ?o11g1 (jp (by decide) ?o12g1 (jp (by decide) ?o13g1 (jp (by decide) ?o14g1 (zW ?o15g1 (jp (by decide) ?o16g1 (jp (by decide) ?o17g1 zy)))))))))))))))))) ?restg1
  case hAg1 =>
    intro ptrs
    simp only [full, foldSlots, filledE, postE, List.foldl_cons, List.foldl_nil, List.getD_cons_zero, List.getD_cons_succ, ju, zQ, yc,  List.set_cons_zero, List.set_cons_succ]
    exact rfl
  case o0g1 => exact fun _ _ _ _ => jj (v := pK tp 0) _ rfl rfl rfl
  case o1g1 => exact fun _ _ _ _ => jj (v := iK 1) _ rfl rfl rfl
  case o2g1 => exact fun _ _ _ _ => jj (v := pK tp 0) _ rfl rfl rfl
  case o3g1 => exact fun _ _ _ _ => jj (v := iK 1) _ rfl rfl rfl
  case o4g1 => exact fun _ _ hw _ => jb (v := pK tp 0) rfl (jl _ rfl _ rfl)
  case o5g1 => exact fun _ _ hw _ => jb (v := pK tp 6) rfl (jc 83 _ 3 rfl _ _ rfl _)
  case o6g1 => exact fun _ _ hw _ => jb (v := pK tp 7) rfl (jY _ _ rfl tp 6 1 (by decide) rfl rfl _)
  case o7g1 => exact fun _ _ hw _ => jb (v := .slice b1 s1.length e1) rfl (je 80 _ rfl tp 7 rfl 83 _ (hw.has ktp (OY.ne H.t1 ktp (by decide))) (na80 _) _ rfl)
  case o8g1 => exact fun _ _ hw _ => jb (v := .agg (c29 x1.mi x1.mn)) rfl (jk 29 _ rfl g2 0 2 rfl 29 _ (hw.has kg2 (OY.ne H.t1 kg2 (by decide))) _ Try.underlying29 rfl si29 _)
  case o9g1 => exact fun _ _ hw _ => jb (v := .agg (c29 x1.pi x1.pn)) rfl (jk 29 _ rfl g3 0 2 rfl 29 _ (hw.has kg3 (OY.ne H.t1 kg3 (by decide))) _ Try.underlying29 rfl si29 _)
  case o10g1 => exact fun _ _ hw _ => jb (v := pK g1 3) rfl (jc 85 _ 3 rfl _ _ rfl _)
  case o11g1 => exact fun _ _ hw _ => jb (v := .slice ao l.length cap) rfl (je 36 _ rfl g1 3 rfl 85 _ (hw.has kg1 (OY.ne H.t1 kg1 (by decide))) (na36 _) _ rfl)
  case o12g1 => exact fun _ _ hw _ => jb (v := .string (bas l)) rfl (zr bT 9 Try.underlying9 _ rfl rfl (HN.gro (hw.gro GG.drew (OY.base H.t1))))
  case o13g1 => exact fun _ _ hw _ => jb (v := .agg (c88 x1.mi x1.mn x1.pi x1.pn (bas l))) rfl (jA 88 _ rfl [(0, .agg (c29 x1.mi x1.mn)), (1, .agg (c29 x1.pi x1.pn)), (2, .string (bas l))] rfl _ (by kernel_rfl))
  case o14g1 =>
    intro ptrs x hw hE
    exact za _ rfl (zp 80 1 _ rfl [(0, .agg (c88 x1.mi x1.mn x1.pi x1.pn (bas l)))] rfl (by kernel_rfl)) (jR _ _) ⟨x.heap.size, rfl, Nat.le_trans (Nat.le_of_eq eM.symm) hw.size, heap_alloc_new _ _⟩
  case o15g1 =>
    intro ptrs x hw hE
    exact yw (v := ptrs 14) _ _ rfl rfl H.t1 eM hBM (by omega) ((Gro.refl _).drew.trans hw) rfl rfl hE.1
  case o16g1 => exact fun _ _ hw _ => jb (v := pK tp 0) rfl (jl _ rfl _ rfl)
  case o17g1 => exact fun _ _ hw _ => jb (v := pK tp 6) rfl (jc 83 _ 3 rfl _ _ rfl _)
  intro ptrs w10 GS hxE
  simp only [List.drop_succ_cons, List.drop_zero]
  obtain ⟨_, ⟨a4, c4, hv, HR4, K⟩, _⟩ := hxE
  simp only [hv]
  clear hv
  have GS2 := ((GroS.refl (blk b1) w9).drew.trans GS)
  clear GS
  subst eM
  replace ktp := GS2.has ktp (OY.ne H.t1 ktp (by decide))
  replace kg1 := GS2.has kg1 (OY.ne H.t1 kg1 (by decide))
  replace kg2 := GS2.has kg2 (OY.ne H.t1 kg2 (by decide))
  replace kg3 := GS2.has kg3 (OY.ne H.t1 kg3 (by decide))
  replace kgf := GS2.has kgf (OY.ne H.t1 kgf (by decide))
  replace HVf := HVf.no5 GS2 n5
  replace GG := GS2.gro GG (OY.base H.t1)
  refine sv 120 (pK tp 7) (jY _ _ rfl tp 6 1 (by decide) rfl rfl _) ?_
  refine jo rfl rfl 80 _ _ rfl tp 7 rfl (.slice a4 ((s1 ++ [(sEnt x1 l)]).length) c4) rfl 83 _ ktp #[.slice a4 ((s1 ++ [(sEnt x1 l)]).length) c4] rfl (by kernel_rfl) (nlB rfl) (by kernel_rfl) (c83 (some ⟨q0, 0, none⟩) (some ⟨q1, 0, none⟩) ⟨a0, f0.length, c0⟩ ⟨a1, f1.length, c1⟩ ((n0 : Nat) : Int) ((n1 : Nat) : Int) ⟨b0, s0.length, e0⟩ ⟨a4, (s1 ++ [(sEnt x1 l)]).length, c4⟩ ⟨d0, r0.length, k0⟩ ⟨d1, r1.length, k1⟩) (by kernel_rfl) ?_
  intro w12 St
  replace kg1 := St.has (jy kg1 ktp (by decide)) kg1
  replace kg2 := St.has (jy kg2 ktp (by decide)) kg2
  replace kg3 := St.has (jy kg3 ktp (by decide)) kg3
  replace kgf := St.has (jy kgf ktp (by decide)) kgf
  replace HVf := HVf.no5 ((GroS.refl [tp] _).st St (.inr (by simp))) (jv ktp (by decide))
  replace GG := GG.store St H.base
  replace H := H.putb1 GS2 K HR4 St
  clear St ktp GS2 K HR4
  have ktp := H.box
  refine wpList_nil (ja (wp_region_lit (mv 121 (pK tp 0) (mv 122 (iK 1) ?_))))
  refine nr ?_; intro U h; simp only [z0, z1] at h; subst h
  refine sv 123 (.agg (frA ff)) (jk 46 _ rfl gf 0 95 rfl 46 _ kgf _ Try.underlying46 rfl si46 _) ?_
  refine zR 124 rfl rfl 50 1 _ rfl [(0, .agg (frA ff))] rfl (frA ff) 46 (by kernel_rfl) ?_
  intro w13 g4 G eg4 kg4
  have bg4 := jh GG eg4
  have n0g4 : ∀ k ∈ blk a0, k < g4 := fun k hk => eg4 ▸ H.l0.row.lt k hk
  have n1g4 : ∀ k ∈ blk a1, k < g4 := fun k hk => eg4 ▸ H.l1.row.lt k hk
  have dtpg4 := jf ktp eg4
  have dg1g4 := jf kg1 eg4
  have dg2g4 := jf kg2 eg4
  have dg3g4 := jf kg3 eg4
  have dgfg4 := jf kgf eg4
  replace ktp := G.has ktp
  replace kg1 := G.has kg1
  replace kg2 := G.has kg2
  replace kg3 := G.has kg3
  replace kgf := G.has kgf
  replace H := H.gro G
  replace HVf := HVf.gro G
  replace GG := GG.trans G
  clear G eg4
  refine nr ?_; intro U h; simp only [z0, z1] at h; subst h
  have HLl : LF _ 0 (some ⟨g4, 0, none⟩) 1 (oneF zf ff) := LF.one kg4 (Nat.zero_le _) HVf
  rw [hok.2.2.1] at H
  refine jt 125 rfl rfl _ 32 Try.call32 rfl rfl _ rfl [pK tp 0, iK 1, .slice (some ⟨g4, 0, none⟩) ((oneF zf ff).length) 1] rfl (say1 w0 _ GG _ _ _ _ _ _ _ _ _ _ _ _ _ _ _ _ _ _ _ _ _ _ _ _ _ _ _ H (some ⟨g4, 0, none⟩) 1 (oneF zf ff) HLl (nlB rfl) hflj (.inl (nlB rfl))) (fun _ _ ⟨he, _⟩ => ⟨_, he⟩) ?_
  rintro v w14 ⟨he, GG2, a2, c2, f2, H2, hfl2, hmem2⟩
  cases he
  clear GG H
  have GG := GG2
  have H := H2
  clear GG2 H2
  refine wpList_nil (jQ ?_)
  refine jN (results_none Try.results30 _ _ _) rfl ?_
  exact ⟨rfl, GG, _, _, _, _, _, _, _, _, _, _, _, _, _, _, _, _, _, _, _, _, _, _, H, ((hI.swap).send l hok.1 hok.2.1 hfl2 (fun y hy => (hmem2 y hy).imp (fun h => h) fun h => by cases List.mem_singleton.1 h; rw [hok.2.2.2] at hzf; rcases hzf with rfl | rfl <;> simp)).swap⟩
theorem play1k3h (w0 w : World) (G0 : Gro w0 w) (tp : Nat) (q0 : Nat) (q1 : Nat) (id0 : Nat → Nat) (id1 : Nat → Nat) (x0 : ES) (x1 : ES) (n0 : Nat) (n1 : Nat) (a0 : Option Addr) (c0 : Nat) (f0 : List (PF × Fr)) (a1 : Option Addr) (c1 : Nat) (f1 : List (PF × Fr)) (b0 : Option Addr) (e0 : Nat) (s0 : List SE) (b1 : Option Addr) (e1 : Nat) (s1 : List SE) (d0 : Option Addr) (k0 : Nat) (r0 : List SE) (d1 : Option Addr) (k1 : Nat) (r1 : List SE) (H : Tk w0.heap.size w tp q0 q1 id0 id1 x0 x1 n0 n1 a0 c0 f0 a1 c1 f1 b0 e0 s0 b1 e1 s1 d0 k0 r0 d1 k1 r1) (N : Nat) (hI : Inv N n0 x0 f0 s0 r0 n1 x1 f1 s1 r1) (hN : N ≤ 900) (kd sd ix : Int) (ao : Option Addr) (cap : Nat) (l : List Nat) (HN : NC w0 .u8 ao cap l) (hsd : uN sd % 2 = 1) (hkd : kd = 3) (hpos : 0 < f1.length) : Calls Try.prog 30 #[pK tp 0, .agg (c85 kd sd ix ⟨ao, l.length, cap⟩)] w fun e w' => e = .returned (.tuple #[]) ∧ Gro w0 w' ∧ TkI w0.heap.size w' tp q0 q1 id0 id1 (N + 1) := by
  refine jq Try.func30 rfl Try.ntmps30 [pK tp 0, .agg (c85 kd sd ix ⟨ao, l.length, cap⟩)] ?_
  intro U h; simp only [List.length_cons, List.length_nil, List.cons_append, List.nil_append, Nat.reduceAdd, Nat.reduceSub, List.reduceReplicate] at h; subst h
  have GG := Gro.refl w
  replace GG := G0
  have ktp := H.box
  have hfli := hI.b.fl
  have hflj := hI.a.fl
  have hbk := hI.b.bd.k
  have hbc := hI.b.bd.c
  have hbn := hI.b.n
  have hls := hI.b.ls
  have hlg := hI.b.lg
  refine wp_seq (wp_region_lit ?_)
  refine jE 3 rfl rfl 85 _ rfl _ rfl (c85 kd sd ix ⟨ao, l.length, cap⟩) rfl ?_
  intro w1 g1 G eg1 kg1
  have bg1 := jh GG eg1
  have dtpg1 := jf ktp eg1
  replace ktp := G.has ktp
  replace H := H.gro G
  replace GG := GG.trans G
  clear G eg1
  refine wpList_nil (ja (wp_seq (wp_region_lit (sv 11 (pK g1 1) (jc 85 _ 1 rfl _ _ rfl _) (sv 12 (iK sd) (je 3 _ rfl g1 1 rfl 85 _ kg1 (na3 _) _ rfl) ?_)))))
  refine nr ?_; intro U h; simp only [z0, z1] at h; subst h
  refine sv 13 (.int .u64 ((uN sd : Nat) : Int)) (conv345 _ rfl sd rfl _) (sv 14 (.int .u64 ((uN sd % 2 : Nat) : Int)) (jH 119 _ _ _ rfl (uN sd) 2 rfl rfl (by decide) _) (sv 15 (iK 1) (conv453 _ rfl 1 (by decide) (by exact congrArg (fun n : Nat => Value.int .u64 (n : Int)) hsd) _) ?_))
  refine nr ?_; intro U h; simp only [z0, z1] at h; subst h
  refine mv 4 (iK 1) (wpList_nil (ja (wp_seq (wp_region_lit (mv 5 (iK (-1)) (wpList_nil (ja (wp_seq (wp_seq (wp_region_lit (mv 16 (pK tp 0) ?_)))))))))))
  refine nr ?_; intro U h; simp only [z0, z1] at h; subst h
  refine mv 17 (iK 1) (sv 18 (pK tp 0) (jl _ rfl _ rfl) (sv 19 (pK tp 2) (jc 83 _ 1 rfl _ _ rfl _) ?_))
  refine nr ?_; intro U h; simp only [z0, z1] at h; subst h
  refine sv 20 (pK tp 3) (jB _ _ rfl tp 2 1 (by decide) rfl rfl _) (sv 21 (.slice a1 f1.length c1) (je 50 _ rfl tp 3 rfl 83 _ ktp (na50 _) _ rfl) (sv 22 (iK ((f1.length : Nat) : Int)) (jG Try.underlying50 _ rfl _ _ _ rfl _) ?_))
  refine nr ?_; intro U h; simp only [z0, z1] at h; subst h
  refine mv 6 (iK ((f1.length : Nat) : Int)) (wpList_nil (ja (wp_seq (wp_region_lit (mv 23 (iK ((f1.length : Nat) : Int)) (sv 24 (vTr) (jD 3 _ _ _ rfl ((f1.length : Nat) : Int) 0 rfl rfl true (decide_eq_true (by omega)) _) ?_))))))
  refine nr ?_; intro U h; simp only [z0, z1] at h; subst h
  refine wpList_nil (ja (wp_cond_true rfl (wp_region_lit (sv 25 (pK g1 2) (jc 85 _ 2 rfl _ _ rfl _) (sv 26 (iK ix) (je 3 _ rfl g1 2 rfl 85 _ kg1 (na3 _) _ rfl) (sv 27 (.int .u64 ((uN ix : Nat) : Int)) (conv345 _ rfl ix rfl _) ?_))))))
  refine nr ?_; intro U h; simp only [z0, z1] at h; subst h
  refine mv 28 (iK ((f1.length : Nat) : Int)) (sv 29 (.int .u64 ((f1.length : Nat) : Int)) (conv345N _ rfl f1.length (by omega) rfl _) (sv 30 (.int .u64 ((uN ix % f1.length : Nat) : Int)) (jH 119 _ _ _ rfl (uN ix) f1.length rfl rfl (by omega) _) ?_))
  refine nr ?_; intro U h; simp only [z0, z1] at h; subst h
  obtain ⟨m, hm⟩ : ∃ m, uN ix % f1.length = m := ⟨_, rfl⟩
  have hmi : m < f1.length := hm ▸ Nat.mod_lt _ hpos
  refine sv 31 (iK ((m : Nat) : Int)) (conv453 _ rfl m (by omega) (by exact congrArg (fun n : Nat => Value.int .u64 (n : Int)) hm) _) (mv 5 (iK ((m : Nat) : Int)) (wpList_nil (ja (wp_seq (wp_region_lit (sv 32 (pK g1 0) (jc 85 _ 0 rfl _ _ rfl _) ?_))))))
  refine nr ?_; intro U h; simp only [z0, z1] at h; subst h
  refine sv 33 (iK kd) (je 3 _ rfl g1 0 rfl 85 _ kg1 (na3 _) _ rfl) (wpList_nil (ja (wp_block (wp_seq (wp_region_lit (sv 51 (vFa) (jg 3 .i64 _ _ _ rfl Try.underlying3 kd 0 rfl rfl false (decide_eq_false (by omega)) _) (mv 50 (vFa) ?_)))))))
  refine nr ?_; intro U h; simp only [z0, z1] at h; subst h
  refine wpList_nil (ja (wp_cond_false rfl (wp_seq (wp_region_lit (sv 56 (vFa) (jg 3 .i64 _ _ _ rfl Try.underlying3 kd 1 rfl rfl false (decide_eq_false (by omega)) _) (mv 55 (vFa) (wpList_nil (ja (wp_cond_false rfl (wp_seq (wp_region_lit (sv 65 (vFa) (jg 3 .i64 _ _ _ rfl Try.underlying3 kd 2 rfl rfl false (decide_eq_false (by omega)) _) ?_))))))))))))
  refine nr ?_; intro U h; simp only [z0, z1] at h; subst h
  refine mv 64 (vFa) (wpList_nil (ja (wp_cond_false rfl (wp_seq (wp_region_lit (sv 77 (vTr) (jg 3 .i64 _ _ _ rfl Try.underlying3 kd 3 rfl rfl true (decide_eq_true hkd) _) (mv 76 (vTr) ?_)))))))
  refine nr ?_; intro U h; simp only [z0, z1] at h; subst h
  refine wpList_nil (ja (wp_cond_true rfl (wp_seq (wp_region_lit (mv 79 (pK tp 0) (mv 80 (iK 1) (sv 81 (pK tp 0) (jl _ rfl _ rfl) ?_)))))))
  refine nr ?_; intro U h; simp only [z0, z1] at h; subst h
  refine sv 82 (pK tp 0) (jc 83 _ 0 rfl _ _ rfl _) (sv 83 (pK tp 1) (jS _ _ rfl tp 0 1 (by decide) rfl rfl _) (sv 84 (pK q1 0) (je 25 _ rfl tp 1 rfl 83 _ ktp (na25 _) _ rfl) ?_))
  refine nr ?_; intro U h; simp only [z0, z1] at h; subst h
  obtain ⟨mu, tb, HM, hge, hnext⟩ := H.end1 GG.size
  refine jC 85 rfl rfl _ 23 Try.call23 rfl rfl _ rfl [pK q1 0] rfl (yx _ _ _ _ _ _ HM) ?_
  intro w2 G
  replace ktp := G.has ktp
  replace kg1 := G.has kg1
  replace H := H.gro G
  replace GG := GG.trans G
  clear G
  refine nr ?_; intro U h; simp only [z0, z1] at h; subst h
  clear HM hge hnext
  refine mv 78 (.tuple #[.agg (c29 x1.mi x1.mn), .agg (c29 x1.pi x1.pn)]) (mv 86 (.agg (c29 x1.mi x1.mn)) (mv 87 (.agg (c29 x1.pi x1.pn)) ?_))
  refine nr ?_; intro U h; simp only [z0, z1] at h; subst h
  refine js 7 rfl rfl 29 rfl _ zv29 _ rfl ?_
  intro w3 g2 G eg2 kg2
  have bg2 := jh GG eg2
  have dtpg2 := jf ktp eg2
  have dg1g2 := jf kg1 eg2
  replace ktp := G.has ktp
  replace kg1 := G.has kg1
  replace H := H.gro G
  replace GG := GG.trans G
  clear G eg2
  refine js 8 rfl rfl 29 rfl _ zv29 _ rfl ?_
  intro w4 g3 G eg3 kg3
  have bg3 := jh GG eg3
  have dtpg3 := jf ktp eg3
  have dg1g3 := jf kg1 eg3
  have dg2g3 := jf kg2 eg3
  replace ktp := G.has ktp
  replace kg1 := G.has kg1
  replace kg2 := G.has kg2
  replace H := H.gro G
  replace GG := GG.trans G
  clear G eg3
  refine jo rfl rfl 29 _ _ rfl g2 0 rfl (.agg (c29 x1.mi x1.mn)) rfl 29 _ kg2 (c29 x1.mi x1.mn) rfl (by kernel_rfl) (nlB rfl) (by kernel_rfl) (c29 x1.mi x1.mn) (by kernel_rfl) ?_
  intro w6 St
  replace ktp := St.has (by omega) ktp
  replace kg1 := St.has (by omega) kg1
  replace kg3 := St.has (by omega) kg3
  replace H := H.stT kg2 (by decide) (by decide) (by decide) (by decide) St
  replace GG := GG.store St bg2
  replace kg2 := St.new
  clear St
  refine jo rfl rfl 29 _ _ rfl g3 0 rfl (.agg (c29 x1.pi x1.pn)) rfl 29 _ kg3 (c29 x1.pi x1.pn) rfl (by kernel_rfl) (nlB rfl) (by kernel_rfl) (c29 x1.pi x1.pn) (by kernel_rfl) ?_
  intro w8 St
  replace ktp := St.has (by omega) ktp
  replace kg1 := St.has (by omega) kg1
  replace kg2 := St.has (by omega) kg2
  replace H := H.stT kg3 (by decide) (by decide) (by decide) (by decide) St
  replace GG := GG.store St bg3
  replace kg3 := St.new
  clear St
  refine wpList_nil (ja (wp_seq ?_))
  obtain ⟨M, eM⟩ : ∃ M, w8.heap.size = M := ⟨_, rfl⟩
  have hM := Nat.le_of_eq eM.symm
  have hBM : w0.heap.size ≤ M := eM ▸ GG.size
  have dtpM : tp < M := eM ▸ jm ktp
  have dg1M : g1 < M := eM ▸ jm kg1
  have dg2M : g2 < M := eM ▸ jm kg2
  have dg3M : g3 < M := eM ▸ jm kg3
  have n0M : ∀ k ∈ blk a0, k < M := fun k hk => eM ▸ H.l0.row.lt k hk
  have n1M : ∀ k ∈ blk a1, k < M := fun k hk => eM ▸ H.l1.row.lt k hk
  clear eM
  refine jJ (A := ?Ap2) (fun L x => Gro w0 x ∧ x.heap[tp]? = some (.cells (c83 (some ⟨q0, 0, none⟩) (some ⟨q1, 0, none⟩) ⟨a0, f0.length, c0⟩ ⟨a1, f1.length, c1⟩ ((n0 : Nat) : Int) ((n1 : Nat) : Int) ⟨b0, s0.length, e0⟩ ⟨b1, s1.length, e1⟩ ⟨d0, r0.length, k0⟩ ⟨d1, r1.length, k1⟩) 83 (0, 0)) ∧ x.heap[g1]? = some (.cells (c85 kd sd ix ⟨ao, l.length, cap⟩) 85 (0, 0)) ∧ x.heap[g2]? = some (.cells (c29 x1.mi x1.mn) 29 (0, 0)) ∧ x.heap[g3]? = some (.cells (c29 x1.pi x1.pn) 29 (0, 0)) ∧ Tk w0.heap.size x tp q0 q1 id0 id1 x0 (cond (L 8) (sendS x1 l).1 x1) n0 n1 a0 c0 f0 a1 c1 f1 b0 e0 s0 b1 e1 s1 d0 k0 r0 d1 k1 r1 ∧ M ≤ x.heap.size) 14 [(0, 89), (1, 90), (2, 91), (3, 92), (4, 93), (5, 94), (6, 95), (7, 96), (8, 97), (9, 88), (10, 98), (11, 99), (12, 9)] [.val (pK tp 0), .val (iK 1), .val (pK tp 0), .val (pK tp 0), .val (pK tp 1), .val (pK q1 0), .val (pK g1 3), .val (.slice ao l.length cap), sdE (sendS x1 l).2.1 (sendS x1 l).2.2, sdE (sendS x1 l).2.1 (sendS x1 l).2.2, feE (sendS x1 l).2.1, .val (iK (sendS x1 l).2.2), fbE M (sendS x1 l).2.1, .val undef] [] [8, 9, 10, 12] follows (by kernel_rfl) rfl (by kernel_rfl) (by decide) ⟨GG.drew, (Gro.refl _).drew.has ktp, (Gro.refl _).drew.has kg1, (Gro.refl _).drew.has kg2, (Gro.refl _).drew.has kg3, H.gro (Gro.refl _).drew, Nat.le_trans hM (Gro.refl _).drew.size⟩ ?hAp2 (ji (fun _ _ _ h _ G => ⟨h.1.trans G, G.has h.2.1, G.has h.2.2.1, G.has h.2.2.2.1, G.has h.2.2.2.2.1, h.2.2.2.2.2.1.gro G, Nat.le_trans h.2.2.2.2.2.2 G.size⟩) ?o0p2 (ji (fun _ _ _ h _ G => ⟨h.1.trans G, G.has h.2.1, G.has h.2.2.1, G.has h.2.2.2.1, G.has h.2.2.2.2.1, h.2.2.2.2.2.1.gro G, Nat.le_trans h.2.2.2.2.2.2 G.size⟩) ?o1p2 (ji (fun _ _ _ h _ G => ⟨h.1.trans G, G.has h.2.1, G.has h.2.2.1, G.has h.2.2.2.1, G.has h.2.2.2.2.1, h.2.2.2.2.2.1.gro G, Nat.le_trans h.2.2.2.2.2.2 G.size⟩) ?o2p2 (ji (fun _ _ _ h _ G => ⟨h.1.trans G, G.has h.2.1, G.has h.2.2.1, G.has h.2.2.2.1, G.has h.2.2.2.2.1, h.2.2.2.2.2.1.gro G, Nat.le_trans h.2.2.2.2.2.2 G.size⟩) ?o3p2 (ji (fun _ _ _ h _ G => ⟨h.1.trans G, G.has h.2.1, G.has h.2.2.1, G.has h.2.2.2.1, G.has h.2.2.2.2.1, h.2.2.2.2.2.1.gro G, Nat.le_trans h.2.2.2.2.2.2 G.size⟩) ?o4p2 (ji (fun _ _ _ h _ G => ⟨h.1.trans G, G.has h.2.1, G.has h.2.2.1, G.has h.2.2.2.1, G.has h.2.2.2.2.1, h.2.2.2.2.2.1.gro G, Nat.le_trans h.2.2.2.2.2.2 G.size⟩) ?o5p2 (ji (fun _ _ _ h _ G => ⟨h.1.trans G, G.has h.2.1, G.has h.2.2.1, G.has h.2.2.2.1, G.has h.2.2.2.2.1, h.2.2.2.2.2.1.gro G, Nat.le_trans h.2.2.2.2.2.2 G.size⟩) ?o6p2 (ji (fun _ _ _ h _ G => ⟨h.1.trans G, G.has h.2.1, G.has h.2.2.1, G.has h.2.2.2.1, G.has h.2.2.2.2.1, h.2.2.2.2.2.1.gro G, Nat.le_trans h.2.2.2.2.2.2 G.size⟩) ?o7p2 (jX ?o8p2 (ji (fun _ _ _ h _ G => ⟨h.1.trans G, G.has h.2.1, G.has h.2.2.1, G.has h.2.2.2.1, G.has h.2.2.2.2.1, h.2.2.2.2.2.1.gro G, Nat.le_trans h.2.2.2.2.2.2 G.size⟩) ?o9p2 (ji (fun _ _ _ h _ G => ⟨h.1.trans G, G.has h.2.1, G.has h.2.2.1, G.has h.2.2.2.1, G.has h.2.2.2.2.1, h.2.2.2.2.2.1.gro G, Nat.le_trans h.2.2.2.2.2.2 G.size⟩) ?o10p2 (ji (fun _ _ _ h _ G => ⟨h.1.trans G, G.has h.2.1, G.has h.2.2.1, G.has h.2.2.2.1, G.has h.2.2.2.2.1, h.2.2.2.2.2.1.gro G, Nat.le_trans h.2.2.2.2.2.2 G.size⟩) ?o11p2 (ji (fun _ _ _ h _ G => ⟨h.1.trans G, G.has h.2.1, G.has h.2.2.1, G.has h.2.2.2.1, G.has h.2.2.2.2.1, h.2.2.2.2.2.1.gro G, Nat.le_trans h.2.2.2.2.2.2 G.size⟩) ?o12p2 (jX ?o13p2 zc)))))))))))))) ?restp2
  case hAp2 =>
    intro ptrs
    simp only [full, foldSlots, filledE, postE, List.foldl_cons, List.foldl_nil, List.getD_cons_zero, List.getD_cons_succ, ju, vv, vx, vy,  List.set_cons_zero, List.set_cons_succ]
    exact rfl
  case o0p2 => exact fun _ _ _ _ _ _ _ _ => jj (v := pK tp 0) _ rfl rfl rfl
  case o1p2 => exact fun _ _ _ _ _ _ _ _ => jj (v := iK 1) _ rfl rfl rfl
  case o2p2 => exact fun _ _ x hx _ _ _ _ => jb (v := pK tp 0) rfl (jl _ rfl _ rfl)
  case o3p2 => exact fun _ _ x hx _ _ _ _ => jb (v := pK tp 0) rfl (jc 83 _ 0 rfl _ _ rfl _)
  case o4p2 => exact fun _ _ x hx _ _ _ _ => jb (v := pK tp 1) rfl (jS _ _ rfl tp 0 1 (by decide) rfl rfl _)
  case o5p2 => exact fun _ _ x hx _ _ _ _ => jb (v := pK q1 0) rfl (je 25 _ rfl tp 1 rfl 83 _ hx.2.1 (na25 _) _ rfl)
  case o6p2 => exact fun _ _ x hx _ _ _ _ => jb (v := pK g1 3) rfl (jc 85 _ 3 rfl _ _ rfl _)
  case o7p2 => exact fun _ _ x hx _ _ _ _ => jb (v := .slice ao l.length cap) rfl (je 36 _ rfl g1 3 rfl 85 _ hx.2.2.1 (na36 _) _ rfl)
  case o8p2 =>
    intro L ptrs x hx hL hed hno _
    have h2 := hx.2.2.2.2.2.1
    rw [hL] at h2
    obtain ⟨mu, tb, HM, hge, hnext⟩ := h2.end1 hx.1.size
    exact zw (sdE (sendS x1 l).2.1 (sendS x1 l).2.2) rfl _ 16 Try.call16 rfl rfl _ rfl [pK q1 0, .slice ao l.length cap] rfl ((uw _ q1 id1 x1 mu tb HM (by omega) (by omega) ao cap l (HN.gro hx.1) (fun ad ha h0 hm => by have h1 := HN.lt ad ha h0; have h2 := hge _ hm; omega)).mono fun e z ⟨f, mu', tb', he, HV, HX, G, F1, F2⟩ => ⟨_, he, ⟨⟨G.gro hx.1 hge, G.has hx.2.1 (HM.not hx.2.1 (by decide) (by decide) (by decide)), G.has hx.2.2.1 (HM.not hx.2.2.1 (by decide) (by decide) (by decide)), G.has hx.2.2.2.1 (HM.not hx.2.2.2.1 (by decide) (by decide) (by decide)), G.has hx.2.2.2.2.1 (HM.not hx.2.2.2.2.1 (by decide) (by decide) (by decide)), hnext _ _ _ _ HX G F1, Nat.le_trans hx.2.2.2.2.2.2 G.size⟩, StM.valsX [0, 1, 2, 3, 4, 5, 6, 7, 11, 13] [9, 10, 12] (by kernel_rfl) ⟨⟨_, rfl⟩, ⟨_, rfl⟩, ⟨_, rfl⟩, ⟨_, rfl⟩, ⟨_, rfl⟩, ⟨_, rfl⟩, ⟨_, rfl⟩, ⟨_, rfl⟩, ⟨_, rfl⟩, ⟨_, rfl⟩, trivial⟩ (fun j hj u hp => by (simp only [List.mem_cons, List.not_mem_nil, or_false] at hj; rcases hj with rfl | rfl | rfl; (obtain ⟨f, h1, h2⟩ := hp; exact ⟨f, h1, h2.no5 G HM.own⟩); (obtain ⟨f, h1, h2⟩ := hp; exact ⟨f, h1, h2.no5 G HM.own⟩); (obtain ⟨g, z, f, h1, h2, h3, h4, h5⟩ := hp; exact ⟨g, z, f, h1, h2, G.has h3 (HM.not h3 (by decide) (by decide) (by decide)), h4.no5 G HM.own, h5⟩)))⟩, f, rfl, HV⟩)
  case o9p2 =>
    intro L ptrs x hx hL hed hno hE
    exact yH _ _ rfl rfl rfl hE.1
  case o10p2 =>
    intro L ptrs x hx hL hed hno hE
    obtain ⟨⟨f, hv, hf⟩, _⟩ := hE
    exact za _ rfl (zP (a := .agg (frA f)) (b := iK (sendS x1 l).2.2) _ 0 rfl (by exact hv) (.agg (frA f)) rfl) (Gro.refl _) ⟨f, rfl, hf⟩
  case o11p2 =>
    intro L ptrs x hx hL hed hno hE
    obtain ⟨⟨f, hv, hf⟩, _⟩ := hE
    exact jb (v := iK (sendS x1 l).2.2) rfl (zP (a := .agg (frA f)) (b := iK (sendS x1 l).2.2) _ 1 rfl (by exact hv) _ rfl)
  case o12p2 =>
    intro L ptrs x hx hL hed hno hE
    exact za _ rfl (zJ 46 rfl _ zv46) (jR _ _) ⟨x.heap.size, PF.zero, pfr PF.zero Sl.nil Sl.nil Sl.nil Sl.nil, rfl, hx.2.2.2.2.2.2, heap_alloc_new _ _, FV.zero _, .inl rfl⟩
  case o13p2 =>
    intro L ptrs x hx hL hed hno hE
    obtain ⟨⟨g, z, f0x, hvg, hg, hk0, hz, _⟩, ⟨f, hvf, hf⟩, _⟩ := hE
    refine zb _ rfl 46 _ _ rfl g 0 hvg (.agg (frA f)) hvf 46 _ hk0 (frA f) rfl (by kernel_rfl) (nlB rfl) (by kernel_rfl) (frA f) (by kernel_rfl) fun y St => ?_
    have n5 := jv hk0 (by decide)
    have GS := (GroS.refl [g] x).st St (.inr (by simp))
    exact ⟨⟨⟨hx.1.store St (Nat.le_trans hBM hg), St.has (by omega) hx.2.1, St.has (by omega) hx.2.2.1, St.has (by omega) hx.2.2.2.1, St.has (by omega) hx.2.2.2.2.1, hx.2.2.2.2.2.1.gros (S := [g]) ((GroS.refl [g] _).st St (.inr (by simp))) (fun k hk => by cases List.mem_singleton.1 hk; exact ⟨_, _, hk0, by decide, by decide, by decide, fun _ => ⟨fun hm => by have := n0M _ hm; omega, fun hm => by have := n1M _ hm; omega⟩⟩), Nat.le_trans hx.2.2.2.2.2.2 (Nat.le_of_eq St.size.symm)⟩, StM.valsX [0, 1, 2, 3, 4, 5, 6, 7, 11] [8, 9, 10, 12] (by kernel_rfl) ⟨⟨_, rfl⟩, ⟨_, rfl⟩, ⟨_, rfl⟩, ⟨_, rfl⟩, ⟨_, rfl⟩, ⟨_, rfl⟩, ⟨_, rfl⟩, ⟨_, rfl⟩, ⟨_, rfl⟩, trivial⟩ (fun j hj u hp => by (simp only [List.mem_cons, List.not_mem_nil, or_false] at hj; rcases hj with rfl | rfl | rfl | rfl; (obtain ⟨f, h1, h2⟩ := hp; exact ⟨f, h1, h2.no5 GS n5⟩); (obtain ⟨f, h1, h2⟩ := hp; exact ⟨f, h1, h2.no5 GS n5⟩); (obtain ⟨f, h1, h2⟩ := hp; exact ⟨f, h1, h2.no5 GS n5⟩); (obtain ⟨g2, z2, f2, h1, h2, h3, h4, h5⟩ := hp; by_cases e : g2 = g; (subst e; exact ⟨g2, _, f, h1, h2, St.new, hf.no5 GS n5, .inr rfl⟩); exact ⟨g2, z2, f2, h1, h2, St.has e h3, h4.no5 GS n5, h5⟩)))⟩, rfl⟩
  intro ptrs w9 HJ hxE
  simp only [List.drop_succ_cons, List.drop_zero]
  clear GG ktp kg1 kg2 kg3 H hM
  obtain ⟨GG, ktp, kg1, kg2, kg3, H, hM⟩ := HJ
  replace H : Tk w0.heap.size w9 tp q0 q1 id0 id1 x0 (sendS x1 l).1 n0 n1 a0 c0 f0 a1 c1 f1 b0 e0 s0 b1 e1 s1 d0 k0 r0 d1 k1 r1 := H
  obtain ⟨_, _, _, ⟨gf, zf, ff, hv, hgf, kgf, HVf, hzf⟩, _⟩ := hxE
  simp only [hv]
  clear hv hM
  have n0gf : ∀ k ∈ blk a0, k < gf := fun k hk => Nat.lt_of_lt_of_le (n0M k hk) hgf
  have n1gf : ∀ k ∈ blk a1, k < gf := fun k hk => Nat.lt_of_lt_of_le (n1M k hk) hgf
  refine mv 10 (iK ((sendS x1 l).2.2)) ?_
  refine nr ?_; intro U h; simp only [z0, z1] at h; subst h
  refine wpList_nil (ja (wp_seq (wp_region_lit (mv 100 (iK ((sendS x1 l).2.2)) ?_))))
  refine nr ?_; intro U h; simp only [z0, z1] at h; subst h
  obtain ⟨p1, hp1⟩ : ∃ p, decide ((sendS x1 l).2.2 = 0) = p := ⟨_, rfl⟩
  refine sv 101 (.bool p1) (jg 53 .i64 _ _ _ rfl Try.underlying53 (sendS x1 l).2.2 0 rfl rfl p1 hp1 _) ?_
  refine nr ?_; intro U h; simp only [z0, z1] at h; subst h
  cases p1
  rw [yR (of_decide_eq_false hp1)] at H
  refine wpList_nil (ja (wp_cond_false rfl (wp_skip (jQ ?_))))
  refine jN (results_none Try.results30 _ _ _) rfl ?_
  exact ⟨rfl, GG, _, _, _, _, _, _, _, _, _, _, _, _, _, _, _, _, _, _, _, _, _, _, H, hI.mono⟩
  have hok := yQ (of_decide_eq_true hp1)
  refine wpList_nil (ja (wp_cond_true rfl (wp_seq ?_)))
  obtain ⟨M, eM⟩ : ∃ M, w9.heap.size = M := ⟨_, rfl⟩
  have hBM : w0.heap.size ≤ M := eM ▸ GG.size
  have n5 : No5 w9 (blk b1) := fun k hk => by obtain ⟨_, cur, hc⟩ := OY.at H.t1 k hk; exact ⟨_, _, hc, by decide⟩
  refine zd (A := ?Ag2) (blk b1) 18 [(0, 102), (1, 103), (2, 104), (3, 105), (4, 106), (5, 107), (6, 108), (7, 109), (8, 110), (9, 111), (10, 112), (11, 113), (12, 114), (13, 115), (14, 116), (15, 117), (16, 118), (17, 119)] [.val (pK tp 0), .val (iK 1), .val (pK tp 0), .val (iK 1), .val (pK tp 0), .val (pK tp 6), .val (pK tp 7), .val (.slice b1 s1.length e1), .val (.agg (c29 x1.mi x1.mn)), .val (.agg (c29 x1.pi x1.pn)), .val (pK g1 3), .val (.slice ao l.length cap), .val (.string (bas l)), .val (.agg (c88 x1.mi x1.mn x1.pi x1.pn (bas l))), bsE2 M (sEnt x1 l), asE w0.heap.size M b1 (s1 ++ [(sEnt x1 l)]), .val (pK tp 0), .val (pK tp 6)] 15 follows (by kernel_rfl) rfl (by decide) (fun j hj hne v a b _ hb hp => match j, hj, hne, hp with | 0, _, _, hp => hp | 1, _, _, hp => hp | 2, _, _, hp => hp | 3, _, _, hp => hp | 4, _, _, hp => hp | 5, _, _, hp => hp | 6, _, _, hp => hp | 7, _, _, hp => hp | 8, _, _, hp => hp | 9, _, _, hp => hp | 10, _, _, hp => hp | 11, _, _, hp => hp | 12, _, _, hp => hp | 13, _, _, hp => hp | 14, _, _, hp => Exists.elim hp fun g hp => ⟨g, hp.1, hp.2.1, hb.has hp.2.2 (zN H.t1 eM hp.2.1)⟩ | 15, _, hne, _ => absurd rfl hne | 16, _, _, hp => hp | 17, _, _, hp => hp | m + 18, hj, _, _ => absurd hj (by omega)) ?hAg2 (jp (by decide) ?o0g2 (jp (by decide) ?o1g2 (jp (by decide) ?o2g2 (jp (by decide) ?o3g2 (jp (by decide) ?o4g2 (jp (by decide) ?o5g2 (jp (by decide) ?o6g2 (jp (by decide) ?o7g2 (jp (by decide) ?o8g2 (jp (by decide) ?o9g2 (jp (by decide) ?o10g2 (jp (by decide) ?o11g2 (jp (by decide) ?o12g2 (jp (by decide) ?o13g2 (jp (by decide) ?o14g2 (zW ?o15g2 (jp (by decide) ?o16g2 (jp (by decide) ?o17g2 zy)))))))))))))))))) ?restg2
  case hAg2 =>
    intro ptrs
    simp only [full, foldSlots, filledE, postE, List.foldl_cons, List.foldl_nil, List.getD_cons_zero, List.getD_cons_succ, ju, zQ, yc,  List.set_cons_zero, List.set_cons_succ]
    exact rfl
  case o0g2 => exact fun _ _ _ _ => jj (v := pK tp 0) _ rfl rfl rfl
  case o1g2 => exact fun _ _ _ _ => jj (v := iK 1) _ rfl rfl rfl
  case o2g2 => exact fun _ _ _ _ => jj (v := pK tp 0) _ rfl rfl rfl
  case o3g2 => exact fun _ _ _ _ => jj (v := iK 1) _ rfl rfl rfl
  case o4g2 => exact fun _ _ hw _ => jb (v := pK tp 0) rfl (jl _ rfl _ rfl)
  case o5g2 => exact fun _ _ hw _ => jb (v := pK tp 6) rfl (jc 83 _ 3 rfl _ _ rfl _)
  case o6g2 => exact fun _ _ hw _ => jb (v := pK tp 7) rfl (jY _ _ rfl tp 6 1 (by decide) rfl rfl _)
  case o7g2 => exact fun _ _ hw _ => jb (v := .slice b1 s1.length e1) rfl (je 80 _ rfl tp 7 rfl 83 _ (hw.has ktp (OY.ne H.t1 ktp (by decide))) (na80 _) _ rfl)
  case o8g2 => exact fun _ _ hw _ => jb (v := .agg (c29 x1.mi x1.mn)) rfl (jk 29 _ rfl g2 0 2 rfl 29 _ (hw.has kg2 (OY.ne H.t1 kg2 (by decide))) _ Try.underlying29 rfl si29 _)
  case o9g2 => exact fun _ _ hw _ => jb (v := .agg (c29 x1.pi x1.pn)) rfl (jk 29 _ rfl g3 0 2 rfl 29 _ (hw.has kg3 (OY.ne H.t1 kg3 (by decide))) _ Try.underlying29 rfl si29 _)
  case o10g2 => exact fun _ _ hw _ => jb (v := pK g1 3) rfl (jc 85 _ 3 rfl _ _ rfl _)
  case o11g2 => exact fun _ _ hw _ => jb (v := .slice ao l.length cap) rfl (je 36 _ rfl g1 3 rfl 85 _ (hw.has kg1 (OY.ne H.t1 kg1 (by decide))) (na36 _) _ rfl)
  case o12g2 => exact fun _ _ hw _ => jb (v := .string (bas l)) rfl (zr bT 9 Try.underlying9 _ rfl rfl (HN.gro (hw.gro GG.drew (OY.base H.t1))))
  case o13g2 => exact fun _ _ hw _ => jb (v := .agg (c88 x1.mi x1.mn x1.pi x1.pn (bas l))) rfl (jA 88 _ rfl [(0, .agg (c29 x1.mi x1.mn)), (1, .agg (c29 x1.pi x1.pn)), (2, .string (bas l))] rfl _ (by kernel_rfl))
  case o14g2 =>
    intro ptrs x hw hE
    exact za _ rfl (zp 80 1 _ rfl [(0, .agg (c88 x1.mi x1.mn x1.pi x1.pn (bas l)))] rfl (by kernel_rfl)) (jR _ _) ⟨x.heap.size, rfl, Nat.le_trans (Nat.le_of_eq eM.symm) hw.size, heap_alloc_new _ _⟩
  case o15g2 =>
    intro ptrs x hw hE
    exact yw (v := ptrs 14) _ _ rfl rfl H.t1 eM hBM (by omega) ((Gro.refl _).drew.trans hw) rfl rfl hE.1
  case o16g2 => exact fun _ _ hw _ => jb (v := pK tp 0) rfl (jl _ rfl _ rfl)
  case o17g2 => exact fun _ _ hw _ => jb (v := pK tp 6) rfl (jc 83 _ 3 rfl _ _ rfl _)
  intro ptrs w10 GS hxE
  simp only [List.drop_succ_cons, List.drop_zero]
  obtain ⟨_, ⟨a4, c4, hv, HR4, K⟩, _⟩ := hxE
  simp only [hv]
  clear hv
  have GS2 := ((GroS.refl (blk b1) w9).drew.trans GS)
  clear GS
  subst eM
  replace ktp := GS2.has ktp (OY.ne H.t1 ktp (by decide))
  replace kg1 := GS2.has kg1 (OY.ne H.t1 kg1 (by decide))
  replace kg2 := GS2.has kg2 (OY.ne H.t1 kg2 (by decide))
  replace kg3 := GS2.has kg3 (OY.ne H.t1 kg3 (by decide))
  replace kgf := GS2.has kgf (OY.ne H.t1 kgf (by decide))
  replace HVf := HVf.no5 GS2 n5
  replace GG := GS2.gro GG (OY.base H.t1)
  refine sv 120 (pK tp 7) (jY _ _ rfl tp 6 1 (by decide) rfl rfl _) ?_
  refine jo rfl rfl 80 _ _ rfl tp 7 rfl (.slice a4 ((s1 ++ [(sEnt x1 l)]).length) c4) rfl 83 _ ktp #[.slice a4 ((s1 ++ [(sEnt x1 l)]).length) c4] rfl (by kernel_rfl) (nlB rfl) (by kernel_rfl) (c83 (some ⟨q0, 0, none⟩) (some ⟨q1, 0, none⟩) ⟨a0, f0.length, c0⟩ ⟨a1, f1.length, c1⟩ ((n0 : Nat) : Int) ((n1 : Nat) : Int) ⟨b0, s0.length, e0⟩ ⟨a4, (s1 ++ [(sEnt x1 l)]).length, c4⟩ ⟨d0, r0.length, k0⟩ ⟨d1, r1.length, k1⟩) (by kernel_rfl) ?_
  intro w12 St
  replace kg1 := St.has (jy kg1 ktp (by decide)) kg1
  replace kg2 := St.has (jy kg2 ktp (by decide)) kg2
  replace kg3 := St.has (jy kg3 ktp (by decide)) kg3
  replace kgf := St.has (jy kgf ktp (by decide)) kgf
  replace HVf := HVf.no5 ((GroS.refl [tp] _).st St (.inr (by simp))) (jv ktp (by decide))
  replace GG := GG.store St H.base
  replace H := H.putb1 GS2 K HR4 St
  clear St ktp GS2 K HR4
  have ktp := H.box
  refine wpList_nil (ja (wp_region_lit (mv 121 (pK tp 0) (mv 122 (iK 1) ?_))))
  refine nr ?_; intro U h; simp only [z0, z1] at h; subst h
  refine sv 123 (.agg (frA ff)) (jk 46 _ rfl gf 0 95 rfl 46 _ kgf _ Try.underlying46 rfl si46 _) ?_
  refine zR 124 rfl rfl 50 1 _ rfl [(0, .agg (frA ff))] rfl (frA ff) 46 (by kernel_rfl) ?_
  intro w13 g4 G eg4 kg4
  have bg4 := jh GG eg4
  have n0g4 : ∀ k ∈ blk a0, k < g4 := fun k hk => eg4 ▸ H.l0.row.lt k hk
  have n1g4 : ∀ k ∈ blk a1, k < g4 := fun k hk => eg4 ▸ H.l1.row.lt k hk
  have dtpg4 := jf ktp eg4
  have dg1g4 := jf kg1 eg4
  have dg2g4 := jf kg2 eg4
  have dg3g4 := jf kg3 eg4
  have dgfg4 := jf kgf eg4
  replace ktp := G.has ktp
  replace kg1 := G.has kg1
  replace kg2 := G.has kg2
  replace kg3 := G.has kg3
  replace kgf := G.has kgf
  replace H := H.gro G
  replace HVf := HVf.gro G
  replace GG := GG.trans G
  clear G eg4
  refine nr ?_; intro U h; simp only [z0, z1] at h; subst h
  have HLl : LF _ 0 (some ⟨g4, 0, none⟩) 1 (oneF zf ff) := LF.one kg4 (Nat.zero_le _) HVf
  rw [hok.2.2.1] at H
  refine jt 125 rfl rfl _ 32 Try.call32 rfl rfl _ rfl [pK tp 0, iK 1, .slice (some ⟨g4, 0, none⟩) ((oneF zf ff).length) 1] rfl (say1 w0 _ GG _ _ _ _ _ _ _ _ _ _ _ _ _ _ _ _ _ _ _ _ _ _ _ _ _ _ _ H (some ⟨g4, 0, none⟩) 1 (oneF zf ff) HLl (nlB rfl) hflj (.inl (nlB rfl))) (fun _ _ ⟨he, _⟩ => ⟨_, he⟩) ?_
  rintro v w14 ⟨he, GG2, a2, c2, f2, H2, hfl2, hmem2⟩
  cases he
  clear GG H
  have GG := GG2
  have H := H2
  clear GG2 H2
  refine wpList_nil (jQ ?_)
  refine jN (results_none Try.results30 _ _ _) rfl ?_
  exact ⟨rfl, GG, _, _, _, _, _, _, _, _, _, _, _, _, _, _, _, _, _, _, _, _, _, _, H, ((hI.swap).send l hok.1 hok.2.1 hfl2 (fun y hy => (hmem2 y hy).imp (fun h => h) fun h => by cases List.mem_singleton.1 h; rw [hok.2.2.2] at hzf; rcases hzf with rfl | rfl <;> simp)).swap⟩
theorem play1k4n (w0 w : World) (G0 : Gro w0 w) (tp : Nat) (q0 : Nat) (q1 : Nat) (id0 : Nat → Nat) (id1 : Nat → Nat) (x0 : ES) (x1 : ES) (n0 : Nat) (n1 : Nat) (a0 : Option Addr) (c0 : Nat) (f0 : List (PF × Fr)) (a1 : Option Addr) (c1 : Nat) (f1 : List (PF × Fr)) (b0 : Option Addr) (e0 : Nat) (s0 : List SE) (b1 : Option Addr) (e1 : Nat) (s1 : List SE) (d0 : Option Addr) (k0 : Nat) (r0 : List SE) (d1 : Option Addr) (k1 : Nat) (r1 : List SE) (H : Tk w0.heap.size w tp q0 q1 id0 id1 x0 x1 n0 n1 a0 c0 f0 a1 c1 f1 b0 e0 s0 b1 e1 s1 d0 k0 r0 d1 k1 r1) (N : Nat) (hI : Inv N n0 x0 f0 s0 r0 n1 x1 f1 s1 r1) (_hN : N ≤ 900) (kd sd ix : Int) (ao : Option Addr) (cap : Nat) (l : List Nat) (_HN : NC w0 .u8 ao cap l) (hsd : uN sd % 2 = 1) (hkd : kd = 4) (hno : f1.length = 0) : Calls Try.prog 30 #[pK tp 0, .agg (c85 kd sd ix ⟨ao, l.length, cap⟩)] w fun e w' => e = .returned (.tuple #[]) ∧ Gro w0 w' ∧ TkI w0.heap.size w' tp q0 q1 id0 id1 (N + 1) := by
  refine jq Try.func30 rfl Try.ntmps30 [pK tp 0, .agg (c85 kd sd ix ⟨ao, l.length, cap⟩)] ?_
  intro U h; simp only [List.length_cons, List.length_nil, List.cons_append, List.nil_append, Nat.reduceAdd, Nat.reduceSub, List.reduceReplicate] at h; subst h
  have GG := Gro.refl w
  replace GG := G0
  have ktp := H.box
  have hfli := hI.b.fl
  have hflj := hI.a.fl
  have hbk := hI.b.bd.k
  have hbc := hI.b.bd.c
  have hbn := hI.b.n
  have hls := hI.b.ls
  have hlg := hI.b.lg
  refine wp_seq (wp_region_lit ?_)
  refine jE 3 rfl rfl 85 _ rfl _ rfl (c85 kd sd ix ⟨ao, l.length, cap⟩) rfl ?_
  intro w1 g1 G eg1 kg1
  have bg1 := jh GG eg1
  have dtpg1 := jf ktp eg1
  replace ktp := G.has ktp
  replace H := H.gro G
  replace GG := GG.trans G
  clear G eg1
  refine wpList_nil (ja (wp_seq (wp_region_lit (sv 11 (pK g1 1) (jc 85 _ 1 rfl _ _ rfl _) (sv 12 (iK sd) (je 3 _ rfl g1 1 rfl 85 _ kg1 (na3 _) _ rfl) ?_)))))
  refine nr ?_; intro U h; simp only [z0, z1] at h; subst h
  refine sv 13 (.int .u64 ((uN sd : Nat) : Int)) (conv345 _ rfl sd rfl _) (sv 14 (.int .u64 ((uN sd % 2 : Nat) : Int)) (jH 119 _ _ _ rfl (uN sd) 2 rfl rfl (by decide) _) (sv 15 (iK 1) (conv453 _ rfl 1 (by decide) (by exact congrArg (fun n : Nat => Value.int .u64 (n : Int)) hsd) _) ?_))
  refine nr ?_; intro U h; simp only [z0, z1] at h; subst h
  refine mv 4 (iK 1) (wpList_nil (ja (wp_seq (wp_region_lit (mv 5 (iK (-1)) (wpList_nil (ja (wp_seq (wp_seq (wp_region_lit (mv 16 (pK tp 0) ?_)))))))))))
  refine nr ?_; intro U h; simp only [z0, z1] at h; subst h
  refine mv 17 (iK 1) (sv 18 (pK tp 0) (jl _ rfl _ rfl) (sv 19 (pK tp 2) (jc 83 _ 1 rfl _ _ rfl _) ?_))
  refine nr ?_; intro U h; simp only [z0, z1] at h; subst h
  refine sv 20 (pK tp 3) (jB _ _ rfl tp 2 1 (by decide) rfl rfl _) (sv 21 (.slice a1 f1.length c1) (je 50 _ rfl tp 3 rfl 83 _ ktp (na50 _) _ rfl) (sv 22 (iK ((f1.length : Nat) : Int)) (jG Try.underlying50 _ rfl _ _ _ rfl _) ?_))
  refine nr ?_; intro U h; simp only [z0, z1] at h; subst h
  refine mv 6 (iK ((f1.length : Nat) : Int)) (wpList_nil (ja (wp_seq (wp_region_lit (mv 23 (iK ((f1.length : Nat) : Int)) (sv 24 (vFa) (jD 3 _ _ _ rfl ((f1.length : Nat) : Int) 0 rfl rfl false (decide_eq_false (by omega)) _) ?_))))))
  refine nr ?_; intro U h; simp only [z0, z1] at h; subst h
  refine wpList_nil (ja (wp_cond_false rfl (wp_skip (ja (wp_seq (wp_region_lit (sv 32 (pK g1 0) (jc 85 _ 0 rfl _ _ rfl _) (sv 33 (iK kd) (je 3 _ rfl g1 0 rfl 85 _ kg1 (na3 _) _ rfl) (wpList_nil (ja (wp_block (wp_seq (wp_region_lit (sv 51 (vFa) (jg 3 .i64 _ _ _ rfl Try.underlying3 kd 0 rfl rfl false (decide_eq_false (by omega)) _) ?_))))))))))))))
  refine nr ?_; intro U h; simp only [z0, z1] at h; subst h
  refine mv 50 (vFa) (wpList_nil (ja (wp_cond_false rfl (wp_seq (wp_region_lit (sv 56 (vFa) (jg 3 .i64 _ _ _ rfl Try.underlying3 kd 1 rfl rfl false (decide_eq_false (by omega)) _) (mv 55 (vFa) ?_)))))))
  refine nr ?_; intro U h; simp only [z0, z1] at h; subst h
  refine wpList_nil (ja (wp_cond_false rfl (wp_seq (wp_region_lit (sv 65 (vFa) (jg 3 .i64 _ _ _ rfl Try.underlying3 kd 2 rfl rfl false (decide_eq_false (by omega)) _) (mv 64 (vFa) (wpList_nil (ja (wp_cond_false rfl (wp_seq (wp_region_lit (sv 77 (vFa) (jg 3 .i64 _ _ _ rfl Try.underlying3 kd 3 rfl rfl false (decide_eq_false (by omega)) _) ?_))))))))))))
  refine nr ?_; intro U h; simp only [z0, z1] at h; subst h
  refine mv 76 (vFa) (wpList_nil (ja (wp_cond_false rfl (wp_seq (wp_region_lit (sv 127 (vTr) (jg 3 .i64 _ _ _ rfl Try.underlying3 kd 4 rfl rfl true (decide_eq_true hkd) _) (mv 126 (vTr) ?_)))))))
  refine nr ?_; intro U h; simp only [z0, z1] at h; subst h
  refine wpList_nil (ja (wp_cond_true rfl (wp_seq (wp_region_lit (mv 128 (iK (-1)) (sv 129 (vFa) (zv 3 _ _ _ rfl (-1) 0 rfl rfl false (by decide) _) (wpList_nil (ja (wp_cond_false rfl (wp_skip (jQ ?_)))))))))))
  refine jN (results_none Try.results30 _ _ _) rfl ?_
  exact ⟨rfl, GG, _, _, _, _, _, _, _, _, _, _, _, _, _, _, _, _, _, _, _, _, _, _, H, hI.mono⟩
theorem play1k4h (w0 w : World) (G0 : Gro w0 w) (tp : Nat) (q0 : Nat) (q1 : Nat) (id0 : Nat → Nat) (id1 : Nat → Nat) (x0 : ES) (x1 : ES) (n0 : Nat) (n1 : Nat) (a0 : Option Addr) (c0 : Nat) (f0 : List (PF × Fr)) (a1 : Option Addr) (c1 : Nat) (f1 : List (PF × Fr)) (b0 : Option Addr) (e0 : Nat) (s0 : List SE) (b1 : Option Addr) (e1 : Nat) (s1 : List SE) (d0 : Option Addr) (k0 : Nat) (r0 : List SE) (d1 : Option Addr) (k1 : Nat) (r1 : List SE) (H : Tk w0.heap.size w tp q0 q1 id0 id1 x0 x1 n0 n1 a0 c0 f0 a1 c1 f1 b0 e0 s0 b1 e1 s1 d0 k0 r0 d1 k1 r1) (N : Nat) (hI : Inv N n0 x0 f0 s0 r0 n1 x1 f1 s1 r1) (hN : N ≤ 900) (kd sd ix : Int) (ao : Option Addr) (cap : Nat) (l : List Nat) (_HN : NC w0 .u8 ao cap l) (hsd : uN sd % 2 = 1) (hkd : kd = 4) (hpos : 0 < f1.length) : Calls Try.prog 30 #[pK tp 0, .agg (c85 kd sd ix ⟨ao, l.length, cap⟩)] w fun e w' => e = .returned (.tuple #[]) ∧ Gro w0 w' ∧ TkI w0.heap.size w' tp q0 q1 id0 id1 (N + 1) := by
  refine jq Try.func30 rfl Try.ntmps30 [pK tp 0, .agg (c85 kd sd ix ⟨ao, l.length, cap⟩)] ?_
  intro U h; simp only [List.length_cons, List.length_nil, List.cons_append, List.nil_append, Nat.reduceAdd, Nat.reduceSub, List.reduceReplicate] at h; subst h
  have GG := Gro.refl w
  replace GG := G0
  have ktp := H.box
  have hfli := hI.b.fl
  have hflj := hI.a.fl
  have hbk := hI.b.bd.k
  have hbc := hI.b.bd.c
  have hbn := hI.b.n
  have hls := hI.b.ls
  have hlg := hI.b.lg
  refine wp_seq (wp_region_lit ?_)
  refine jE 3 rfl rfl 85 _ rfl _ rfl (c85 kd sd ix ⟨ao, l.length, cap⟩) rfl ?_
  intro w1 g1 G eg1 kg1
  have bg1 := jh GG eg1
  have dtpg1 := jf ktp eg1
  replace ktp := G.has ktp
  replace H := H.gro G
  replace GG := GG.trans G
  clear G eg1
  refine wpList_nil (ja (wp_seq (wp_region_lit (sv 11 (pK g1 1) (jc 85 _ 1 rfl _ _ rfl _) (sv 12 (iK sd) (je 3 _ rfl g1 1 rfl 85 _ kg1 (na3 _) _ rfl) ?_)))))
  refine nr ?_; intro U h; simp only [z0, z1] at h; subst h
  refine sv 13 (.int .u64 ((uN sd : Nat) : Int)) (conv345 _ rfl sd rfl _) (sv 14 (.int .u64 ((uN sd % 2 : Nat) : Int)) (jH 119 _ _ _ rfl (uN sd) 2 rfl rfl (by decide) _) (sv 15 (iK 1) (conv453 _ rfl 1 (by decide) (by exact congrArg (fun n : Nat => Value.int .u64 (n : Int)) hsd) _) ?_))
  refine nr ?_; intro U h; simp only [z0, z1] at h; subst h
  refine mv 4 (iK 1) (wpList_nil (ja (wp_seq (wp_region_lit (mv 5 (iK (-1)) (wpList_nil (ja (wp_seq (wp_seq (wp_region_lit (mv 16 (pK tp 0) ?_)))))))))))
  refine nr ?_; intro U h; simp only [z0, z1] at h; subst h
  refine mv 17 (iK 1) (sv 18 (pK tp 0) (jl _ rfl _ rfl) (sv 19 (pK tp 2) (jc 83 _ 1 rfl _ _ rfl _) ?_))
  refine nr ?_; intro U h; simp only [z0, z1] at h; subst h
  refine sv 20 (pK tp 3) (jB _ _ rfl tp 2 1 (by decide) rfl rfl _) (sv 21 (.slice a1 f1.length c1) (je 50 _ rfl tp 3 rfl 83 _ ktp (na50 _) _ rfl) (sv 22 (iK ((f1.length : Nat) : Int)) (jG Try.underlying50 _ rfl _ _ _ rfl _) ?_))
  refine nr ?_; intro U h; simp only [z0, z1] at h; subst h
  refine mv 6 (iK ((f1.length : Nat) : Int)) (wpList_nil (ja (wp_seq (wp_region_lit (mv 23 (iK ((f1.length : Nat) : Int)) (sv 24 (vTr) (jD 3 _ _ _ rfl ((f1.length : Nat) : Int) 0 rfl rfl true (decide_eq_true (by omega)) _) ?_))))))
  refine nr ?_; intro U h; simp only [z0, z1] at h; subst h
  refine wpList_nil (ja (wp_cond_true rfl (wp_region_lit (sv 25 (pK g1 2) (jc 85 _ 2 rfl _ _ rfl _) (sv 26 (iK ix) (je 3 _ rfl g1 2 rfl 85 _ kg1 (na3 _) _ rfl) (sv 27 (.int .u64 ((uN ix : Nat) : Int)) (conv345 _ rfl ix rfl _) ?_))))))
  refine nr ?_; intro U h; simp only [z0, z1] at h; subst h
  refine mv 28 (iK ((f1.length : Nat) : Int)) (sv 29 (.int .u64 ((f1.length : Nat) : Int)) (conv345N _ rfl f1.length (by omega) rfl _) (sv 30 (.int .u64 ((uN ix % f1.length : Nat) : Int)) (jH 119 _ _ _ rfl (uN ix) f1.length rfl rfl (by omega) _) ?_))
  refine nr ?_; intro U h; simp only [z0, z1] at h; subst h
  obtain ⟨m, hm⟩ : ∃ m, uN ix % f1.length = m := ⟨_, rfl⟩
  have hmi : m < f1.length := hm ▸ Nat.mod_lt _ hpos
  refine sv 31 (iK ((m : Nat) : Int)) (conv453 _ rfl m (by omega) (by exact congrArg (fun n : Nat => Value.int .u64 (n : Int)) hm) _) (mv 5 (iK ((m : Nat) : Int)) (wpList_nil (ja (wp_seq (wp_region_lit (sv 32 (pK g1 0) (jc 85 _ 0 rfl _ _ rfl _) ?_))))))
  refine nr ?_; intro U h; simp only [z0, z1] at h; subst h
  refine sv 33 (iK kd) (je 3 _ rfl g1 0 rfl 85 _ kg1 (na3 _) _ rfl) (wpList_nil (ja (wp_block (wp_seq (wp_region_lit (sv 51 (vFa) (jg 3 .i64 _ _ _ rfl Try.underlying3 kd 0 rfl rfl false (decide_eq_false (by omega)) _) (mv 50 (vFa) ?_)))))))
  refine nr ?_; intro U h; simp only [z0, z1] at h; subst h
  refine wpList_nil (ja (wp_cond_false rfl (wp_seq (wp_region_lit (sv 56 (vFa) (jg 3 .i64 _ _ _ rfl Try.underlying3 kd 1 rfl rfl false (decide_eq_false (by omega)) _) (mv 55 (vFa) (wpList_nil (ja (wp_cond_false rfl (wp_seq (wp_region_lit (sv 65 (vFa) (jg 3 .i64 _ _ _ rfl Try.underlying3 kd 2 rfl rfl false (decide_eq_false (by omega)) _) ?_))))))))))))
  refine nr ?_; intro U h; simp only [z0, z1] at h; subst h
  refine mv 64 (vFa) (wpList_nil (ja (wp_cond_false rfl (wp_seq (wp_region_lit (sv 77 (vFa) (jg 3 .i64 _ _ _ rfl Try.underlying3 kd 3 rfl rfl false (decide_eq_false (by omega)) _) (mv 76 (vFa) ?_)))))))
  refine nr ?_; intro U h; simp only [z0, z1] at h; subst h
  refine wpList_nil (ja (wp_cond_false rfl (wp_seq (wp_region_lit (sv 127 (vTr) (jg 3 .i64 _ _ _ rfl Try.underlying3 kd 4 rfl rfl true (decide_eq_true hkd) _) (mv 126 (vTr) (wpList_nil (ja (wp_cond_true rfl (wp_seq (wp_region_lit (mv 128 (iK ((m : Nat) : Int)) ?_))))))))))))
  refine nr ?_; intro U h; simp only [z0, z1] at h; subst h
  refine sv 129 (vTr) (zv 3 _ _ _ rfl ((m : Nat) : Int) 0 rfl rfl true (decide_eq_true (by omega)) _) (wpList_nil (ja (wp_cond_true rfl (wp_region_lit (mv 130 (pK tp 0) (mv 131 (iK 1) ?_))))))
  refine nr ?_; intro U h; simp only [z0, z1] at h; subst h
  refine mv 132 (iK ((m : Nat) : Int)) ?_
  refine jt 133 rfl rfl _ 33 Try.call33 rfl rfl _ rfl [pK tp 0, iK 1, iK ((m : Nat) : Int)] rfl (come1 w0 _ GG _ _ _ _ _ _ _ _ _ _ _ _ _ _ _ _ _ _ _ _ _ _ _ _ _ _ _ H m hmi hfli hflj hI.b.tx (by omega) (by omega) (by omega) (by omega)) (fun _ _ ⟨he, _⟩ => ⟨_, he⟩) ?_
  rintro v w2 ⟨he, GG2, y, hy, a3, c3, b2, e2, g2, d2, k2, H2, hfl2, hmem2⟩
  cases he
  clear GG H
  have GG := GG2
  have H := H2
  clear GG2 H2
  refine wpList_nil (jQ ?_)
  refine jN (results_none Try.results30 _ _ _) rfl ?_
  exact ⟨rfl, GG, _, _, _, _, _, _, _, _, _, _, _, _, _, _, _, _, _, _, _, _, _, _, H, ((hI.swap).come id1 hy hfl2 hmem2).swap⟩
theorem play1k5n (w0 w : World) (G0 : Gro w0 w) (tp : Nat) (q0 : Nat) (q1 : Nat) (id0 : Nat → Nat) (id1 : Nat → Nat) (x0 : ES) (x1 : ES) (n0 : Nat) (n1 : Nat) (a0 : Option Addr) (c0 : Nat) (f0 : List (PF × Fr)) (a1 : Option Addr) (c1 : Nat) (f1 : List (PF × Fr)) (b0 : Option Addr) (e0 : Nat) (s0 : List SE) (b1 : Option Addr) (e1 : Nat) (s1 : List SE) (d0 : Option Addr) (k0 : Nat) (r0 : List SE) (d1 : Option Addr) (k1 : Nat) (r1 : List SE) (H : Tk w0.heap.size w tp q0 q1 id0 id1 x0 x1 n0 n1 a0 c0 f0 a1 c1 f1 b0 e0 s0 b1 e1 s1 d0 k0 r0 d1 k1 r1) (N : Nat) (hI : Inv N n0 x0 f0 s0 r0 n1 x1 f1 s1 r1) (_hN : N ≤ 900) (kd sd ix : Int) (ao : Option Addr) (cap : Nat) (l : List Nat) (_HN : NC w0 .u8 ao cap l) (hsd : uN sd % 2 = 1) (hkd : kd = 5) (hno : f1.length = 0) : Calls Try.prog 30 #[pK tp 0, .agg (c85 kd sd ix ⟨ao, l.length, cap⟩)] w fun e w' => e = .returned (.tuple #[]) ∧ Gro w0 w' ∧ TkI w0.heap.size w' tp q0 q1 id0 id1 (N + 1) := by
  refine jq Try.func30 rfl Try.ntmps30 [pK tp 0, .agg (c85 kd sd ix ⟨ao, l.length, cap⟩)] ?_
  intro U h; simp only [List.length_cons, List.length_nil, List.cons_append, List.nil_append, Nat.reduceAdd, Nat.reduceSub, List.reduceReplicate] at h; subst h
  have GG := Gro.refl w
  replace GG := G0
  have ktp := H.box
  have hfli := hI.b.fl
  have hflj := hI.a.fl
  have hbk := hI.b.bd.k
  have hbc := hI.b.bd.c
  have hbn := hI.b.n
  have hls := hI.b.ls
  have hlg := hI.b.lg
  refine wp_seq (wp_region_lit ?_)
  refine jE 3 rfl rfl 85 _ rfl _ rfl (c85 kd sd ix ⟨ao, l.length, cap⟩) rfl ?_
  intro w1 g1 G eg1 kg1
  have bg1 := jh GG eg1
  have dtpg1 := jf ktp eg1
  replace ktp := G.has ktp
  replace H := H.gro G
  replace GG := GG.trans G
  clear G eg1
  refine wpList_nil (ja (wp_seq (wp_region_lit (sv 11 (pK g1 1) (jc 85 _ 1 rfl _ _ rfl _) (sv 12 (iK sd) (je 3 _ rfl g1 1 rfl 85 _ kg1 (na3 _) _ rfl) ?_)))))
  refine nr ?_; intro U h; simp only [z0, z1] at h; subst h
  refine sv 13 (.int .u64 ((uN sd : Nat) : Int)) (conv345 _ rfl sd rfl _) (sv 14 (.int .u64 ((uN sd % 2 : Nat) : Int)) (jH 119 _ _ _ rfl (uN sd) 2 rfl rfl (by decide) _) (sv 15 (iK 1) (conv453 _ rfl 1 (by decide) (by exact congrArg (fun n : Nat => Value.int .u64 (n : Int)) hsd) _) ?_))
  refine nr ?_; intro U h; simp only [z0, z1] at h; subst h
  refine mv 4 (iK 1) (wpList_nil (ja (wp_seq (wp_region_lit (mv 5 (iK (-1)) (wpList_nil (ja (wp_seq (wp_seq (wp_region_lit (mv 16 (pK tp 0) ?_)))))))))))
  refine nr ?_; intro U h; simp only [z0, z1] at h; subst h
  refine mv 17 (iK 1) (sv 18 (pK tp 0) (jl _ rfl _ rfl) (sv 19 (pK tp 2) (jc 83 _ 1 rfl _ _ rfl _) ?_))
  refine nr ?_; intro U h; simp only [z0, z1] at h; subst h
  refine sv 20 (pK tp 3) (jB _ _ rfl tp 2 1 (by decide) rfl rfl _) (sv 21 (.slice a1 f1.length c1) (je 50 _ rfl tp 3 rfl 83 _ ktp (na50 _) _ rfl) (sv 22 (iK ((f1.length : Nat) : Int)) (jG Try.underlying50 _ rfl _ _ _ rfl _) ?_))
  refine nr ?_; intro U h; simp only [z0, z1] at h; subst h
  refine mv 6 (iK ((f1.length : Nat) : Int)) (wpList_nil (ja (wp_seq (wp_region_lit (mv 23 (iK ((f1.length : Nat) : Int)) (sv 24 (vFa) (jD 3 _ _ _ rfl ((f1.length : Nat) : Int) 0 rfl rfl false (decide_eq_false (by omega)) _) ?_))))))
  refine nr ?_; intro U h; simp only [z0, z1] at h; subst h
  refine wpList_nil (ja (wp_cond_false rfl (wp_skip (ja (wp_seq (wp_region_lit (sv 32 (pK g1 0) (jc 85 _ 0 rfl _ _ rfl _) (sv 33 (iK kd) (je 3 _ rfl g1 0 rfl 85 _ kg1 (na3 _) _ rfl) (wpList_nil (ja (wp_block (wp_seq (wp_region_lit (sv 51 (vFa) (jg 3 .i64 _ _ _ rfl Try.underlying3 kd 0 rfl rfl false (decide_eq_false (by omega)) _) ?_))))))))))))))
  refine nr ?_; intro U h; simp only [z0, z1] at h; subst h
  refine mv 50 (vFa) (wpList_nil (ja (wp_cond_false rfl (wp_seq (wp_region_lit (sv 56 (vFa) (jg 3 .i64 _ _ _ rfl Try.underlying3 kd 1 rfl rfl false (decide_eq_false (by omega)) _) (mv 55 (vFa) ?_)))))))
  refine nr ?_; intro U h; simp only [z0, z1] at h; subst h
  refine wpList_nil (ja (wp_cond_false rfl (wp_seq (wp_region_lit (sv 65 (vFa) (jg 3 .i64 _ _ _ rfl Try.underlying3 kd 2 rfl rfl false (decide_eq_false (by omega)) _) (mv 64 (vFa) (wpList_nil (ja (wp_cond_false rfl (wp_seq (wp_region_lit (sv 77 (vFa) (jg 3 .i64 _ _ _ rfl Try.underlying3 kd 3 rfl rfl false (decide_eq_false (by omega)) _) ?_))))))))))))
  refine nr ?_; intro U h; simp only [z0, z1] at h; subst h
  refine mv 76 (vFa) (wpList_nil (ja (wp_cond_false rfl (wp_seq (wp_region_lit (sv 127 (vFa) (jg 3 .i64 _ _ _ rfl Try.underlying3 kd 4 rfl rfl false (decide_eq_false (by omega)) _) (mv 126 (vFa) ?_)))))))
  refine nr ?_; intro U h; simp only [z0, z1] at h; subst h
  refine wpList_nil (ja (wp_cond_false rfl (wp_seq (wp_region_lit (sv 135 (vTr) (jg 3 .i64 _ _ _ rfl Try.underlying3 kd 5 rfl rfl true (decide_eq_true hkd) _) (mv 134 (vTr) (wpList_nil (ja (wp_cond_true rfl (wp_seq (wp_region_lit (mv 136 (iK (-1)) ?_))))))))))))
  refine nr ?_; intro U h; simp only [z0, z1] at h; subst h
  refine sv 137 (vFa) (zv 3 _ _ _ rfl (-1) 0 rfl rfl false (by decide) _) (wpList_nil (ja (wp_cond_false rfl (wp_skip (jQ ?_)))))
  refine jN (results_none Try.results30 _ _ _) rfl ?_
  exact ⟨rfl, GG, _, _, _, _, _, _, _, _, _, _, _, _, _, _, _, _, _, _, _, _, _, _, H, hI.mono⟩
theorem play1k5h (w0 w : World) (G0 : Gro w0 w) (tp : Nat) (q0 : Nat) (q1 : Nat) (id0 : Nat → Nat) (id1 : Nat → Nat) (x0 : ES) (x1 : ES) (n0 : Nat) (n1 : Nat) (a0 : Option Addr) (c0 : Nat) (f0 : List (PF × Fr)) (a1 : Option Addr) (c1 : Nat) (f1 : List (PF × Fr)) (b0 : Option Addr) (e0 : Nat) (s0 : List SE) (b1 : Option Addr) (e1 : Nat) (s1 : List SE) (d0 : Option Addr) (k0 : Nat) (r0 : List SE) (d1 : Option Addr) (k1 : Nat) (r1 : List SE) (H : Tk w0.heap.size w tp q0 q1 id0 id1 x0 x1 n0 n1 a0 c0 f0 a1 c1 f1 b0 e0 s0 b1 e1 s1 d0 k0 r0 d1 k1 r1) (N : Nat) (hI : Inv N n0 x0 f0 s0 r0 n1 x1 f1 s1 r1) (_hN : N ≤ 900) (kd sd ix : Int) (ao : Option Addr) (cap : Nat) (l : List Nat) (_HN : NC w0 .u8 ao cap l) (hsd : uN sd % 2 = 1) (hkd : kd = 5) (hpos : 0 < f1.length) : Calls Try.prog 30 #[pK tp 0, .agg (c85 kd sd ix ⟨ao, l.length, cap⟩)] w fun e w' => e = .returned (.tuple #[]) ∧ Gro w0 w' ∧ TkI w0.heap.size w' tp q0 q1 id0 id1 (N + 1) := by
  refine jq Try.func30 rfl Try.ntmps30 [pK tp 0, .agg (c85 kd sd ix ⟨ao, l.length, cap⟩)] ?_
  intro U h; simp only [List.length_cons, List.length_nil, List.cons_append, List.nil_append, Nat.reduceAdd, Nat.reduceSub, List.reduceReplicate] at h; subst h
  have GG := Gro.refl w
  replace GG := G0
  have ktp := H.box
  have hfli := hI.b.fl
  have hflj := hI.a.fl
  have hbk := hI.b.bd.k
  have hbc := hI.b.bd.c
  have hbn := hI.b.n
  have hls := hI.b.ls
  have hlg := hI.b.lg
  refine wp_seq (wp_region_lit ?_)
  refine jE 3 rfl rfl 85 _ rfl _ rfl (c85 kd sd ix ⟨ao, l.length, cap⟩) rfl ?_
  intro w1 g1 G eg1 kg1
  have bg1 := jh GG eg1
  have dtpg1 := jf ktp eg1
  replace ktp := G.has ktp
  replace H := H.gro G
  replace GG := GG.trans G
  clear G eg1
  refine wpList_nil (ja (wp_seq (wp_region_lit (sv 11 (pK g1 1) (jc 85 _ 1 rfl _ _ rfl _) (sv 12 (iK sd) (je 3 _ rfl g1 1 rfl 85 _ kg1 (na3 _) _ rfl) ?_)))))
  refine nr ?_; intro U h; simp only [z0, z1] at h; subst h
  refine sv 13 (.int .u64 ((uN sd : Nat) : Int)) (conv345 _ rfl sd rfl _) (sv 14 (.int .u64 ((uN sd % 2 : Nat) : Int)) (jH 119 _ _ _ rfl (uN sd) 2 rfl rfl (by decide) _) (sv 15 (iK 1) (conv453 _ rfl 1 (by decide) (by exact congrArg (fun n : Nat => Value.int .u64 (n : Int)) hsd) _) ?_))
  refine nr ?_; intro U h; simp only [z0, z1] at h; subst h
  refine mv 4 (iK 1) (wpList_nil (ja (wp_seq (wp_region_lit (mv 5 (iK (-1)) (wpList_nil (ja (wp_seq (wp_seq (wp_region_lit (mv 16 (pK tp 0) ?_)))))))))))
  refine nr ?_; intro U h; simp only [z0, z1] at h; subst h
  refine mv 17 (iK 1) (sv 18 (pK tp 0) (jl _ rfl _ rfl) (sv 19 (pK tp 2) (jc 83 _ 1 rfl _ _ rfl _) ?_))
  refine nr ?_; intro U h; simp only [z0, z1] at h; subst h
  refine sv 20 (pK tp 3) (jB _ _ rfl tp 2 1 (by decide) rfl rfl _) (sv 21 (.slice a1 f1.length c1) (je 50 _ rfl tp 3 rfl 83 _ ktp (na50 _) _ rfl) (sv 22 (iK ((f1.length : Nat) : Int)) (jG Try.underlying50 _ rfl _ _ _ rfl _) ?_))
  refine nr ?_; intro U h; simp only [z0, z1] at h; subst h
  refine mv 6 (iK ((f1.length : Nat) : Int)) (wpList_nil (ja (wp_seq (wp_region_lit (mv 23 (iK ((f1.length : Nat) : Int)) (sv 24 (vTr) (jD 3 _ _ _ rfl ((f1.length : Nat) : Int) 0 rfl rfl true (decide_eq_true (by omega)) _) ?_))))))
  refine nr ?_; intro U h; simp only [z0, z1] at h; subst h
  refine wpList_nil (ja (wp_cond_true rfl (wp_region_lit (sv 25 (pK g1 2) (jc 85 _ 2 rfl _ _ rfl _) (sv 26 (iK ix) (je 3 _ rfl g1 2 rfl 85 _ kg1 (na3 _) _ rfl) (sv 27 (.int .u64 ((uN ix : Nat) : Int)) (conv345 _ rfl ix rfl _) ?_))))))
  refine nr ?_; intro U h; simp only [z0, z1] at h; subst h
  refine mv 28 (iK ((f1.length : Nat) : Int)) (sv 29 (.int .u64 ((f1.length : Nat) : Int)) (conv345N _ rfl f1.length (by omega) rfl _) (sv 30 (.int .u64 ((uN ix % f1.length : Nat) : Int)) (jH 119 _ _ _ rfl (uN ix) f1.length rfl rfl (by omega) _) ?_))
  refine nr ?_; intro U h; simp only [z0, z1] at h; subst h
  obtain ⟨m, hm⟩ : ∃ m, uN ix % f1.length = m := ⟨_, rfl⟩
  have hmi : m < f1.length := hm ▸ Nat.mod_lt _ hpos
  refine sv 31 (iK ((m : Nat) : Int)) (conv453 _ rfl m (by omega) (by exact congrArg (fun n : Nat => Value.int .u64 (n : Int)) hm) _) (mv 5 (iK ((m : Nat) : Int)) (wpList_nil (ja (wp_seq (wp_region_lit (sv 32 (pK g1 0) (jc 85 _ 0 rfl _ _ rfl _) ?_))))))
  refine nr ?_; intro U h; simp only [z0, z1] at h; subst h
  refine sv 33 (iK kd) (je 3 _ rfl g1 0 rfl 85 _ kg1 (na3 _) _ rfl) (wpList_nil (ja (wp_block (wp_seq (wp_region_lit (sv 51 (vFa) (jg 3 .i64 _ _ _ rfl Try.underlying3 kd 0 rfl rfl false (decide_eq_false (by omega)) _) (mv 50 (vFa) ?_)))))))
  refine nr ?_; intro U h; simp only [z0, z1] at h; subst h
  refine wpList_nil (ja (wp_cond_false rfl (wp_seq (wp_region_lit (sv 56 (vFa) (jg 3 .i64 _ _ _ rfl Try.underlying3 kd 1 rfl rfl false (decide_eq_false (by omega)) _) (mv 55 (vFa) (wpList_nil (ja (wp_cond_false rfl (wp_seq (wp_region_lit (sv 65 (vFa) (jg 3 .i64 _ _ _ rfl Try.underlying3 kd 2 rfl rfl false (decide_eq_false (by omega)) _) ?_))))))))))))
  refine nr ?_; intro U h; simp only [z0, z1] at h; subst h
  refine mv 64 (vFa) (wpList_nil (ja (wp_cond_false rfl (wp_seq (wp_region_lit (sv 77 (vFa) (jg 3 .i64 _ _ _ rfl Try.underlying3 kd 3 rfl rfl false (decide_eq_false (by omega)) _) (mv 76 (vFa) ?_)))))))
  refine nr ?_; intro U h; simp only [z0, z1] at h; subst h
  refine wpList_nil (ja (wp_cond_false rfl (wp_seq (wp_region_lit (sv 127 (vFa) (jg 3 .i64 _ _ _ rfl Try.underlying3 kd 4 rfl rfl false (decide_eq_false (by omega)) _) (mv 126 (vFa) (wpList_nil (ja (wp_cond_false rfl (wp_seq (wp_region_lit (sv 135 (vTr) (jg 3 .i64 _ _ _ rfl Try.underlying3 kd 5 rfl rfl true (decide_eq_true hkd) _) ?_))))))))))))
  refine nr ?_; intro U h; simp only [z0, z1] at h; subst h
  refine mv 134 (vTr) (wpList_nil (ja (wp_cond_true rfl (wp_seq (wp_region_lit (mv 136 (iK ((m : Nat) : Int)) (sv 137 (vTr) (zv 3 _ _ _ rfl ((m : Nat) : Int) 0 rfl rfl true (decide_eq_true (by omega)) _) ?_)))))))
  refine nr ?_; intro U h; simp only [z0, z1] at h; subst h
  refine wpList_nil (ja (wp_cond_true rfl ?_))
  obtain ⟨M, eM⟩ : ∃ M, w1.heap.size = M := ⟨_, rfl⟩
  have hBM : w0.heap.size ≤ M := eM ▸ GG.size
  have GX := Gro.refl w1
  have htpM : tp < M := eM ▸ jm ktp
  have hg1M : g1 < M := eM ▸ jm kg1
  refine jJ (A := ?Ap3) (fun _ x => Gro w0 x ∧ x.heap[tp]? = some (.cells (c83 (some ⟨q0, 0, none⟩) (some ⟨q1, 0, none⟩) ⟨a0, f0.length, c0⟩ ⟨a1, f1.length, c1⟩ ((n0 : Nat) : Int) ((n1 : Nat) : Int) ⟨b0, s0.length, e0⟩ ⟨b1, s1.length, e1⟩ ⟨d0, r0.length, k0⟩ ⟨d1, r1.length, k1⟩) 83 (0, 0)) ∧ x.heap[g1]? = some (.cells (c85 kd sd ix ⟨ao, l.length, cap⟩) 85 (0, 0)) ∧ Gro w1 x) 24 [(0, 138), (1, 139), (2, 140), (3, 141), (4, 142), (5, 143), (6, 144), (7, 145), (8, 146), (9, 147), (10, 148), (11, 149), (12, 150), (13, 151), (14, 152), (15, 153), (16, 154), (17, 155), (18, 156), (19, 157), (20, 158), (21, 159), (22, 160), (23, 161)] [.val (pK tp 0), .val (iK 1), zfE M, .val (pK tp 0), .val (iK 1), .val (pK tp 0), .val (pK tp 2), .val (pK tp 3), .val (.slice a1 f1.length c1), .val (iK ((m : Nat) : Int)), .val (.slice a1 m c1), tkE M (f1.take m), .val (pK tp 0), .val (iK 1), .val (pK tp 0), .val (pK tp 2), .val (pK tp 3), .val (.slice a1 f1.length c1), .val (iK ((m : Nat) : Int)), .val (iK ((m + 1 : Nat) : Int)), .val (.slice (if c1 = m + 1 then a1 else a1.map (·.add ((m + 1) * 95))) (f1.length - (m + 1)) (c1 - (m + 1))), tkE M (f1.take m ++ f1.drop (m + 1)), .val (pK tp 0), .val (pK tp 2)] [(21, 2), (21, 11)] [21] follows (by kernel_rfl) rfl (by kernel_rfl) (by decide) ⟨GG.drew, (Gro.refl _).drew.has ktp, (Gro.refl _).drew.has kg1, GX.trans (Gro.refl _).drew⟩ ?hAp3 (ji (fun _ _ _ h _ G => ⟨h.1.trans G, G.has h.2.1, G.has h.2.2.1, h.2.2.2.trans G⟩) ?o0p3 (ji (fun _ _ _ h _ G => ⟨h.1.trans G, G.has h.2.1, G.has h.2.2.1, h.2.2.2.trans G⟩) ?o1p3 (ji (fun _ _ _ h _ G => ⟨h.1.trans G, G.has h.2.1, G.has h.2.2.1, h.2.2.2.trans G⟩) ?o2p3 (ji (fun _ _ _ h _ G => ⟨h.1.trans G, G.has h.2.1, G.has h.2.2.1, h.2.2.2.trans G⟩) ?o3p3 (ji (fun _ _ _ h _ G => ⟨h.1.trans G, G.has h.2.1, G.has h.2.2.1, h.2.2.2.trans G⟩) ?o4p3 (ji (fun _ _ _ h _ G => ⟨h.1.trans G, G.has h.2.1, G.has h.2.2.1, h.2.2.2.trans G⟩) ?o5p3 (ji (fun _ _ _ h _ G => ⟨h.1.trans G, G.has h.2.1, G.has h.2.2.1, h.2.2.2.trans G⟩) ?o6p3 (ji (fun _ _ _ h _ G => ⟨h.1.trans G, G.has h.2.1, G.has h.2.2.1, h.2.2.2.trans G⟩) ?o7p3 (ji (fun _ _ _ h _ G => ⟨h.1.trans G, G.has h.2.1, G.has h.2.2.1, h.2.2.2.trans G⟩) ?o8p3 (ji (fun _ _ _ h _ G => ⟨h.1.trans G, G.has h.2.1, G.has h.2.2.1, h.2.2.2.trans G⟩) ?o9p3 (ji (fun _ _ _ h _ G => ⟨h.1.trans G, G.has h.2.1, G.has h.2.2.1, h.2.2.2.trans G⟩) ?o10p3 (ji (fun _ _ _ h _ G => ⟨h.1.trans G, G.has h.2.1, G.has h.2.2.1, h.2.2.2.trans G⟩) ?o11p3 (ji (fun _ _ _ h _ G => ⟨h.1.trans G, G.has h.2.1, G.has h.2.2.1, h.2.2.2.trans G⟩) ?o12p3 (ji (fun _ _ _ h _ G => ⟨h.1.trans G, G.has h.2.1, G.has h.2.2.1, h.2.2.2.trans G⟩) ?o13p3 (ji (fun _ _ _ h _ G => ⟨h.1.trans G, G.has h.2.1, G.has h.2.2.1, h.2.2.2.trans G⟩) ?o14p3 (ji (fun _ _ _ h _ G => ⟨h.1.trans G, G.has h.2.1, G.has h.2.2.1, h.2.2.2.trans G⟩) ?o15p3 (ji (fun _ _ _ h _ G => ⟨h.1.trans G, G.has h.2.1, G.has h.2.2.1, h.2.2.2.trans G⟩) ?o16p3 (ji (fun _ _ _ h _ G => ⟨h.1.trans G, G.has h.2.1, G.has h.2.2.1, h.2.2.2.trans G⟩) ?o17p3 (ji (fun _ _ _ h _ G => ⟨h.1.trans G, G.has h.2.1, G.has h.2.2.1, h.2.2.2.trans G⟩) ?o18p3 (ji (fun _ _ _ h _ G => ⟨h.1.trans G, G.has h.2.1, G.has h.2.2.1, h.2.2.2.trans G⟩) ?o19p3 (ji (fun _ _ _ h _ G => ⟨h.1.trans G, G.has h.2.1, G.has h.2.2.1, h.2.2.2.trans G⟩) ?o20p3 (jX ?o21p3 (ji (fun _ _ _ h _ G => ⟨h.1.trans G, G.has h.2.1, G.has h.2.2.1, h.2.2.2.trans G⟩) ?o22p3 (ji (fun _ _ _ h _ G => ⟨h.1.trans G, G.has h.2.1, G.has h.2.2.1, h.2.2.2.trans G⟩) ?o23p3 zc)))))))))))))))))))))))) ?restp3
  case hAp3 =>
    intro ptrs
    simp only [full, foldSlots, filledE, postE, List.foldl_cons, List.foldl_nil, List.getD_cons_zero, List.getD_cons_succ, ju, vt, vu,  List.set_cons_zero, List.set_cons_succ]
    exact rfl
  case o0p3 => exact fun _ _ _ _ _ _ _ _ => jj (v := pK tp 0) _ rfl rfl rfl
  case o1p3 => exact fun _ _ _ _ _ _ _ _ => jj (v := iK 1) _ rfl rfl rfl
  case o2p3 =>
    intro L ptrs x hx hL hed hno hE
    exact za _ rfl (zp 50 0 _ rfl [] rfl (by kernel_rfl)) (jR _ _) ⟨x.heap.size, rfl, (eM ▸ hx.2.2.2.size), heap_alloc_new _ _⟩
  case o3p3 => exact fun _ _ _ _ _ _ _ _ => jj (v := pK tp 0) _ rfl rfl rfl
  case o4p3 => exact fun _ _ _ _ _ _ _ _ => jj (v := iK 1) _ rfl rfl rfl
  case o5p3 => exact fun _ _ x hx _ _ _ _ => jb (v := pK tp 0) rfl (jl _ rfl _ rfl)
  case o6p3 => exact fun _ _ x hx _ _ _ _ => jb (v := pK tp 2) rfl (jc 83 _ 1 rfl _ _ rfl _)
  case o7p3 => exact fun _ _ x hx _ _ _ _ => jb (v := pK tp 3) rfl (jB _ _ rfl tp 2 1 (by decide) rfl rfl _)
  case o8p3 => exact fun _ _ x hx _ _ _ _ => jb (v := .slice a1 f1.length c1) rfl (je 50 _ rfl tp 3 rfl 83 _ hx.2.1 (na50 _) _ rfl)
  case o9p3 => exact fun _ _ _ _ _ _ _ _ => jj (v := iK ((m : Nat) : Int)) _ rfl rfl rfl
  case o10p3 => exact fun _ _ x hx _ _ _ _ => jb (v := .slice a1 m c1) rfl (zT rF _ _ rfl _ _ _ m rfl rfl (Nat.le_trans (Nat.le_of_lt hmi) H.l1.le) _)
  case o11p3 =>
    intro L ptrs x hx hL hed hno hE
    exact yY rfl _ _ rfl H.l1 hx.2.2.2 hfli (Nat.le_of_lt hmi) (eM ▸ hx.2.2.2.size) rfl hE.1 rfl
  case o12p3 => exact fun _ _ _ _ _ _ _ _ => jj (v := pK tp 0) _ rfl rfl rfl
  case o13p3 => exact fun _ _ _ _ _ _ _ _ => jj (v := iK 1) _ rfl rfl rfl
  case o14p3 => exact fun _ _ x hx _ _ _ _ => jb (v := pK tp 0) rfl (jl _ rfl _ rfl)
  case o15p3 => exact fun _ _ x hx _ _ _ _ => jb (v := pK tp 2) rfl (jc 83 _ 1 rfl _ _ rfl _)
  case o16p3 => exact fun _ _ x hx _ _ _ _ => jb (v := pK tp 3) rfl (jB _ _ rfl tp 2 1 (by decide) rfl rfl _)
  case o17p3 => exact fun _ _ x hx _ _ _ _ => jb (v := .slice a1 f1.length c1) rfl (je 50 _ rfl tp 3 rfl 83 _ hx.2.1 (na50 _) _ rfl)
  case o18p3 => exact fun _ _ _ _ _ _ _ _ => jj (v := iK ((m : Nat) : Int)) _ rfl rfl rfl
  case o19p3 => exact fun _ _ x hx _ _ _ _ => jb (v := iK ((m + 1 : Nat) : Int)) rfl (jF 3 _ _ _ rfl ((m : Nat) : Int) 1 ((m + 1 : Nat) : Int) rfl rfl (by omega) (by omega) (by omega) _)
  case o20p3 => exact fun _ _ x hx _ _ _ _ => jb (v := .slice (if c1 = m + 1 then a1 else a1.map (·.add ((m + 1) * 95))) (f1.length - (m + 1)) (c1 - (m + 1))) rfl (yt rF _ _ rfl _ _ _ (m + 1) rfl rfl hmi _)
  case o21p3 =>
    intro L ptrs x hx hL hed hno hE
    exact yZ rfl _ _ rfl H.l1 hx.2.2.2 hfli hmi (eM ▸ hx.2.2.2.size) rfl hE.1 rfl fun S y hS G => ⟨⟨G.gro hx.1 (fun k hk => Nat.le_trans hBM (hS k hk)), G.has hx.2.1 (fun hm => by have := hS _ hm; omega), G.has hx.2.2.1 (fun hm => by have := hS _ hm; omega), G.gro hx.2.2.2 (fun k hk => eM ▸ hS k hk)⟩, StM.vals [0, 1, 3, 4, 5, 6, 7, 8, 9, 10, 12, 13, 14, 15, 16, 17, 18, 19, 20, 22, 23] (by kernel_rfl) ⟨⟨_, rfl⟩, ⟨_, rfl⟩, ⟨_, rfl⟩, ⟨_, rfl⟩, ⟨_, rfl⟩, ⟨_, rfl⟩, ⟨_, rfl⟩, ⟨_, rfl⟩, ⟨_, rfl⟩, ⟨_, rfl⟩, ⟨_, rfl⟩, ⟨_, rfl⟩, ⟨_, rfl⟩, ⟨_, rfl⟩, ⟨_, rfl⟩, ⟨_, rfl⟩, ⟨_, rfl⟩, ⟨_, rfl⟩, ⟨_, rfl⟩, ⟨_, rfl⟩, ⟨_, rfl⟩, trivial⟩⟩
  case o22p3 => exact fun _ _ x hx _ _ _ _ => jb (v := pK tp 0) rfl (jl _ rfl _ rfl)
  case o23p3 => exact fun _ _ x hx _ _ _ _ => jb (v := pK tp 2) rfl (jc 83 _ 1 rfl _ _ rfl _)
  intro ptrs w2 HJ hxE
  simp only [List.drop_succ_cons, List.drop_zero]
  clear GG ktp kg1 GX
  obtain ⟨GG, ktp, kg1, GX⟩ := HJ
  obtain ⟨⟨a3, c3, hv, HL3⟩, _⟩ := hxE
  simp only [hv]
  clear hv
  refine sv 162 (pK tp 3) (jB _ _ rfl tp 2 1 (by decide) rfl rfl _) ?_
  refine jo rfl rfl 50 _ _ rfl tp 3 rfl (.slice a3 ((f1.take m ++ f1.drop (m + 1)).length) c3) rfl 83 _ ktp #[.slice a3 ((f1.take m ++ f1.drop (m + 1)).length) c3] rfl (by kernel_rfl) (nlB rfl) (by kernel_rfl) (c83 (some ⟨q0, 0, none⟩) (some ⟨q1, 0, none⟩) ⟨a0, f0.length, c0⟩ ⟨a3, (f1.take m ++ f1.drop (m + 1)).length, c3⟩ ((n0 : Nat) : Int) ((n1 : Nat) : Int) ⟨b0, s0.length, e0⟩ ⟨b1, s1.length, e1⟩ ⟨d0, r0.length, k0⟩ ⟨d1, r1.length, k1⟩) (by kernel_rfl) ?_
  intro w4 St
  replace kg1 := St.has (jy kg1 ktp (by decide)) kg1
  replace GG := GG.store St H.base
  replace H := H.puta1 (.of GX) (fun k hk => .inr (eM ▸ HL3.row.base k hk)) (HL3.mono hBM) St
  clear ktp St GX HL3
  have ktp := H.box
  refine wpList_nil (jQ ?_)
  refine jN (results_none Try.results30 _ _ _) rfl ?_
  exact ⟨rfl, GG, _, _, _, _, _, _, _, _, _, _, _, _, _, _, _, _, _, _, _, _, _, _, H, ((hI.swap).mono.less (uP hfli) vB).swap⟩
theorem play1k6n (w0 w : World) (G0 : Gro w0 w) (tp : Nat) (q0 : Nat) (q1 : Nat) (id0 : Nat → Nat) (id1 : Nat → Nat) (x0 : ES) (x1 : ES) (n0 : Nat) (n1 : Nat) (a0 : Option Addr) (c0 : Nat) (f0 : List (PF × Fr)) (a1 : Option Addr) (c1 : Nat) (f1 : List (PF × Fr)) (b0 : Option Addr) (e0 : Nat) (s0 : List SE) (b1 : Option Addr) (e1 : Nat) (s1 : List SE) (d0 : Option Addr) (k0 : Nat) (r0 : List SE) (d1 : Option Addr) (k1 : Nat) (r1 : List SE) (H : Tk w0.heap.size w tp q0 q1 id0 id1 x0 x1 n0 n1 a0 c0 f0 a1 c1 f1 b0 e0 s0 b1 e1 s1 d0 k0 r0 d1 k1 r1) (N : Nat) (hI : Inv N n0 x0 f0 s0 r0 n1 x1 f1 s1 r1) (_hN : N ≤ 900) (kd sd ix : Int) (ao : Option Addr) (cap : Nat) (l : List Nat) (_HN : NC w0 .u8 ao cap l) (hsd : uN sd % 2 = 1) (hkd : kd ≠ 0 ∧ kd ≠ 1 ∧ kd ≠ 2 ∧ kd ≠ 3 ∧ kd ≠ 4 ∧ kd ≠ 5) (hno : f1.length = 0) : Calls Try.prog 30 #[pK tp 0, .agg (c85 kd sd ix ⟨ao, l.length, cap⟩)] w fun e w' => e = .returned (.tuple #[]) ∧ Gro w0 w' ∧ TkI w0.heap.size w' tp q0 q1 id0 id1 (N + 1) := by
  refine jq Try.func30 rfl Try.ntmps30 [pK tp 0, .agg (c85 kd sd ix ⟨ao, l.length, cap⟩)] ?_
  intro U h; simp only [List.length_cons, List.length_nil, List.cons_append, List.nil_append, Nat.reduceAdd, Nat.reduceSub, List.reduceReplicate] at h; subst h
  have GG := Gro.refl w
  replace GG := G0
  have ktp := H.box
  have hfli := hI.b.fl
  have hflj := hI.a.fl
  have hbk := hI.b.bd.k
  have hbc := hI.b.bd.c
  have hbn := hI.b.n
  have hls := hI.b.ls
  have hlg := hI.b.lg
  refine wp_seq (wp_region_lit ?_)
  refine jE 3 rfl rfl 85 _ rfl _ rfl (c85 kd sd ix ⟨ao, l.length, cap⟩) rfl ?_
  intro w1 g1 G eg1 kg1
  have bg1 := jh GG eg1
  have dtpg1 := jf ktp eg1
  replace ktp := G.has ktp
  replace H := H.gro G
  replace GG := GG.trans G
  clear G eg1
  refine wpList_nil (ja (wp_seq (wp_region_lit (sv 11 (pK g1 1) (jc 85 _ 1 rfl _ _ rfl _) (sv 12 (iK sd) (je 3 _ rfl g1 1 rfl 85 _ kg1 (na3 _) _ rfl) ?_)))))
  refine nr ?_; intro U h; simp only [z0, z1] at h; subst h
  refine sv 13 (.int .u64 ((uN sd : Nat) : Int)) (conv345 _ rfl sd rfl _) (sv 14 (.int .u64 ((uN sd % 2 : Nat) : Int)) (jH 119 _ _ _ rfl (uN sd) 2 rfl rfl (by decide) _) (sv 15 (iK 1) (conv453 _ rfl 1 (by decide) (by exact congrArg (fun n : Nat => Value.int .u64 (n : Int)) hsd) _) ?_))
  refine nr ?_; intro U h; simp only [z0, z1] at h; subst h
  refine mv 4 (iK 1) (wpList_nil (ja (wp_seq (wp_region_lit (mv 5 (iK (-1)) (wpList_nil (ja (wp_seq (wp_seq (wp_region_lit (mv 16 (pK tp 0) ?_)))))))))))
  refine nr ?_; intro U h; simp only [z0, z1] at h; subst h
  refine mv 17 (iK 1) (sv 18 (pK tp 0) (jl _ rfl _ rfl) (sv 19 (pK tp 2) (jc 83 _ 1 rfl _ _ rfl _) ?_))
  refine nr ?_; intro U h; simp only [z0, z1] at h; subst h
  refine sv 20 (pK tp 3) (jB _ _ rfl tp 2 1 (by decide) rfl rfl _) (sv 21 (.slice a1 f1.length c1) (je 50 _ rfl tp 3 rfl 83 _ ktp (na50 _) _ rfl) (sv 22 (iK ((f1.length : Nat) : Int)) (jG Try.underlying50 _ rfl _ _ _ rfl _) ?_))
  refine nr ?_; intro U h; simp only [z0, z1] at h; subst h
  refine mv 6 (iK ((f1.length : Nat) : Int)) (wpList_nil (ja (wp_seq (wp_region_lit (mv 23 (iK ((f1.length : Nat) : Int)) (sv 24 (vFa) (jD 3 _ _ _ rfl ((f1.length : Nat) : Int) 0 rfl rfl false (decide_eq_false (by omega)) _) ?_))))))
  refine nr ?_; intro U h; simp only [z0, z1] at h; subst h
  refine wpList_nil (ja (wp_cond_false rfl (wp_skip (ja (wp_seq (wp_region_lit (sv 32 (pK g1 0) (jc 85 _ 0 rfl _ _ rfl _) (sv 33 (iK kd) (je 3 _ rfl g1 0 rfl 85 _ kg1 (na3 _) _ rfl) (wpList_nil (ja (wp_block (wp_seq (wp_region_lit (sv 51 (vFa) (jg 3 .i64 _ _ _ rfl Try.underlying3 kd 0 rfl rfl false (decide_eq_false (by omega)) _) ?_))))))))))))))
  refine nr ?_; intro U h; simp only [z0, z1] at h; subst h
  refine mv 50 (vFa) (wpList_nil (ja (wp_cond_false rfl (wp_seq (wp_region_lit (sv 56 (vFa) (jg 3 .i64 _ _ _ rfl Try.underlying3 kd 1 rfl rfl false (decide_eq_false (by omega)) _) (mv 55 (vFa) ?_)))))))
  refine nr ?_; intro U h; simp only [z0, z1] at h; subst h
  refine wpList_nil (ja (wp_cond_false rfl (wp_seq (wp_region_lit (sv 65 (vFa) (jg 3 .i64 _ _ _ rfl Try.underlying3 kd 2 rfl rfl false (decide_eq_false (by omega)) _) (mv 64 (vFa) (wpList_nil (ja (wp_cond_false rfl (wp_seq (wp_region_lit (sv 77 (vFa) (jg 3 .i64 _ _ _ rfl Try.underlying3 kd 3 rfl rfl false (decide_eq_false (by omega)) _) ?_))))))))))))
  refine nr ?_; intro U h; simp only [z0, z1] at h; subst h
  refine mv 76 (vFa) (wpList_nil (ja (wp_cond_false rfl (wp_seq (wp_region_lit (sv 127 (vFa) (jg 3 .i64 _ _ _ rfl Try.underlying3 kd 4 rfl rfl false (decide_eq_false (by omega)) _) (mv 126 (vFa) ?_)))))))
  refine nr ?_; intro U h; simp only [z0, z1] at h; subst h
  refine wpList_nil (ja (wp_cond_false rfl (wp_seq (wp_region_lit (sv 135 (vFa) (jg 3 .i64 _ _ _ rfl Try.underlying3 kd 5 rfl rfl false (decide_eq_false (by omega)) _) (mv 134 (vFa) (wpList_nil (ja (wp_cond_false rfl (wp_seq (wp_region_lit (mv 34 (iK (-1)) ?_))))))))))))
  refine nr ?_; intro U h; simp only [z0, z1] at h; subst h
  refine sv 35 (vFa) (zv 3 _ _ _ rfl (-1) 0 rfl rfl false (by decide) _) (wpList_nil (ja (wp_cond_false rfl (wp_skip (jQ ?_)))))
  refine jN (results_none Try.results30 _ _ _) rfl ?_
  exact ⟨rfl, GG, _, _, _, _, _, _, _, _, _, _, _, _, _, _, _, _, _, _, _, _, _, _, H, hI.mono⟩
theorem play1k6h (w0 w : World) (G0 : Gro w0 w) (tp : Nat) (q0 : Nat) (q1 : Nat) (id0 : Nat → Nat) (id1 : Nat → Nat) (x0 : ES) (x1 : ES) (n0 : Nat) (n1 : Nat) (a0 : Option Addr) (c0 : Nat) (f0 : List (PF × Fr)) (a1 : Option Addr) (c1 : Nat) (f1 : List (PF × Fr)) (b0 : Option Addr) (e0 : Nat) (s0 : List SE) (b1 : Option Addr) (e1 : Nat) (s1 : List SE) (d0 : Option Addr) (k0 : Nat) (r0 : List SE) (d1 : Option Addr) (k1 : Nat) (r1 : List SE) (H : Tk w0.heap.size w tp q0 q1 id0 id1 x0 x1 n0 n1 a0 c0 f0 a1 c1 f1 b0 e0 s0 b1 e1 s1 d0 k0 r0 d1 k1 r1) (N : Nat) (hI : Inv N n0 x0 f0 s0 r0 n1 x1 f1 s1 r1) (_hN : N ≤ 900) (kd sd ix : Int) (ao : Option Addr) (cap : Nat) (l : List Nat) (_HN : NC w0 .u8 ao cap l) (hsd : uN sd % 2 = 1) (hkd : kd ≠ 0 ∧ kd ≠ 1 ∧ kd ≠ 2 ∧ kd ≠ 3 ∧ kd ≠ 4 ∧ kd ≠ 5) (hpos : 0 < f1.length) : Calls Try.prog 30 #[pK tp 0, .agg (c85 kd sd ix ⟨ao, l.length, cap⟩)] w fun e w' => e = .returned (.tuple #[]) ∧ Gro w0 w' ∧ TkI w0.heap.size w' tp q0 q1 id0 id1 (N + 1) := by
  refine jq Try.func30 rfl Try.ntmps30 [pK tp 0, .agg (c85 kd sd ix ⟨ao, l.length, cap⟩)] ?_
  intro U h; simp only [List.length_cons, List.length_nil, List.cons_append, List.nil_append, Nat.reduceAdd, Nat.reduceSub, List.reduceReplicate] at h; subst h
  have GG := Gro.refl w
  replace GG := G0
  have ktp := H.box
  have hfli := hI.b.fl
  have hflj := hI.a.fl
  have hbk := hI.b.bd.k
  have hbc := hI.b.bd.c
  have hbn := hI.b.n
  have hls := hI.b.ls
  have hlg := hI.b.lg
  refine wp_seq (wp_region_lit ?_)
  refine jE 3 rfl rfl 85 _ rfl _ rfl (c85 kd sd ix ⟨ao, l.length, cap⟩) rfl ?_
  intro w1 g1 G eg1 kg1
  have bg1 := jh GG eg1
  have dtpg1 := jf ktp eg1
  replace ktp := G.has ktp
  replace H := H.gro G
  replace GG := GG.trans G
  clear G eg1
  refine wpList_nil (ja (wp_seq (wp_region_lit (sv 11 (pK g1 1) (jc 85 _ 1 rfl _ _ rfl _) (sv 12 (iK sd) (je 3 _ rfl g1 1 rfl 85 _ kg1 (na3 _) _ rfl) ?_)))))
  refine nr ?_; intro U h; simp only [z0, z1] at h; subst h
  refine sv 13 (.int .u64 ((uN sd : Nat) : Int)) (conv345 _ rfl sd rfl _) (sv 14 (.int .u64 ((uN sd % 2 : Nat) : Int)) (jH 119 _ _ _ rfl (uN sd) 2 rfl rfl (by decide) _) (sv 15 (iK 1) (conv453 _ rfl 1 (by decide) (by exact congrArg (fun n : Nat => Value.int .u64 (n : Int)) hsd) _) ?_))
  refine nr ?_; intro U h; simp only [z0, z1] at h; subst h
  refine mv 4 (iK 1) (wpList_nil (ja (wp_seq (wp_region_lit (mv 5 (iK (-1)) (wpList_nil (ja (wp_seq (wp_seq (wp_region_lit (mv 16 (pK tp 0) ?_)))))))))))
  refine nr ?_; intro U h; simp only [z0, z1] at h; subst h
  refine mv 17 (iK 1) (sv 18 (pK tp 0) (jl _ rfl _ rfl) (sv 19 (pK tp 2) (jc 83 _ 1 rfl _ _ rfl _) ?_))
  refine nr ?_; intro U h; simp only [z0, z1] at h; subst h
  refine sv 20 (pK tp 3) (jB _ _ rfl tp 2 1 (by decide) rfl rfl _) (sv 21 (.slice a1 f1.length c1) (je 50 _ rfl tp 3 rfl 83 _ ktp (na50 _) _ rfl) (sv 22 (iK ((f1.length : Nat) : Int)) (jG Try.underlying50 _ rfl _ _ _ rfl _) ?_))
  refine nr ?_; intro U h; simp only [z0, z1] at h; subst h
  refine mv 6 (iK ((f1.length : Nat) : Int)) (wpList_nil (ja (wp_seq (wp_region_lit (mv 23 (iK ((f1.length : Nat) : Int)) (sv 24 (vTr) (jD 3 _ _ _ rfl ((f1.length : Nat) : Int) 0 rfl rfl true (decide_eq_true (by omega)) _) ?_))))))
  refine nr ?_; intro U h; simp only [z0, z1] at h; subst h
  refine wpList_nil (ja (wp_cond_true rfl (wp_region_lit (sv 25 (pK g1 2) (jc 85 _ 2 rfl _ _ rfl _) (sv 26 (iK ix) (je 3 _ rfl g1 2 rfl 85 _ kg1 (na3 _) _ rfl) (sv 27 (.int .u64 ((uN ix : Nat) : Int)) (conv345 _ rfl ix rfl _) ?_))))))
  refine nr ?_; intro U h; simp only [z0, z1] at h; subst h
  refine mv 28 (iK ((f1.length : Nat) : Int)) (sv 29 (.int .u64 ((f1.length : Nat) : Int)) (conv345N _ rfl f1.length (by omega) rfl _) (sv 30 (.int .u64 ((uN ix % f1.length : Nat) : Int)) (jH 119 _ _ _ rfl (uN ix) f1.length rfl rfl (by omega) _) ?_))
  refine nr ?_; intro U h; simp only [z0, z1] at h; subst h
  obtain ⟨m, hm⟩ : ∃ m, uN ix % f1.length = m := ⟨_, rfl⟩
  have hmi : m < f1.length := hm ▸ Nat.mod_lt _ hpos
  refine sv 31 (iK ((m : Nat) : Int)) (conv453 _ rfl m (by omega) (by exact congrArg (fun n : Nat => Value.int .u64 (n : Int)) hm) _) (mv 5 (iK ((m : Nat) : Int)) (wpList_nil (ja (wp_seq (wp_region_lit (sv 32 (pK g1 0) (jc 85 _ 0 rfl _ _ rfl _) ?_))))))
  refine nr ?_; intro U h; simp only [z0, z1] at h; subst h
  refine sv 33 (iK kd) (je 3 _ rfl g1 0 rfl 85 _ kg1 (na3 _) _ rfl) (wpList_nil (ja (wp_block (wp_seq (wp_region_lit (sv 51 (vFa) (jg 3 .i64 _ _ _ rfl Try.underlying3 kd 0 rfl rfl false (decide_eq_false (by omega)) _) (mv 50 (vFa) ?_)))))))
  refine nr ?_; intro U h; simp only [z0, z1] at h; subst h
  refine wpList_nil (ja (wp_cond_false rfl (wp_seq (wp_region_lit (sv 56 (vFa) (jg 3 .i64 _ _ _ rfl Try.underlying3 kd 1 rfl rfl false (decide_eq_false (by omega)) _) (mv 55 (vFa) (wpList_nil (ja (wp_cond_false rfl (wp_seq (wp_region_lit (sv 65 (vFa) (jg 3 .i64 _ _ _ rfl Try.underlying3 kd 2 rfl rfl false (decide_eq_false (by omega)) _) ?_))))))))))))
  refine nr ?_; intro U h; simp only [z0, z1] at h; subst h
  refine mv 64 (vFa) (wpList_nil (ja (wp_cond_false rfl (wp_seq (wp_region_lit (sv 77 (vFa) (jg 3 .i64 _ _ _ rfl Try.underlying3 kd 3 rfl rfl false (decide_eq_false (by omega)) _) (mv 76 (vFa) ?_)))))))
  refine nr ?_; intro U h; simp only [z0, z1] at h; subst h
  refine wpList_nil (ja (wp_cond_false rfl (wp_seq (wp_region_lit (sv 127 (vFa) (jg 3 .i64 _ _ _ rfl Try.underlying3 kd 4 rfl rfl false (decide_eq_false (by omega)) _) (mv 126 (vFa) (wpList_nil (ja (wp_cond_false rfl (wp_seq (wp_region_lit (sv 135 (vFa) (jg 3 .i64 _ _ _ rfl Try.underlying3 kd 5 rfl rfl false (decide_eq_false (by omega)) _) ?_))))))))))))
  refine nr ?_; intro U h; simp only [z0, z1] at h; subst h
  refine mv 134 (vFa) (wpList_nil (ja (wp_cond_false rfl (wp_seq (wp_region_lit (mv 34 (iK ((m : Nat) : Int)) (sv 35 (vTr) (zv 3 _ _ _ rfl ((m : Nat) : Int) 0 rfl rfl true (decide_eq_true (by omega)) _) ?_)))))))
  refine nr ?_; intro U h; simp only [z0, z1] at h; subst h
  refine wpList_nil (ja (wp_cond_true rfl (wp_region_lit (mv 36 (pK tp 0) (mv 37 (iK 1) (sv 38 (iK 0) (zm 3 _ _ _ rfl 1 1 0 rfl rfl (by decide) (by decide) (by decide) _) ?_))))))
  refine nr ?_; intro U h; simp only [z0, z1] at h; subst h
  refine mv 39 (pK tp 0) (mv 40 (iK 1) (sv 41 (pK tp 0) (jl _ rfl _ rfl) ?_))
  refine nr ?_; intro U h; simp only [z0, z1] at h; subst h
  refine sv 42 (pK tp 2) (jc 83 _ 1 rfl _ _ rfl _) (sv 43 (pK tp 3) (jB _ _ rfl tp 2 1 (by decide) rfl rfl _) (sv 44 (.slice a1 f1.length c1) (je 50 _ rfl tp 3 rfl 83 _ ktp (na50 _) _ rfl) ?_))
  refine nr ?_; intro U h; simp only [z0, z1] at h; subst h
  refine mv 45 (iK ((m : Nat) : Int)) (mv 46 (iK ((m : Nat) : Int)) (sv 47 (iK ((m + 1 : Nat) : Int)) (jF 3 _ _ _ rfl ((m : Nat) : Int) 1 ((m + 1 : Nat) : Int) rfl rfl (by omega) (by omega) (by omega) _) ?_))
  refine nr ?_; intro U h; simp only [z0, z1] at h; subst h
  refine sv 48 (.slice (if c1 = m then a1 else a1.map (·.add (m * 95))) (((f1.drop m).take 1).length) (c1 - m)) (ug _ _ _ rfl a1 c1 m f1 rfl rfl rfl hmi H.l1.le _) ?_
  refine nr ?_; intro U h; simp only [z0, z1] at h; subst h
  have HLl := H.l1.cut1 hmi
  refine jt 49 rfl rfl _ 32 Try.call32 rfl rfl _ rfl [pK tp 0, iK 0, .slice (if c1 = m then a1 else a1.map (·.add (m * 95))) (((f1.drop m).take 1).length) (c1 - m)] rfl (say0 w0 _ GG _ _ _ _ _ _ _ _ _ _ _ _ _ _ _ _ _ _ _ _ _ _ _ _ _ _ _ H (if c1 = m then a1 else a1.map (·.add (m * 95))) (c1 - m) ((f1.drop m).take 1) HLl (by rw [yz hmi]; omega) hfli (.inl (by rw [yz hmi]; omega))) (fun _ _ ⟨he, _⟩ => ⟨_, he⟩) ?_
  rintro v w2 ⟨he, GG2, a2, c2, f2, H2, hfl2, hmem2⟩
  cases he
  clear GG H
  have GG := GG2
  have H := H2
  clear GG2 H2
  refine wpList_nil (jQ ?_)
  refine jN (results_none Try.results30 _ _ _) rfl ?_
  exact ⟨rfl, GG, _, _, _, _, _, _, _, _, _, _, _, _, _, _, _, _, _, _, _, _, _, _, H, (((hI.swap).less hfl2 (fun y hy => (hmem2 y hy).elim (fun h => h) fun h => by obtain ⟨z, hz, rfl⟩ := List.mem_map.1 h; exact List.mem_map_of_mem (List.mem_of_mem_drop (List.mem_of_mem_take hz)))).mono).swap⟩
theorem play1 (w0 w : World) (G0 : Gro w0 w) (tp : Nat) (q0 : Nat) (q1 : Nat) (id0 : Nat → Nat) (id1 : Nat → Nat) (x0 : ES) (x1 : ES) (n0 : Nat) (n1 : Nat) (a0 : Option Addr) (c0 : Nat) (f0 : List (PF × Fr)) (a1 : Option Addr) (c1 : Nat) (f1 : List (PF × Fr)) (b0 : Option Addr) (e0 : Nat) (s0 : List SE) (b1 : Option Addr) (e1 : Nat) (s1 : List SE) (d0 : Option Addr) (k0 : Nat) (r0 : List SE) (d1 : Option Addr) (k1 : Nat) (r1 : List SE) (H : Tk w0.heap.size w tp q0 q1 id0 id1 x0 x1 n0 n1 a0 c0 f0 a1 c1 f1 b0 e0 s0 b1 e1 s1 d0 k0 r0 d1 k1 r1) (N : Nat) (hI : Inv N n0 x0 f0 s0 r0 n1 x1 f1 s1 r1) (hN : N ≤ 900) (kd sd ix : Int) (ao : Option Addr) (cap : Nat) (l : List Nat) (HN : NC w0 .u8 ao cap l) (hsd : uN sd % 2 = 1) : Calls Try.prog 30 #[pK tp 0, .agg (c85 kd sd ix ⟨ao, l.length, cap⟩)] w fun e w' => e = .returned (.tuple #[]) ∧ Gro w0 w' ∧ TkI w0.heap.size w' tp q0 q1 id0 id1 (N + 1) := by
  rcases Nat.eq_zero_or_pos f1.length with hf | hf
  · by_cases h0 : kd = 0
    · exact play1k0n w0 w G0 tp q0 q1 id0 id1 x0 x1 n0 n1 a0 c0 f0 a1 c1 f1 b0 e0 s0 b1 e1 s1 d0 k0 r0 d1 k1 r1 H N hI hN kd sd ix ao cap l HN hsd h0 hf
    by_cases h1 : kd = 1
    · exact play1k1n w0 w G0 tp q0 q1 id0 id1 x0 x1 n0 n1 a0 c0 f0 a1 c1 f1 b0 e0 s0 b1 e1 s1 d0 k0 r0 d1 k1 r1 H N hI hN kd sd ix ao cap l HN hsd h1 hf
    by_cases h2 : kd = 2
    · exact play1k2n w0 w G0 tp q0 q1 id0 id1 x0 x1 n0 n1 a0 c0 f0 a1 c1 f1 b0 e0 s0 b1 e1 s1 d0 k0 r0 d1 k1 r1 H N hI hN kd sd ix ao cap l HN hsd h2 hf
    by_cases h3 : kd = 3
    · exact play1k3n w0 w G0 tp q0 q1 id0 id1 x0 x1 n0 n1 a0 c0 f0 a1 c1 f1 b0 e0 s0 b1 e1 s1 d0 k0 r0 d1 k1 r1 H N hI hN kd sd ix ao cap l HN hsd h3 hf
    by_cases h4 : kd = 4
    · exact play1k4n w0 w G0 tp q0 q1 id0 id1 x0 x1 n0 n1 a0 c0 f0 a1 c1 f1 b0 e0 s0 b1 e1 s1 d0 k0 r0 d1 k1 r1 H N hI hN kd sd ix ao cap l HN hsd h4 hf
    by_cases h5 : kd = 5
    · exact play1k5n w0 w G0 tp q0 q1 id0 id1 x0 x1 n0 n1 a0 c0 f0 a1 c1 f1 b0 e0 s0 b1 e1 s1 d0 k0 r0 d1 k1 r1 H N hI hN kd sd ix ao cap l HN hsd h5 hf
    exact play1k6n w0 w G0 tp q0 q1 id0 id1 x0 x1 n0 n1 a0 c0 f0 a1 c1 f1 b0 e0 s0 b1 e1 s1 d0 k0 r0 d1 k1 r1 H N hI hN kd sd ix ao cap l HN hsd ⟨h0, h1, h2, h3, h4, h5⟩ hf
  · by_cases h0 : kd = 0
    · exact play1k0h w0 w G0 tp q0 q1 id0 id1 x0 x1 n0 n1 a0 c0 f0 a1 c1 f1 b0 e0 s0 b1 e1 s1 d0 k0 r0 d1 k1 r1 H N hI hN kd sd ix ao cap l HN hsd h0 hf
    by_cases h1 : kd = 1
    · exact play1k1h w0 w G0 tp q0 q1 id0 id1 x0 x1 n0 n1 a0 c0 f0 a1 c1 f1 b0 e0 s0 b1 e1 s1 d0 k0 r0 d1 k1 r1 H N hI hN kd sd ix ao cap l HN hsd h1 hf
    by_cases h2 : kd = 2
    · exact play1k2h w0 w G0 tp q0 q1 id0 id1 x0 x1 n0 n1 a0 c0 f0 a1 c1 f1 b0 e0 s0 b1 e1 s1 d0 k0 r0 d1 k1 r1 H N hI hN kd sd ix ao cap l HN hsd h2 hf
    by_cases h3 : kd = 3
    · exact play1k3h w0 w G0 tp q0 q1 id0 id1 x0 x1 n0 n1 a0 c0 f0 a1 c1 f1 b0 e0 s0 b1 e1 s1 d0 k0 r0 d1 k1 r1 H N hI hN kd sd ix ao cap l HN hsd h3 hf
    by_cases h4 : kd = 4
    · exact play1k4h w0 w G0 tp q0 q1 id0 id1 x0 x1 n0 n1 a0 c0 f0 a1 c1 f1 b0 e0 s0 b1 e1 s1 d0 k0 r0 d1 k1 r1 H N hI hN kd sd ix ao cap l HN hsd h4 hf
    by_cases h5 : kd = 5
    · exact play1k5h w0 w G0 tp q0 q1 id0 id1 x0 x1 n0 n1 a0 c0 f0 a1 c1 f1 b0 e0 s0 b1 e1 s1 d0 k0 r0 d1 k1 r1 H N hI hN kd sd ix ao cap l HN hsd h5 hf
    exact play1k6h w0 w G0 tp q0 q1 id0 id1 x0 x1 n0 n1 a0 c0 f0 a1 c1 f1 b0 e0 s0 b1 e1 s1 d0 k0 r0 d1 k1 r1 H N hI hN kd sd ix ao cap l HN hsd ⟨h0, h1, h2, h3, h4, h5⟩ hf
end Go.Proofs.Ytlfanecaglbomaa
