/- What comes at an end while it has a pair is what the other end sent while it had that pair, in order (HelloOnce). -/
import Derived.Test.YtlfanecaglbomaaEO9
import Derived.Test.YtlfanecaglbomaaEFr11
namespace Go.Proofs.Ytlfanecaglbomaa
open Go.RowKit
def c77 (x0 : Option Addr) (x1 : Option Addr) : Array Value := #[.pointer x0, .pointer x1]
theorem um : ∀ l : List SE, (cellsS l).length = l.length * 5
  | [] => rfl
  | x :: l => by
    have e : cellsS (x :: l) = seV x ++ cellsS l := by simp [cellsS]
    rw [e, List.length_append, um l, List.length_cons]
    show 5 + l.length * 5 = _
    omega
theorem JL (l : List SE) (j : Nat) (y : SE) (hy : l[j]? = some y) : (((cellsS l).drop (j * 5)).take 5).toArray = c88 y.ai y.an y.bi y.bn (bas y.tx) := by
  have h1 := (List.getElem?_eq_some_iff.1 hy).1
  have h2 : l = l.take j ++ y :: l.drop (j + 1) := by
    rw [← (List.getElem?_eq_some_iff.1 hy).2, List.getElem_cons_drop, List.take_append_drop]
  have e : cellsS l = cellsS (l.take j) ++ (seV y ++ cellsS (l.drop (j + 1))) := by
    rw [congrArg cellsS h2, vX]
    rfl
  have hl : (cellsS (l.take j)).length = j * 5 := by rw [um, List.length_take, Nat.min_eq_left (Nat.le_of_lt h1)]
  have h5 : (seV y).length = 5 := rfl
  rw [e, List.drop_left' hl, List.take_left' h5]
  simp [seV]
theorem yG {o : Oper} {A : Act} {B cap : Nat} {l : List SE} (x : Operand) (ho : o.op = .load 88 x) (ad : Addr) (j : Nat) (hx : A.eval x = .pointer (some (ad.add (j * 5)))) {w : World} (H : SR w B (some ad) cap l) (y : SE) (hy : l[j]? = some y) : (execOp A.eval o).run Try.prog w = .ok (.value (.agg (c88 y.ai y.an y.bi y.bn (bas y.tx)))) w :=
  vK rS _ Try.underlying88 rfl x ho ad j hx w (OY.xc H) ((List.getElem?_eq_some_iff.1 hy).1) _ (JL l j y hy)
theorem zq {l : List SE} {j : Nat} {y : SE} (hy : l[j]? = some y) (ai an bi bn : Int) : fil (l.take (j + 1)) ai an bi bn = fil (l.take j) ai an bi bn ++ (if isP ai an bi bn y = true then [y.tx] else []) := by
  rw [List.take_add_one, hy, yd]
  congr 1
  show ([y].filter (isP ai an bi bn)).map (·.tx) = _
  split
  · rename_i h; rw [List.filter_cons_of_pos h]; rfl
  · rename_i h; rw [List.filter_cons_of_neg h]; rfl
theorem uM {l : List SE} {j : Nat} {y : SE} (hy : l[j]? = some y) {ai an bi bn : Int} (h : isP ai an bi bn y = true) : (fil l ai an bi bn)[(fil (l.take j) ai an bi bn).length]? = some y.tx := by
  have h1 := zq hy ai an bi bn
  rw [if_pos h] at h1
  have h2 : l = l.take (j + 1) ++ l.drop (j + 1) := (List.take_append_drop _ _).symm
  have h3 : fil l ai an bi bn = fil (l.take j) ai an bi bn ++ ([y.tx] ++ fil (l.drop (j + 1)) ai an bi bn) := by
    rw [congrArg (fun l => fil l ai an bi bn) h2, yd, h1, List.append_assoc]
  rw [h3, List.getElem?_append_right (Nat.le_refl _), Nat.sub_self]
  rfl
theorem ZX (x : SE) : isP x.ai x.an x.bi x.bn x = true := by simp [isP]
theorem Yf (l : List SE) (ai an bi bn : Int) : (fil l ai an bi bn).length ≤ l.length := by
  unfold fil
  rw [List.length_map]
  exact List.length_filter_le _ _
theorem Lnk.at {S G : List SE} {W : List PF} (h : Lnk S W G) {i : Nat} {x : SE} (hx : G[i]? = some x) : (fil S x.bi x.bn x.ai x.an)[(fil (G.take i) x.ai x.an x.bi x.bn).length]? = some x.tx := JS (h.pre _ _ _ _) (uM hx (ZX x))
theorem tk_new {B : Nat} {w : World} {tp q0 q1 : Nat} {id0 id1 : Nat → Nat} (hb : w.heap[tp]? = some (.cells (c83 (some ⟨q0, 0, none⟩) (some ⟨q1, 0, none⟩) Sl.nil Sl.nil 0 0 Sl.nil Sl.nil Sl.nil Sl.nil) 83 (0, 0))) (hB : B ≤ tp) (h2 : Two B w q0 id0 ES.new q1 id1 ES.new) : TkI B w tp q0 q1 id0 id1 0 :=
  ⟨ES.new, ES.new, 0, 0, none, 0, [], none, 0, [], none, 0, [], none, 0, [], none, 0, [], none, 0, [], ⟨hb, hB, h2, LF.nil _ _, LF.nil _ _, OY.nil _ _ _ _, OY.nil _ _ _ _, OY.nil _ _ _ _, OY.nil _ _ _ _, by
    have hn : ∀ x ∈ [(none : Option Addr), none, none, none, none, none], blk x = [] := fun x hx => by
      simp only [List.mem_cons, List.not_mem_nil, or_false, or_self] at hx
      rw [hx]
      rfl
    refine List.pairwise_iff_getElem.2 fun i j hi hj _ k hk => ?_
    rw [hn _ (List.getElem_mem hi)] at hk
    cases hk⟩, Inv.new⟩
theorem TkI.gro {B : Nat} {w w' : World} {tp q0 q1 : Nat} {id0 id1 : Nat → Nat} {N : Nat} (H : TkI B w tp q0 q1 id0 id1 N) (G : Gro w w') : TkI B w' tp q0 q1 id0 id1 N := by
  obtain ⟨x0, x1, n0, n1, a0, c0, f0, a1, c1, f1, b0, e0, s0, b1, e1, s1, d0, k0, r0, d1, k1, r1, HT, hI⟩ := H
  exact ⟨x0, x1, n0, n1, a0, c0, f0, a1, c1, f1, b0, e0, s0, b1, e1, s1, d0, k0, r0, d1, k1, r1, HT.gro G, hI⟩
theorem TkI.stT {B : Nat} {w w' : World} {tp q0 q1 : Nat} {id0 id1 : Nat → Nat} {N : Nat} (H : TkI B w tp q0 q1 id0 id1 N) {g : Nat} {cs : Array Value} {o : Obj} (hg : w.heap[g]? = some (.cells cs 85 (0, 0))) (St : Stored w w' g o) : TkI B w' tp q0 q1 id0 id1 N := by
  obtain ⟨x0, x1, n0, n1, a0, c0, f0, a1, c1, f1, b0, e0, s0, b1, e1, s1, d0, k0, r0, d1, k1, r1, HT, hI⟩ := H
  exact ⟨x0, x1, n0, n1, a0, c0, f0, a1, c1, f1, b0, e0, s0, b1, e1, s1, d0, k0, r0, d1, k1, r1, HT.stT hg (by decide) (by decide) (by decide) (by decide) St, hI⟩
theorem ZL (w0 w : World) (G0 : Gro w0 w) (tp q0 q1 : Nat) (id0 id1 : Nat → Nat) (N : Nat) (H : TkI w0.heap.size w tp q0 q1 id0 id1 N) (hN : N ≤ 900) (o : WyH) (HN : NC w0 .u8 o.ao o.cap o.l) : Calls Try.prog 30 #[pK tp 0, .agg (wyA o)] w fun e w' => e = .returned (.tuple #[]) ∧ Gro w0 w' ∧ TkI w0.heap.size w' tp q0 q1 id0 id1 (N + 1) := by
  obtain ⟨x0, x1, n0, n1, a0, c0, f0, a1, c1, f1, b0, e0, s0, b1, e1, s1, d0, k0, r0, d1, k1, r1, HT, hI⟩ := H
  rcases Nat.mod_two_eq_zero_or_one (uN o.sd) with h | h
  · exact play0 w0 w G0 tp q0 q1 id0 id1 x0 x1 n0 n1 a0 c0 f0 a1 c1 f1 b0 e0 s0 b1 e1 s1 d0 k0 r0 d1 k1 r1 HT N hI hN o.kd o.sd o.ix o.ao o.cap o.l HN h
  · exact play1 w0 w G0 tp q0 q1 id0 id1 x0 x1 n0 n1 a0 c0 f0 a1 c1 f1 b0 e0 s0 b1 e1 s1 d0 k0 r0 d1 k1 r1 HT N hI hN o.kd o.sd o.ix o.ao o.cap o.l HN h
set_option maxRecDepth 100000 in
set_option maxHeartbeats 4000000 in
theorem uc (w : World) (ao : Option Addr) (cap : Nat) (ws : List WyH) (HO : OWy w ao cap ws) (hol : ws.length ≤ 140737488355000) : Calls Try.prog 4 #[.slice ao ws.length cap] w fun e w' => e = .returned (vTr) ∧ Gro w w' := by
  refine jq Try.func4 rfl Try.ntmps4 [.slice ao ws.length cap] ?_
  intro U h; simp only [List.length_cons, List.length_nil, List.cons_append, List.nil_append, Nat.reduceAdd, Nat.reduceSub, List.reduceReplicate] at h; subst h
  have GG := Gro.refl w
  refine wp_seq (wp_region_lit (mv 2 (vFa) (wpList_nil (ja (wp_seq (wp_region_lit (sv 15 (.agg (c23 (idK 0 1))) (jA 23 _ rfl [(0, .int .u8 1)] rfl _ (by kernel_rfl)) ?_)))))))
  refine jt 16 rfl rfl _ 7 Try.call7 rfl rfl _ rfl [.agg (c23 (idK 0 1))] rfl (yh _ (idK 0 1)) (fun _ _ ⟨_, _, he, _⟩ => ⟨_, he⟩) ?_
  rintro v w1 ⟨q0, wa, he, G, hq0, hwa, HEq0⟩
  cases he
  replace HEq0 := EX.of_new hq0 hwa HEq0
  replace HEq0 : EN w.heap.size _ _ _ _ _ _ := ⟨HEq0.1, fun k hk => Nat.le_trans GG.size (HEq0.2 k hk)⟩
  replace GG := GG.trans G
  clear G
  refine nr ?_; intro U h; simp only [z0, z1] at h; subst h
  refine sv 17 (.agg (c23 (idK 0 2))) (jA 23 _ rfl [(0, .int .u8 2)] rfl _ (by kernel_rfl)) ?_
  refine jt 18 rfl rfl _ 7 Try.call7 rfl rfl _ rfl [.agg (c23 (idK 0 2))] rfl (yh _ (idK 0 2)) (fun _ _ ⟨_, _, he, _⟩ => ⟨_, he⟩) ?_
  rintro v w2 ⟨q1, wb, he, G, hq1, hwb, HEq1⟩
  cases he
  have HEb := EX.of_new hq1 hwb HEq1
  have H2 : Two w.heap.size _ q0 (idK 0 1) ES.new q1 (idK 0 2) ES.new := ⟨_, _, _, _, HEq0.gro G, ⟨HEb.1, fun k hk => Nat.le_trans GG.size (HEb.2 k hk)⟩, fun k h1 h2 => by have := HEq0.ex.lt k h1; have := HEb.2 k h2; omega⟩
  replace GG := GG.trans G
  clear G HEq0 HEq1 HEb
  refine sv 19 (.agg (c77 (some ⟨q0, 0, none⟩) (some ⟨q1, 0, none⟩))) (jA 77 _ rfl [(0, pK q0 0), (1, pK q1 0)] rfl _ (by kernel_rfl)) ?_
  refine nr ?_; intro U h; simp only [z0, z1] at h; subst h
  refine sv 20 (.agg (c83 (some ⟨q0, 0, none⟩) (some ⟨q1, 0, none⟩) Sl.nil Sl.nil 0 0 Sl.nil Sl.nil Sl.nil Sl.nil)) (jA 83 _ rfl [(0, .agg (c77 (some ⟨q0, 0, none⟩) (some ⟨q1, 0, none⟩)))] rfl _ (by kernel_rfl)) ?_
  refine jE 21 rfl rfl 83 _ rfl _ rfl (c83 (some ⟨q0, 0, none⟩) (some ⟨q1, 0, none⟩) Sl.nil Sl.nil 0 0 Sl.nil Sl.nil Sl.nil Sl.nil) rfl ?_
  intro w3 tp G etp ktp
  have btp := jh GG etp
  clear etp
  replace H2 := H2.gro G
  replace GG := GG.trans G
  clear G
  have HK := tk_new ktp btp H2
  clear H2
  refine mv 3 (pK tp 0) ?_
  refine nr ?_; intro U h; simp only [z0, z1] at h; subst h
  refine wpList_nil (ja (wp_seq (wp_seq ?_)))
  refine jr ?_
  intro OPS hY
  have y6 := hY 6 28 rfl
  have y14 := hY 14 36 rfl
  clear hY
  refine mv 22 (pK tp 0) (sv 23 (pK tp 0) (jl _ rfl _ rfl) (sv 24 (pK tp 0) (jc 83 _ 0 rfl _ _ rfl _) ?_))
  refine nr ?_; intro U h; simp only [z0, z1] at h; subst h
  refine sv 25 (pK tp 0) (jS _ _ rfl tp 0 0 (by decide) rfl rfl _) (sv 26 (pK q0 0) (je 25 _ rfl tp 0 rfl 83 _ ktp (na25 _) _ rfl) (sv 27 (vFa) (ze 25 _ _ _ rfl _ rfl rfl Try.underlying25 _) ?_))
  refine nr ?_; intro U h; simp only [z0, z1] at h; subst h
  refine mv 28 (vFa) (jn 29 rfl rfl y6 rfl (pK tp 0) (rfl) (jn 30 rfl rfl y6 rfl (pK tp 0) (jl _ rfl _ rfl) ?_))
  refine nr ?_; intro U h; simp only [z0, z1] at h; subst h
  refine jn 31 rfl rfl y6 rfl (pK tp 0) (jc 83 _ 0 rfl _ _ rfl _) (jn 32 rfl rfl y6 rfl (pK tp 1) (jS _ _ rfl tp 0 1 (by decide) rfl rfl _) (jn 33 rfl rfl y6 rfl (pK q1 0) (je 25 _ rfl tp 1 rfl 83 _ ktp (na25 _) _ rfl) ?_))
  refine nr ?_; intro U h; simp only [z0, z1] at h; subst h
  refine jn 34 rfl rfl y6 rfl (vFa) (ze 25 _ _ _ rfl _ rfl rfl Try.underlying25 _) (mv 35 (vFa) (mv 36 (vFa) ?_))
  refine nr ?_; intro U h; simp only [z0, z1] at h; subst h
  refine yF 37 rfl rfl y14 rfl _ 8 Try.call8 rfl rfl _ rfl [] rfl (Zp _) ?_
  intro w4 G
  replace ktp := G.has ktp
  replace HK := HK.gro G
  replace GG := GG.trans G
  clear G
  refine jn 38 rfl rfl y14 rfl (vFa) (jU _ _ rfl true rfl) (mv 39 (vFa) ?_)
  refine nr ?_; intro U h; simp only [z0, z1] at h; subst h
  refine wpList_nil (ja (wp_cond_false rfl (wp_skip (ja ?_))))
  refine Yx (fun az wv => ∃ (N : Nat) (um1 : Nat → Value), az = ⟨[.slice ao ws.length cap, undef, vFa, pK tp 0, um1 0, um1 1, undef, undef, undef, undef, undef, undef, undef, undef, undef, .agg (c23 (idK 0 1)), pK q0 0, .agg (c23 (idK 0 2)), pK q1 0, .agg (c77 (some ⟨q0, 0, none⟩) (some ⟨q1, 0, none⟩)), .agg (c83 (some ⟨q0, 0, none⟩) (some ⟨q1, 0, none⟩) Sl.nil Sl.nil 0 0 Sl.nil Sl.nil Sl.nil Sl.nil), pK tp 0, pK tp 0, pK tp 0, pK tp 0, pK tp 0, pK q0 0, vFa, vFa, pK tp 0, pK tp 0, pK tp 0, pK tp 1, pK q1 0, vFa, vFa, vFa, vTr, vFa, vFa, um1 2, um1 3, um1 4, um1 5, um1 6, um1 7, um1 8, um1 9, um1 10, um1 11, um1 12, um1 13, um1 14, undef, undef, undef, undef, undef, undef, undef, undef, undef, undef, undef, undef, undef, undef, undef, undef, undef, undef, undef, undef, undef, undef, undef, undef, undef, undef, undef, undef, undef, undef, undef, undef, undef, undef, undef, undef, undef, undef, undef, undef, undef, undef, undef, undef, undef, undef, undef, undef, undef, undef, undef, undef, undef, undef, undef, undef, undef, undef, undef, undef, undef, undef, undef, undef, undef, undef, undef, undef, undef, undef, undef, undef, undef, undef, undef, undef, undef, undef, undef, undef, undef].toArray, []⟩ ∧ N ≤ 401 ∧ Gro w wv ∧ TkI w.heap.size wv tp q0 q1 (idK 0 1) (idK 0 2) N) ?tm1 ?hm1
  case tm1 =>
    clear GG HK ktp
    rintro az wv ⟨N, um1, rfl, hN9, GG, HK⟩
    generalize wv = w1 at *
    obtain ⟨x0, x1, n0, n1, a0, c0, f0, a1, c1, f1, b0, e0, s0, b1, e1, s1, d0, k0, r0, d1, k1, r1, H1, hI⟩ := HK
    have G1 := GG
    clear GG
    have GG := Gro.refl w1
    have ktp := H1.box
    refine wp_seq (wp_seq (wp_region_lit (mv 53 (iK 0) (wpList_nil (ja (wp_block ?_))))))
    refine zl (fun mz az wv => ∃ (sd : Nat) (us1 : Nat → Value), mz = 2 - sd ∧ az = ⟨[.slice ao ws.length cap, undef, us1 0, pK tp 0, um1 0, um1 1, us1 1, us1 2, us1 3, us1 4, undef, us1 5, us1 6, undef, us1 7, .agg (c23 (idK 0 1)), pK q0 0, .agg (c23 (idK 0 2)), pK q1 0, .agg (c77 (some ⟨q0, 0, none⟩) (some ⟨q1, 0, none⟩)), .agg (c83 (some ⟨q0, 0, none⟩) (some ⟨q1, 0, none⟩) Sl.nil Sl.nil 0 0 Sl.nil Sl.nil Sl.nil Sl.nil), pK tp 0, pK tp 0, pK tp 0, pK tp 0, pK tp 0, pK q0 0, vFa, vFa, pK tp 0, pK tp 0, pK tp 0, pK tp 1, pK q1 0, vFa, vFa, vFa, vTr, vFa, vFa, um1 2, um1 3, um1 4, um1 5, um1 6, um1 7, um1 8, um1 9, um1 10, um1 11, um1 12, um1 13, um1 14, iK ((sd : Nat) : Int), us1 8, us1 9, us1 10, us1 11, us1 12, us1 13, us1 14, us1 15, us1 16, us1 17, us1 18, us1 19, us1 20, us1 21, us1 22, us1 23, us1 24, us1 25, us1 26, us1 27, us1 28, us1 29, us1 30, us1 31, us1 32, us1 33, us1 34, us1 35, us1 36, us1 37, us1 38, us1 39, us1 40, us1 41, us1 42, us1 43, us1 44, us1 45, us1 46, us1 47, us1 48, us1 49, us1 50, us1 51, us1 52, us1 53, us1 54, us1 55, us1 56, us1 57, us1 58, us1 59, us1 60, us1 61, us1 62, us1 63, us1 64, us1 65, us1 66, us1 67, us1 68, us1 69, us1 70, us1 71, us1 72, us1 73, us1 74, us1 75, us1 76, us1 77, us1 78, us1 79, us1 80, us1 81, us1 82, us1 83, us1 84, us1 85, us1 86, us1 87].toArray, []⟩ ∧ sd ≤ 2 ∧ Gro w1 wv ∧ wv.heap[tp]? = some (.cells (c83 (some ⟨q0, 0, none⟩) (some ⟨q1, 0, none⟩) ⟨a0, f0.length, c0⟩ ⟨a1, f1.length, c1⟩ ((n0 : Nat) : Int) ((n1 : Nat) : Int) ⟨b0, s0.length, e0⟩ ⟨b1, s1.length, e1⟩ ⟨d0, r0.length, k0⟩ ⟨d1, r1.length, k1⟩) 83 (0, 0))) ?_ _ ⟨0, usB [2, 6, 7, 8, 9, 11, 12, 14, 54, 55, 56, 57, 58, 59, 60, 61, 62, 63, 64, 65, 66, 67, 68, 69, 70, 71, 72, 73, 74, 75, 76, 77, 78, 79, 80, 81, 82, 83, 84, 85, 86, 87, 88, 89, 90, 91, 92, 93, 94, 95, 96, 97, 98, 99, 100, 101, 102, 103, 104, 105, 106, 107, 108, 109, 110, 111, 112, 113, 114, 115, 116, 117, 118, 119, 120, 121, 122, 123, 124, 125, 126, 127, 128, 129, 130, 131, 132, 133] rfl rfl ⟨Nat.zero_le _, GG, ktp⟩⟩
    clear ktp GG
    rintro mz az wv ⟨sd, us1, rfl, rfl, hsd, GG, ktp⟩
    refine wp_seq (wp_region_lit ?_)
    obtain ⟨p1, hp1⟩ : ∃ p, decide (((sd : Nat) : Int) < 2) = p := ⟨_, rfl⟩
    refine sv 54 (.bool p1) (jP 3 _ _ _ rfl ((sd : Nat) : Int) 2 rfl rfl p1 hp1 _) ?_
    refine nr ?_; intro U h; simp only [z0, z1] at h; subst h
    cases p1
    refine wpList_nil (ja (wp_seq (wp_cond_false rfl (wp_exit (jZ (jZ (zZ (ja (wp_seq (wp_region_lit (mv 2 (vTr) (wpList_nil (ja (wp_ret ?_))))))))))))))
    refine bodyPost_ret (results_tmp Try.results4 _ _ _) rfl ?_
    exact ⟨rfl, G1.trans GG⟩
    have hsd2 : sd < 2 := by have := of_decide_eq_true hp1; omega
    refine wpList_nil (ja (wp_seq (wp_cond_true rfl (wp_skip (ja (wp_seq (wp_block (wp_seq (wp_region_lit ?_)))))))))
    obtain rfl | rfl : sd = 0 ∨ sd = 1 := by omega
    refine mv 55 (iK 0) (mv 6 (iK 0) ?_)
    refine nr ?_; intro U h; simp only [z0, z1] at h; subst h
    refine wpList_nil (ja (wp_seq (wp_region_lit (mv 56 (pK tp 0) (mv 57 (iK 0) (sv 58 (pK tp 0) (jl _ rfl _ rfl) ?_))))))
    refine nr ?_; intro U h; simp only [z0, z1] at h; subst h
    refine sv 59 (pK tp 8) (jc 83 _ 4 rfl _ _ rfl _) (sv 60 (pK tp 8) (jY _ _ rfl tp 8 0 (by decide) rfl rfl _) (sv 61 (.slice d0 r0.length k0) (je 80 _ rfl tp 8 rfl 83 _ ktp (na80 _) _ rfl) ?_))
    refine nr ?_; intro U h; simp only [z0, z1] at h; subst h
    refine sv 62 (iK ((r0.length : Nat) : Int)) (jG Try.underlying80 _ rfl _ _ _ rfl _) (mv 63 (iK 0) (wpList_nil (ja (wp_block ?_))))
    refine zl (fun mz az wv => ∃ (i : Nat) (us2 : Nat → Value), mz = r0.length - i ∧ az = ⟨[.slice ao ws.length cap, undef, us2 0, pK tp 0, um1 0, um1 1, iK 0, us2 1, us2 2, us2 3, undef, us2 4, us2 5, undef, us2 6, .agg (c23 (idK 0 1)), pK q0 0, .agg (c23 (idK 0 2)), pK q1 0, .agg (c77 (some ⟨q0, 0, none⟩) (some ⟨q1, 0, none⟩)), .agg (c83 (some ⟨q0, 0, none⟩) (some ⟨q1, 0, none⟩) Sl.nil Sl.nil 0 0 Sl.nil Sl.nil Sl.nil Sl.nil), pK tp 0, pK tp 0, pK tp 0, pK tp 0, pK tp 0, pK q0 0, vFa, vFa, pK tp 0, pK tp 0, pK tp 0, pK tp 1, pK q1 0, vFa, vFa, vFa, vTr, vFa, vFa, um1 2, um1 3, um1 4, um1 5, um1 6, um1 7, um1 8, um1 9, um1 10, um1 11, um1 12, um1 13, um1 14, iK 0, vTr, iK 0, pK tp 0, iK 0, pK tp 0, pK tp 8, pK tp 8, .slice d0 r0.length k0, iK ((r0.length : Nat) : Int), iK ((i : Nat) : Int), us2 7, us2 8, us2 9, us2 10, us2 11, us2 12, us2 13, us2 14, us2 15, us2 16, us2 17, us2 18, us2 19, us2 20, us2 21, us2 22, us2 23, us2 24, us2 25, us2 26, us2 27, us2 28, us2 29, us2 30, us2 31, us2 32, us2 33, us2 34, us2 35, us2 36, us2 37, us2 38, us2 39, us2 40, us2 41, us2 42, us2 43, us2 44, us2 45, us2 46, us2 47, us2 48, us2 49, us2 50, us2 51, us2 52, us2 53, us2 54, us2 55, us2 56, us2 57, us2 58, us2 59, us2 60, us2 61, us2 62, us2 63, us2 64, us2 65, us2 66, us2 67, us2 68, us2 69, us2 70, us2 71, us2 72, us2 73, us2 74, us2 75, us1 87].toArray, []⟩ ∧ i ≤ r0.length ∧ Gro w1 wv ∧ wv.heap[tp]? = some (.cells (c83 (some ⟨q0, 0, none⟩) (some ⟨q1, 0, none⟩) ⟨a0, f0.length, c0⟩ ⟨a1, f1.length, c1⟩ ((n0 : Nat) : Int) ((n1 : Nat) : Int) ⟨b0, s0.length, e0⟩ ⟨b1, s1.length, e1⟩ ⟨d0, r0.length, k0⟩ ⟨d1, r1.length, k1⟩) 83 (0, 0))) ?_ _ ⟨0, usB [2, 7, 8, 9, 11, 12, 14, 64, 65, 66, 67, 68, 69, 70, 71, 72, 73, 74, 75, 76, 77, 78, 79, 80, 81, 82, 83, 84, 85, 86, 87, 88, 89, 90, 91, 92, 93, 94, 95, 96, 97, 98, 99, 100, 101, 102, 103, 104, 105, 106, 107, 108, 109, 110, 111, 112, 113, 114, 115, 116, 117, 118, 119, 120, 121, 122, 123, 124, 125, 126, 127, 128, 129, 130, 131, 132] rfl rfl ⟨Nat.zero_le _, GG, ktp⟩⟩
    clear ktp GG
    rintro mz az wv ⟨i, us2, rfl, rfl, hi, GG, ktp⟩
    refine wp_seq (wp_region_lit ?_)
    obtain ⟨p2, hp2⟩ : ∃ p, decide (((i : Nat) : Int) < ((r0.length : Nat) : Int)) = p := ⟨_, rfl⟩
    refine sv 64 (.bool p2) (jP 3 _ _ _ rfl ((i : Nat) : Int) ((r0.length : Nat) : Int) rfl rfl p2 hp2 _) ?_
    refine nr ?_; intro U h; simp only [z0, z1] at h; subst h
    cases p2
    refine wpList_nil (ja (wp_seq (wp_cond_false rfl (wp_exit (jZ (jZ (zZ (jQ (ja (wp_region_lit (sv 133 (iK ((0 + 1 : Nat) : Int)) (jF 3 _ _ _ rfl ((0 : Nat) : Int) 1 ((0 + 1 : Nat) : Int) rfl rfl (by omega) (by omega) (by omega) _) (mv 53 (iK ((0 + 1 : Nat) : Int)) (wpList_nil (ja ?_))))))))))))))
    exact ⟨_, (by omega : 2 - (0 + 1) < 2 - 0), 0 + 1, (fun kz => ([us2 0, iK 0, us2 1, us2 2, us2 3, us2 4, us2 5, us2 6, vTr, iK 0, pK tp 0, iK 0, pK tp 0, pK tp 8, pK tp 8, .slice d0 r0.length k0, iK ((r0.length : Nat) : Int), iK ((i : Nat) : Int), vFa, us2 8, us2 9, us2 10, us2 11, us2 12, us2 13, us2 14, us2 15, us2 16, us2 17, us2 18, us2 19, us2 20, us2 21, us2 22, us2 23, us2 24, us2 25, us2 26, us2 27, us2 28, us2 29, us2 30, us2 31, us2 32, us2 33, us2 34, us2 35, us2 36, us2 37, us2 38, us2 39, us2 40, us2 41, us2 42, us2 43, us2 44, us2 45, us2 46, us2 47, us2 48, us2 49, us2 50, us2 51, us2 52, us2 53, us2 54, us2 55, us2 56, us2 57, us2 58, us2 59, us2 60, us2 61, us2 62, us2 63, us2 64, us2 65, us2 66, us2 67, us2 68, us2 69, us2 70, us2 71, us2 72, us2 73, us2 74, us2 75, iK ((0 + 1 : Nat) : Int)] : List Value).getD kz undef), rfl, rfl, (by omega), GG, ktp⟩
    have hin : i < r0.length := by have := of_decide_eq_true hp2; omega
    obtain ⟨x, hx⟩ : ∃ x, r0[i]? = some x := ⟨_, List.getElem?_eq_getElem hin⟩
    have hkx := hI.v.at hx
    obtain ⟨ad, hao⟩ := (OY.xc H1.u0).some (by omega)
    have hfit := (OY.xc H1.u0).fit
    have hrl : r0.length ≤ 10000 := by have := hI.a.lg; omega
    have hsl : s1.length ≤ 10000 := by have := hI.b.ls; omega
    refine wpList_nil (ja (wp_seq (wp_cond_true rfl (wp_skip (ja (wp_seq (wp_block (wp_seq (wp_region_lit (mv 65 (iK ((i : Nat) : Int)) ?_))))))))))
    refine nr ?_; intro U h; simp only [z0, z1] at h; subst h
    refine sv 66 (.pointer (some (ad.add (i * 5)))) (zI rS _ _ rfl ad r0.length k0 i (by exact congrArg (fun a => Value.slice a r0.length k0) hao) rfl hin _) (sv 67 (.agg (c88 x.ai x.an x.bi x.bn (bas x.tx))) (yG _ rfl ad i rfl (hao ▸ OY.gro H1.u0 GG) x hx) ?_)
    refine js 8 rfl rfl 88 rfl _ zv88 _ rfl ?_
    intro w5 g1 G eg1 kg1
    have bg1 := jh GG eg1
    have dtpg1 := jf ktp eg1
    replace ktp := G.has ktp
    replace GG := GG.trans G
    clear G eg1
    refine nr ?_; intro U h; simp only [z0, z1] at h; subst h
    refine mv 7 (iK ((i : Nat) : Int)) ?_
    refine jo rfl rfl 88 _ _ rfl g1 0 rfl (.agg (c88 x.ai x.an x.bi x.bn (bas x.tx))) rfl 88 _ kg1 (c88 x.ai x.an x.bi x.bn (bas x.tx)) rfl (by kernel_rfl) (nlB rfl) (by kernel_rfl) (c88 x.ai x.an x.bi x.bn (bas x.tx)) (by kernel_rfl) ?_
    intro w7 St
    replace ktp := St.has (by omega) ktp
    replace GG := GG.store St bg1
    replace kg1 := St.new
    clear St
    refine wpList_nil (ja (wp_seq (wp_region_lit (mv 9 (iK 0) (wpList_nil (ja (wp_seq (wp_seq (wp_region_lit (mv 68 (pK tp 0) ?_))))))))))
    refine nr ?_; intro U h; simp only [z0, z1] at h; subst h
    refine mv 69 (iK 0) (sv 70 (pK tp 0) (jl _ rfl _ rfl) (sv 71 (pK tp 8) (jc 83 _ 4 rfl _ _ rfl _) ?_))
    refine nr ?_; intro U h; simp only [z0, z1] at h; subst h
    refine sv 72 (pK tp 8) (jY _ _ rfl tp 8 0 (by decide) rfl rfl _) (sv 73 (.slice d0 r0.length k0) (je 80 _ rfl tp 8 rfl 83 _ ktp (na80 _) _ rfl) (mv 74 (iK ((i : Nat) : Int)) ?_))
    refine nr ?_; intro U h; simp only [z0, z1] at h; subst h
    refine sv 75 (.slice d0 i k0) (zT rS _ _ rfl _ _ _ i rfl rfl (by omega) _) (sv 76 (iK ((i : Nat) : Int)) (jG Try.underlying80 _ rfl _ _ _ rfl _) (mv 77 (iK 0) ?_))
    refine nr ?_; intro U h; simp only [z0, z1] at h; subst h
    refine wpList_nil (ja (wp_block ?_))
    refine zl (fun mz az wv => ∃ (b : Nat) (kk : Nat) (us3 : Nat → Value), mz = i - b ∧ az = ⟨[.slice ao ws.length cap, undef, us2 0, pK tp 0, um1 0, um1 1, iK 0, iK ((i : Nat) : Int), pK g1 0, iK ((kk : Nat) : Int), undef, us3 0, us2 5, undef, us2 6, .agg (c23 (idK 0 1)), pK q0 0, .agg (c23 (idK 0 2)), pK q1 0, .agg (c77 (some ⟨q0, 0, none⟩) (some ⟨q1, 0, none⟩)), .agg (c83 (some ⟨q0, 0, none⟩) (some ⟨q1, 0, none⟩) Sl.nil Sl.nil 0 0 Sl.nil Sl.nil Sl.nil Sl.nil), pK tp 0, pK tp 0, pK tp 0, pK tp 0, pK tp 0, pK q0 0, vFa, vFa, pK tp 0, pK tp 0, pK tp 0, pK tp 1, pK q1 0, vFa, vFa, vFa, vTr, vFa, vFa, um1 2, um1 3, um1 4, um1 5, um1 6, um1 7, um1 8, um1 9, um1 10, um1 11, um1 12, um1 13, um1 14, iK 0, vTr, iK 0, pK tp 0, iK 0, pK tp 0, pK tp 8, pK tp 8, .slice d0 r0.length k0, iK ((r0.length : Nat) : Int), iK ((i : Nat) : Int), vTr, iK ((i : Nat) : Int), .pointer (some (ad.add (i * 5))), .agg (c88 x.ai x.an x.bi x.bn (bas x.tx)), pK tp 0, iK 0, pK tp 0, pK tp 8, pK tp 8, .slice d0 r0.length k0, iK ((i : Nat) : Int), .slice d0 i k0, iK ((i : Nat) : Int), iK ((b : Nat) : Int), us3 1, us3 2, us3 3, us3 4, us3 5, us3 6, us3 7, us3 8, us3 9, us3 10, us3 11, us3 12, us3 13, us3 14, us3 15, us3 16, us3 17, us3 18, us2 39, us2 40, us2 41, us2 42, us2 43, us2 44, us2 45, us2 46, us2 47, us2 48, us2 49, us2 50, us2 51, us2 52, us2 53, us2 54, us2 55, us2 56, us2 57, us2 58, us2 59, us2 60, us2 61, us2 62, us2 63, us2 64, us2 65, us2 66, us2 67, us2 68, us2 69, us2 70, us2 71, us2 72, us2 73, us2 74, us2 75, us1 87].toArray, []⟩ ∧ b ≤ i ∧ kk = (fil (r0.take b) x.ai x.an x.bi x.bn).length ∧ Gro w1 wv ∧ wv.heap[tp]? = some (.cells (c83 (some ⟨q0, 0, none⟩) (some ⟨q1, 0, none⟩) ⟨a0, f0.length, c0⟩ ⟨a1, f1.length, c1⟩ ((n0 : Nat) : Int) ((n1 : Nat) : Int) ⟨b0, s0.length, e0⟩ ⟨b1, s1.length, e1⟩ ⟨d0, r0.length, k0⟩ ⟨d1, r1.length, k1⟩) 83 (0, 0)) ∧ wv.heap[g1]? = some (.cells (c88 x.ai x.an x.bi x.bn (bas x.tx)) 88 (0, 0))) ?_ _ ⟨0, 0, usB [11, 78, 79, 80, 81, 82, 83, 84, 85, 86, 87, 88, 89, 90, 91, 92, 93, 94, 95] rfl rfl ⟨Nat.zero_le _, rfl, GG, ktp, kg1⟩⟩
    clear ktp kg1 GG
    rintro mz az wv ⟨b, kk, us3, rfl, rfl, hb, hkk, GG, ktp, kg1⟩
    have hkl := Yf (r0.take b) x.ai x.an x.bi x.bn
    rw [← hkk, List.length_take] at hkl
    refine wp_seq (wp_region_lit ?_)
    obtain ⟨p3, hp3⟩ : ∃ p, decide (((b : Nat) : Int) < ((i : Nat) : Int)) = p := ⟨_, rfl⟩
    refine sv 78 (.bool p3) (jP 3 _ _ _ rfl ((b : Nat) : Int) ((i : Nat) : Int) rfl rfl p3 hp3 _) ?_
    refine nr ?_; intro U h; simp only [z0, z1] at h; subst h
    cases p3
    have hbi : b = i := by have := of_decide_eq_false hp3; omega
    rw [hbi] at hkk
    rw [← hkk] at hkx
    refine wpList_nil (ja (wp_seq (wp_cond_false rfl (wp_exit (jZ (jZ (zZ (ja (wp_seq (wp_region_lit (mv 12 (vFa) (wpList_nil (ja (wp_seq (wp_seq ?_)))))))))))))))
    refine wp_region_lit (mv 96 (pK tp 0) (mv 97 (iK 0) ?_))
    refine nr ?_; intro U h; simp only [z0, z1] at h; subst h
    refine sv 98 (iK 1) (zm 3 _ _ _ rfl 1 0 1 rfl rfl (by decide) (by decide) (by decide) _) (sv 99 (pK tp 0) (jl _ rfl _ rfl) (sv 100 (pK tp 6) (jc 83 _ 3 rfl _ _ rfl _) ?_))
    refine nr ?_; intro U h; simp only [z0, z1] at h; subst h
    refine sv 101 (pK tp 7) (jY _ _ rfl tp 6 1 (by decide) rfl rfl _) (sv 102 (.slice b1 s1.length e1) (je 80 _ rfl tp 7 rfl 83 _ ktp (na80 _) _ rfl) (sv 103 (iK ((s1.length : Nat) : Int)) (jG Try.underlying80 _ rfl _ _ _ rfl _) ?_))
    refine nr ?_; intro U h; simp only [z0, z1] at h; subst h
    refine mv 104 (iK 0) (wpList_nil (ja (wp_block ?_)))
    refine zl (fun mz az wv => ∃ (m : Nat) (c : Nat) (u : Nat) (us4 : Nat → Value), mz = s1.length - m ∧ az = ⟨[.slice ao ws.length cap, undef, us2 0, pK tp 0, um1 0, um1 1, iK 0, iK ((i : Nat) : Int), pK g1 0, iK ((u : Nat) : Int), undef, us3 0, us4 0, undef, us4 1, .agg (c23 (idK 0 1)), pK q0 0, .agg (c23 (idK 0 2)), pK q1 0, .agg (c77 (some ⟨q0, 0, none⟩) (some ⟨q1, 0, none⟩)), .agg (c83 (some ⟨q0, 0, none⟩) (some ⟨q1, 0, none⟩) Sl.nil Sl.nil 0 0 Sl.nil Sl.nil Sl.nil Sl.nil), pK tp 0, pK tp 0, pK tp 0, pK tp 0, pK tp 0, pK q0 0, vFa, vFa, pK tp 0, pK tp 0, pK tp 0, pK tp 1, pK q1 0, vFa, vFa, vFa, vTr, vFa, vFa, um1 2, um1 3, um1 4, um1 5, um1 6, um1 7, um1 8, um1 9, um1 10, um1 11, um1 12, um1 13, um1 14, iK 0, vTr, iK 0, pK tp 0, iK 0, pK tp 0, pK tp 8, pK tp 8, .slice d0 r0.length k0, iK ((r0.length : Nat) : Int), iK ((i : Nat) : Int), vTr, iK ((i : Nat) : Int), .pointer (some (ad.add (i * 5))), .agg (c88 x.ai x.an x.bi x.bn (bas x.tx)), pK tp 0, iK 0, pK tp 0, pK tp 8, pK tp 8, .slice d0 r0.length k0, iK ((i : Nat) : Int), .slice d0 i k0, iK ((i : Nat) : Int), iK ((b : Nat) : Int), vFa, us3 2, us3 3, us3 4, us3 5, us3 6, us3 7, us3 8, us3 9, us3 10, us3 11, us3 12, us3 13, us3 14, us3 15, us3 16, us3 17, us3 18, pK tp 0, iK 0, iK 1, pK tp 0, pK tp 6, pK tp 7, .slice b1 s1.length e1, iK ((s1.length : Nat) : Int), iK ((m : Nat) : Int), us4 2, us4 3, us4 4, us4 5, us4 6, us4 7, us4 8, us4 9, us4 10, us4 11, us4 12, us4 13, us4 14, us4 15, us4 16, us4 17, us4 18, us4 19, us4 20, us4 21, us4 22, us4 23, us4 24, us4 25, us4 26, us2 73, us2 74, us2 75, us1 87].toArray, []⟩ ∧ m ≤ s1.length ∧ c = (fil (s1.take m) x.bi x.bn x.ai x.an).length ∧ u + c = kk ∧ Gro w1 wv ∧ wv.heap[tp]? = some (.cells (c83 (some ⟨q0, 0, none⟩) (some ⟨q1, 0, none⟩) ⟨a0, f0.length, c0⟩ ⟨a1, f1.length, c1⟩ ((n0 : Nat) : Int) ((n1 : Nat) : Int) ⟨b0, s0.length, e0⟩ ⟨b1, s1.length, e1⟩ ⟨d0, r0.length, k0⟩ ⟨d1, r1.length, k1⟩) 83 (0, 0)) ∧ wv.heap[g1]? = some (.cells (c88 x.ai x.an x.bi x.bn (bas x.tx)) 88 (0, 0))) ?_ _ ⟨0, 0, kk, usB [12, 14, 105, 106, 107, 108, 109, 110, 111, 112, 113, 114, 115, 116, 117, 118, 119, 120, 121, 122, 123, 124, 125, 126, 127, 128, 129] rfl rfl ⟨Nat.zero_le _, rfl, rfl, GG, ktp, kg1⟩⟩
    clear ktp kg1 GG
    rintro mz az wv ⟨m, c, u, us4, rfl, rfl, hm, hc, hu, GG, ktp, kg1⟩
    refine wp_seq (wp_region_lit ?_)
    obtain ⟨p4, hp4⟩ : ∃ p, decide (((m : Nat) : Int) < ((s1.length : Nat) : Int)) = p := ⟨_, rfl⟩
    refine sv 105 (.bool p4) (jP 3 _ _ _ rfl ((m : Nat) : Int) ((s1.length : Nat) : Int) rfl rfl p4 hp4 _) ?_
    refine nr ?_; intro U h; simp only [z0, z1] at h; subst h
    cases p4
    exfalso
    have hmn : m = s1.length := by have := of_decide_eq_false hp4; omega
    rw [hmn, List.take_length] at hc
    have h1 := (List.getElem?_eq_some_iff.1 hkx).1
    omega
    have hmn : m < s1.length := by have := of_decide_eq_true hp4; omega
    obtain ⟨y, hy⟩ : ∃ y, s1[m]? = some y := ⟨_, List.getElem?_eq_getElem hmn⟩
    obtain ⟨ad2, hao2⟩ := (OY.xc H1.t1).some (by omega)
    refine wpList_nil (ja (wp_seq (wp_cond_true rfl (wp_skip (ja (wp_seq (wp_block (wp_seq (wp_region_lit (sv 106 (.pointer (some (ad2.add (m * 5)))) (zI rS _ _ rfl ad2 s1.length e1 m (by exact congrArg (fun a => Value.slice a s1.length e1) hao2) rfl hmn _) (sv 107 (.agg (c88 y.ai y.an y.bi y.bn (bas y.tx))) (yG _ rfl ad2 m rfl (hao2 ▸ OY.gro H1.t1 GG) y hy) ?_)))))))))))
    refine js 14 rfl rfl 88 rfl _ zv88 _ rfl ?_
    intro w8 g2 G eg2 kg2
    have bg2 := jh GG eg2
    have dtpg2 := jf ktp eg2
    have dg1g2 := jf kg1 eg2
    replace ktp := G.has ktp
    replace kg1 := G.has kg1
    replace GG := GG.trans G
    clear G eg2
    refine nr ?_; intro U h; simp only [z0, z1] at h; subst h
    refine jo rfl rfl 88 _ _ rfl g2 0 rfl (.agg (c88 y.ai y.an y.bi y.bn (bas y.tx))) rfl 88 _ kg2 (c88 y.ai y.an y.bi y.bn (bas y.tx)) rfl (by kernel_rfl) (nlB rfl) (by kernel_rfl) (c88 y.ai y.an y.bi y.bn (bas y.tx)) (by kernel_rfl) ?_
    intro w10 St
    replace ktp := St.has (by omega) ktp
    replace kg1 := St.has (by omega) kg1
    replace GG := GG.store St bg2
    replace kg2 := St.new
    clear St
    refine wpList_nil (ja (wp_seq ?_))
    refine jr ?_
    intro OPS hY
    have y5 := hY 5 113 rfl
    clear hY
    refine sv 108 (pK g2 0) (jc 88 _ 0 rfl _ _ rfl _) (sv 109 (.agg (c29 y.ai y.an)) (jk 29 _ rfl g2 0 2 rfl 88 _ kg2 _ Try.underlying29 rfl si29 _) (sv 110 (pK g1 2) (jc 88 _ 1 rfl _ _ rfl _) ?_))
    refine nr ?_; intro U h; simp only [z0, z1] at h; subst h
    refine sv 111 (.agg (c29 x.bi x.bn)) (jk 29 _ rfl g1 2 2 rfl 88 _ kg1 _ Try.underlying29 rfl si29 _) ?_
    refine nr ?_; intro U h; simp only [z0, z1] at h; subst h
    obtain ⟨p5, hp5⟩ : ∃ p, (decide (y.ai = x.bi) && decide (y.an = x.bn)) = p := ⟨_, rfl⟩
    refine sv 112 (.bool p5) (jW _ _ _ rfl y.ai y.an x.bi x.bn rfl rfl p5 hp5 _) ?_
    refine nr ?_; intro U h; simp only [z0, z1] at h; subst h
    cases p5
    have hP : isP x.bi x.bn x.ai x.an y = false := decide_eq_false (fun e => by rw [e.1.1, e.1.2] at hp5; simp at hp5)
    refine yb _ rfl rfl (vFa) rfl ?_
    refine nr ?_; intro U h; simp only [z0, z1] at h; subst h
    iterate 5 (refine jO _ rfl rfl y5 rfl ?_; refine nr ?_; intro U h; simp only [z0, z1] at h; subst h)
    refine yb _ rfl rfl (vFa) rfl ?_
    refine wpList_nil (ja (wp_cond_false rfl (wp_skip (jQ (ja (wp_region_lit (sv 129 (iK ((m + 1 : Nat) : Int)) (jF 3 _ _ _ rfl ((m : Nat) : Int) 1 ((m + 1 : Nat) : Int) rfl rfl (by omega) (by omega) (by omega) _) (mv 104 (iK ((m + 1 : Nat) : Int)) ?_))))))))
    refine nr ?_; intro U h; simp only [z0, z1] at h; subst h
    refine wpList_nil (ja ?_)
    exact ⟨_, (by omega : s1.length - (m + 1) < s1.length - m), m + 1, c, u, usB [12, 14, 105, 106, 107, 108, 109, 110, 111, 112, 113, 114, 115, 116, 117, 118, 119, 120, 121, 122, 123, 124, 125, 126, 127, 128, 129] rfl rfl ⟨hmn, (by rw [zq hy, if_neg (by rw [hP]; exact Bool.false_ne_true), List.append_nil]; exact hc), (by omega), GG, ktp, kg1⟩⟩
    have hA := hp5
    refine mv 113 (vTr) (jn 114 rfl rfl y5 rfl (pK g2 2) (jc 88 _ 1 rfl _ _ rfl _) (jn 115 rfl rfl y5 rfl (.agg (c29 y.bi y.bn)) (jk 29 _ rfl g2 2 2 rfl 88 _ kg2 _ Try.underlying29 rfl si29 _) ?_))
    refine nr ?_; intro U h; simp only [z0, z1] at h; subst h
    refine jn 116 rfl rfl y5 rfl (pK g1 0) (jc 88 _ 0 rfl _ _ rfl _) (jn 117 rfl rfl y5 rfl (.agg (c29 x.ai x.an)) (jk 29 _ rfl g1 0 2 rfl 88 _ kg1 _ Try.underlying29 rfl si29 _) ?_)
    refine nr ?_; intro U h; simp only [z0, z1] at h; subst h
    obtain ⟨p6, hp6⟩ : ∃ p, (decide (y.bi = x.ai) && decide (y.bn = x.an)) = p := ⟨_, rfl⟩
    refine jn 118 rfl rfl y5 rfl (.bool p6) (jW _ _ _ rfl y.bi y.bn x.ai x.an rfl rfl p6 hp6 _) ?_
    refine nr ?_; intro U h; simp only [z0, z1] at h; subst h
    cases p6
    have hP : isP x.bi x.bn x.ai x.an y = false := decide_eq_false (fun e => by rw [e.2.1, e.2.2] at hp6; simp at hp6)
    refine yb _ rfl rfl (vFa) rfl ?_
    refine wpList_nil (ja (wp_cond_false rfl (wp_skip (jQ (ja (wp_region_lit (sv 129 (iK ((m + 1 : Nat) : Int)) (jF 3 _ _ _ rfl ((m : Nat) : Int) 1 ((m + 1 : Nat) : Int) rfl rfl (by omega) (by omega) (by omega) _) (mv 104 (iK ((m + 1 : Nat) : Int)) ?_))))))))
    refine nr ?_; intro U h; simp only [z0, z1] at h; subst h
    refine wpList_nil (ja ?_)
    exact ⟨_, (by omega : s1.length - (m + 1) < s1.length - m), m + 1, c, u, usB [12, 14, 105, 106, 107, 108, 109, 110, 111, 112, 113, 114, 115, 116, 117, 118, 119, 120, 121, 122, 123, 124, 125, 126, 127, 128, 129] rfl rfl ⟨hmn, (by rw [zq hy, if_neg (by rw [hP]; exact Bool.false_ne_true), List.append_nil]; exact hc), (by omega), GG, ktp, kg1⟩⟩
    have hP : isP x.bi x.bn x.ai x.an y = true := decide_eq_true (by simp only [Bool.and_eq_true, decide_eq_true_eq] at hA hp6; exact ⟨hA, hp6⟩)
    refine mv 119 (vTr) (wpList_nil (ja (wp_cond_true rfl (wp_seq (wp_seq (wp_region_lit (mv 120 (iK ((u : Nat) : Int)) ?_)))))))
    refine nr ?_; intro U h; simp only [z0, z1] at h; subst h
    obtain ⟨p7, hp7⟩ : ∃ p, decide (((u : Nat) : Int) = 0) = p := ⟨_, rfl⟩
    refine sv 121 (.bool p7) (jg 3 .i64 _ _ _ rfl Try.underlying3 ((u : Nat) : Int) 0 rfl rfl p7 hp7 _) ?_
    refine nr ?_; intro U h; simp only [z0, z1] at h; subst h
    cases p7
    have hu0 : u ≠ 0 := by have := of_decide_eq_false hp7; omega
    refine wpList_nil (ja (wp_cond_false rfl (wp_skip (ja (wp_region_lit (mv 127 (iK ((u : Nat) : Int)) (sv 128 (iK ((u - 1 : Nat) : Int)) (zm 3 _ _ _ rfl ((u : Nat) : Int) 1 ((u - 1 : Nat) : Int) rfl rfl (by omega) (by omega) (by omega) _) (mv 9 (iK ((u - 1 : Nat) : Int)) ?_))))))))
    refine nr ?_; intro U h; simp only [z0, z1] at h; subst h
    refine wpList_nil (jQ (ja (wp_region_lit (sv 129 (iK ((m + 1 : Nat) : Int)) (jF 3 _ _ _ rfl ((m : Nat) : Int) 1 ((m + 1 : Nat) : Int) rfl rfl (by omega) (by omega) (by omega) _) (mv 104 (iK ((m + 1 : Nat) : Int)) (wpList_nil (ja ?_)))))))
    exact ⟨_, (by omega : s1.length - (m + 1) < s1.length - m), m + 1, c + 1, u - 1, usB [12, 14, 105, 106, 107, 108, 109, 110, 111, 112, 113, 114, 115, 116, 117, 118, 119, 120, 121, 122, 123, 124, 125, 126, 127, 128, 129] rfl rfl ⟨hmn, (by rw [zq hy, if_pos hP, List.length_append, ← hc]; rfl), (by omega), GG, ktp, kg1⟩⟩
    have hu0 : u = 0 := by have := of_decide_eq_true hp7; omega
    have hyx : y.tx = x.tx := by
      have h1 := uM hy hP
      have e : c = kk := by omega
      rw [← hc, e, hkx] at h1
      exact (Option.some.inj h1).symm
    refine wpList_nil (ja (wp_cond_true rfl (wp_seq (wp_region_lit (sv 122 (pK g2 4) (jc 88 _ 2 rfl _ _ rfl _) ?_)))))
    refine nr ?_; intro U h; simp only [z0, z1] at h; subst h
    refine sv 123 (.string (bas y.tx)) (je 9 _ rfl g2 4 rfl 88 _ kg2 (na9 _) _ rfl) (sv 124 (pK g1 4) (jc 88 _ 2 rfl _ _ rfl _) (sv 125 (.string (bas x.tx)) (je 9 _ rfl g1 4 rfl 88 _ kg1 (na9 _) _ rfl) ?_))
    refine nr ?_; intro U h; simp only [z0, z1] at h; subst h
    refine sv 126 (vTr) (vL _ _ _ rfl _ _ rfl rfl true (decide_eq_true (by rw [hyx])) _) (mv 12 (vTr) (wpList_nil (ja (wp_exit (jZ ?_)))))
    refine JN (by decide) ?_
    refine jZ (jZ (zZ (ja (wp_seq (wp_region_lit (mv 130 (vTr) ?_))))))
    refine nr ?_; intro U h; simp only [z0, z1] at h; subst h
    refine sv 131 (vFa) (jU _ _ rfl true rfl) (wpList_nil (ja (wp_cond_false rfl (wp_skip (jQ (ja (wp_region_lit (sv 132 (iK ((i + 1 : Nat) : Int)) (jF 3 _ _ _ rfl ((i : Nat) : Int) 1 ((i + 1 : Nat) : Int) rfl rfl (by omega) (by omega) (by omega) _) (mv 63 (iK ((i + 1 : Nat) : Int)) ?_)))))))))
    refine nr ?_; intro U h; simp only [z0, z1] at h; subst h
    refine wpList_nil (ja ?_)
    exact ⟨_, (by omega : r0.length - (i + 1) < r0.length - i), i + 1, usB [2, 7, 8, 9, 11, 12, 14, 64, 65, 66, 67, 68, 69, 70, 71, 72, 73, 74, 75, 76, 77, 78, 79, 80, 81, 82, 83, 84, 85, 86, 87, 88, 89, 90, 91, 92, 93, 94, 95, 96, 97, 98, 99, 100, 101, 102, 103, 104, 105, 106, 107, 108, 109, 110, 111, 112, 113, 114, 115, 116, 117, 118, 119, 120, 121, 122, 123, 124, 125, 126, 127, 128, 129, 130, 131, 132] rfl rfl ⟨hin, GG, ktp⟩⟩
    have hbi : b < i := by have := of_decide_eq_true hp3; omega
    obtain ⟨y, hy⟩ : ∃ y, r0[b]? = some y := ⟨_, List.getElem?_eq_getElem (by omega)⟩
    refine wpList_nil (ja (wp_seq (wp_cond_true rfl (wp_skip (ja (wp_seq (wp_block (wp_seq (wp_region_lit (sv 79 (.pointer (some (ad.add (b * 5)))) (zI rS _ _ rfl ad i k0 b (by exact congrArg (fun a => Value.slice a i k0) hao) rfl hbi _) (sv 80 (.agg (c88 y.ai y.an y.bi y.bn (bas y.tx))) (yG _ rfl ad b rfl (hao ▸ OY.gro H1.u0 GG) y hy) ?_)))))))))))
    refine js 11 rfl rfl 88 rfl _ zv88 _ rfl ?_
    intro w8 g2 G eg2 kg2
    have bg2 := jh GG eg2
    have dtpg2 := jf ktp eg2
    have dg1g2 := jf kg1 eg2
    replace ktp := G.has ktp
    replace kg1 := G.has kg1
    replace GG := GG.trans G
    clear G eg2
    refine nr ?_; intro U h; simp only [z0, z1] at h; subst h
    refine jo rfl rfl 88 _ _ rfl g2 0 rfl (.agg (c88 y.ai y.an y.bi y.bn (bas y.tx))) rfl 88 _ kg2 (c88 y.ai y.an y.bi y.bn (bas y.tx)) rfl (by kernel_rfl) (nlB rfl) (by kernel_rfl) (c88 y.ai y.an y.bi y.bn (bas y.tx)) (by kernel_rfl) ?_
    intro w10 St
    replace ktp := St.has (by omega) ktp
    replace kg1 := St.has (by omega) kg1
    replace GG := GG.store St bg2
    replace kg2 := St.new
    clear St
    refine wpList_nil (ja (wp_seq ?_))
    refine jr ?_
    intro OPS hY
    have y5 := hY 5 86 rfl
    clear hY
    refine sv 81 (pK g2 0) (jc 88 _ 0 rfl _ _ rfl _) (sv 82 (.agg (c29 y.ai y.an)) (jk 29 _ rfl g2 0 2 rfl 88 _ kg2 _ Try.underlying29 rfl si29 _) (sv 83 (pK g1 0) (jc 88 _ 0 rfl _ _ rfl _) ?_))
    refine nr ?_; intro U h; simp only [z0, z1] at h; subst h
    refine sv 84 (.agg (c29 x.ai x.an)) (jk 29 _ rfl g1 0 2 rfl 88 _ kg1 _ Try.underlying29 rfl si29 _) ?_
    refine nr ?_; intro U h; simp only [z0, z1] at h; subst h
    obtain ⟨p4, hp4⟩ : ∃ p, (decide (y.ai = x.ai) && decide (y.an = x.an)) = p := ⟨_, rfl⟩
    refine sv 85 (.bool p4) (jW _ _ _ rfl y.ai y.an x.ai x.an rfl rfl p4 hp4 _) ?_
    refine nr ?_; intro U h; simp only [z0, z1] at h; subst h
    cases p4
    have hP : isP x.ai x.an x.bi x.bn y = false := decide_eq_false (fun e => by rw [e.1.1, e.1.2] at hp4; simp at hp4)
    refine yb _ rfl rfl (vFa) rfl ?_
    refine nr ?_; intro U h; simp only [z0, z1] at h; subst h
    iterate 5 (refine jO _ rfl rfl y5 rfl ?_; refine nr ?_; intro U h; simp only [z0, z1] at h; subst h)
    refine yb _ rfl rfl (vFa) rfl ?_
    refine wpList_nil (ja (wp_cond_false rfl (wp_skip (jQ (ja (wp_region_lit (sv 95 (iK ((b + 1 : Nat) : Int)) (jF 3 _ _ _ rfl ((b : Nat) : Int) 1 ((b + 1 : Nat) : Int) rfl rfl (by omega) (by omega) (by omega) _) (mv 77 (iK ((b + 1 : Nat) : Int)) ?_))))))))
    refine nr ?_; intro U h; simp only [z0, z1] at h; subst h
    refine wpList_nil (ja ?_)
    exact ⟨_, (by omega : i - (b + 1) < i - b), b + 1, kk, usB [11, 78, 79, 80, 81, 82, 83, 84, 85, 86, 87, 88, 89, 90, 91, 92, 93, 94, 95] rfl rfl ⟨hbi, (by rw [zq hy, if_neg (by rw [hP]; exact Bool.false_ne_true), List.append_nil]; exact hkk), GG, ktp, kg1⟩⟩
    have hA := hp4
    refine mv 86 (vTr) (jn 87 rfl rfl y5 rfl (pK g2 2) (jc 88 _ 1 rfl _ _ rfl _) (jn 88 rfl rfl y5 rfl (.agg (c29 y.bi y.bn)) (jk 29 _ rfl g2 2 2 rfl 88 _ kg2 _ Try.underlying29 rfl si29 _) ?_))
    refine nr ?_; intro U h; simp only [z0, z1] at h; subst h
    refine jn 89 rfl rfl y5 rfl (pK g1 2) (jc 88 _ 1 rfl _ _ rfl _) (jn 90 rfl rfl y5 rfl (.agg (c29 x.bi x.bn)) (jk 29 _ rfl g1 2 2 rfl 88 _ kg1 _ Try.underlying29 rfl si29 _) ?_)
    refine nr ?_; intro U h; simp only [z0, z1] at h; subst h
    obtain ⟨p5, hp5⟩ : ∃ p, (decide (y.bi = x.bi) && decide (y.bn = x.bn)) = p := ⟨_, rfl⟩
    refine jn 91 rfl rfl y5 rfl (.bool p5) (jW _ _ _ rfl y.bi y.bn x.bi x.bn rfl rfl p5 hp5 _) ?_
    refine nr ?_; intro U h; simp only [z0, z1] at h; subst h
    cases p5
    have hP : isP x.ai x.an x.bi x.bn y = false := decide_eq_false (fun e => by rw [e.2.1, e.2.2] at hp5; simp at hp5)
    refine yb _ rfl rfl (vFa) rfl ?_
    refine wpList_nil (ja (wp_cond_false rfl (wp_skip (jQ (ja (wp_region_lit (sv 95 (iK ((b + 1 : Nat) : Int)) (jF 3 _ _ _ rfl ((b : Nat) : Int) 1 ((b + 1 : Nat) : Int) rfl rfl (by omega) (by omega) (by omega) _) (mv 77 (iK ((b + 1 : Nat) : Int)) ?_))))))))
    refine nr ?_; intro U h; simp only [z0, z1] at h; subst h
    refine wpList_nil (ja ?_)
    exact ⟨_, (by omega : i - (b + 1) < i - b), b + 1, kk, usB [11, 78, 79, 80, 81, 82, 83, 84, 85, 86, 87, 88, 89, 90, 91, 92, 93, 94, 95] rfl rfl ⟨hbi, (by rw [zq hy, if_neg (by rw [hP]; exact Bool.false_ne_true), List.append_nil]; exact hkk), GG, ktp, kg1⟩⟩
    have hP : isP x.ai x.an x.bi x.bn y = true := decide_eq_true (by simp only [Bool.and_eq_true, decide_eq_true_eq] at hA hp5; exact ⟨hA, hp5⟩)
    refine mv 92 (vTr) (wpList_nil (ja (wp_cond_true rfl (wp_region_lit (mv 93 (iK ((kk : Nat) : Int)) (sv 94 (iK ((kk + 1 : Nat) : Int)) (jF 3 _ _ _ rfl ((kk : Nat) : Int) 1 ((kk + 1 : Nat) : Int) rfl rfl (by omega) (by omega) (by omega) _) ?_))))))
    refine nr ?_; intro U h; simp only [z0, z1] at h; subst h
    refine mv 9 (iK ((kk + 1 : Nat) : Int)) (wpList_nil (jQ (ja (wp_region_lit (sv 95 (iK ((b + 1 : Nat) : Int)) (jF 3 _ _ _ rfl ((b : Nat) : Int) 1 ((b + 1 : Nat) : Int) rfl rfl (by omega) (by omega) (by omega) _) (mv 77 (iK ((b + 1 : Nat) : Int)) ?_))))))
    refine nr ?_; intro U h; simp only [z0, z1] at h; subst h
    refine wpList_nil (ja ?_)
    exact ⟨_, (by omega : i - (b + 1) < i - b), b + 1, kk + 1, usB [11, 78, 79, 80, 81, 82, 83, 84, 85, 86, 87, 88, 89, 90, 91, 92, 93, 94, 95] rfl rfl ⟨hbi, (by rw [zq hy, if_pos hP, List.length_append, ← hkk]; rfl), GG, ktp, kg1⟩⟩
    refine mv 55 (iK 1) (mv 6 (iK 1) (wpList_nil (ja (wp_seq (wp_region_lit (mv 56 (pK tp 0) ?_))))))
    refine nr ?_; intro U h; simp only [z0, z1] at h; subst h
    refine mv 57 (iK 1) (sv 58 (pK tp 0) (jl _ rfl _ rfl) (sv 59 (pK tp 8) (jc 83 _ 4 rfl _ _ rfl _) ?_))
    refine nr ?_; intro U h; simp only [z0, z1] at h; subst h
    refine sv 60 (pK tp 9) (jY _ _ rfl tp 8 1 (by decide) rfl rfl _) (sv 61 (.slice d1 r1.length k1) (je 80 _ rfl tp 9 rfl 83 _ ktp (na80 _) _ rfl) (sv 62 (iK ((r1.length : Nat) : Int)) (jG Try.underlying80 _ rfl _ _ _ rfl _) ?_))
    refine nr ?_; intro U h; simp only [z0, z1] at h; subst h
    refine mv 63 (iK 0) (wpList_nil (ja (wp_block ?_)))
    refine zl (fun mz az wv => ∃ (i : Nat) (us2 : Nat → Value), mz = r1.length - i ∧ az = ⟨[.slice ao ws.length cap, undef, us2 0, pK tp 0, um1 0, um1 1, iK 1, us2 1, us2 2, us2 3, undef, us2 4, us2 5, undef, us2 6, .agg (c23 (idK 0 1)), pK q0 0, .agg (c23 (idK 0 2)), pK q1 0, .agg (c77 (some ⟨q0, 0, none⟩) (some ⟨q1, 0, none⟩)), .agg (c83 (some ⟨q0, 0, none⟩) (some ⟨q1, 0, none⟩) Sl.nil Sl.nil 0 0 Sl.nil Sl.nil Sl.nil Sl.nil), pK tp 0, pK tp 0, pK tp 0, pK tp 0, pK tp 0, pK q0 0, vFa, vFa, pK tp 0, pK tp 0, pK tp 0, pK tp 1, pK q1 0, vFa, vFa, vFa, vTr, vFa, vFa, um1 2, um1 3, um1 4, um1 5, um1 6, um1 7, um1 8, um1 9, um1 10, um1 11, um1 12, um1 13, um1 14, iK 1, vTr, iK 1, pK tp 0, iK 1, pK tp 0, pK tp 8, pK tp 9, .slice d1 r1.length k1, iK ((r1.length : Nat) : Int), iK ((i : Nat) : Int), us2 7, us2 8, us2 9, us2 10, us2 11, us2 12, us2 13, us2 14, us2 15, us2 16, us2 17, us2 18, us2 19, us2 20, us2 21, us2 22, us2 23, us2 24, us2 25, us2 26, us2 27, us2 28, us2 29, us2 30, us2 31, us2 32, us2 33, us2 34, us2 35, us2 36, us2 37, us2 38, us2 39, us2 40, us2 41, us2 42, us2 43, us2 44, us2 45, us2 46, us2 47, us2 48, us2 49, us2 50, us2 51, us2 52, us2 53, us2 54, us2 55, us2 56, us2 57, us2 58, us2 59, us2 60, us2 61, us2 62, us2 63, us2 64, us2 65, us2 66, us2 67, us2 68, us2 69, us2 70, us2 71, us2 72, us2 73, us2 74, us2 75, us1 87].toArray, []⟩ ∧ i ≤ r1.length ∧ Gro w1 wv ∧ wv.heap[tp]? = some (.cells (c83 (some ⟨q0, 0, none⟩) (some ⟨q1, 0, none⟩) ⟨a0, f0.length, c0⟩ ⟨a1, f1.length, c1⟩ ((n0 : Nat) : Int) ((n1 : Nat) : Int) ⟨b0, s0.length, e0⟩ ⟨b1, s1.length, e1⟩ ⟨d0, r0.length, k0⟩ ⟨d1, r1.length, k1⟩) 83 (0, 0))) ?_ _ ⟨0, usB [2, 7, 8, 9, 11, 12, 14, 64, 65, 66, 67, 68, 69, 70, 71, 72, 73, 74, 75, 76, 77, 78, 79, 80, 81, 82, 83, 84, 85, 86, 87, 88, 89, 90, 91, 92, 93, 94, 95, 96, 97, 98, 99, 100, 101, 102, 103, 104, 105, 106, 107, 108, 109, 110, 111, 112, 113, 114, 115, 116, 117, 118, 119, 120, 121, 122, 123, 124, 125, 126, 127, 128, 129, 130, 131, 132] rfl rfl ⟨Nat.zero_le _, GG, ktp⟩⟩
    clear ktp GG
    rintro mz az wv ⟨i, us2, rfl, rfl, hi, GG, ktp⟩
    refine wp_seq (wp_region_lit ?_)
    obtain ⟨p2, hp2⟩ : ∃ p, decide (((i : Nat) : Int) < ((r1.length : Nat) : Int)) = p := ⟨_, rfl⟩
    refine sv 64 (.bool p2) (jP 3 _ _ _ rfl ((i : Nat) : Int) ((r1.length : Nat) : Int) rfl rfl p2 hp2 _) ?_
    refine nr ?_; intro U h; simp only [z0, z1] at h; subst h
    cases p2
    refine wpList_nil (ja (wp_seq (wp_cond_false rfl (wp_exit (jZ (jZ (zZ (jQ (ja (wp_region_lit (sv 133 (iK ((1 + 1 : Nat) : Int)) (jF 3 _ _ _ rfl ((1 : Nat) : Int) 1 ((1 + 1 : Nat) : Int) rfl rfl (by omega) (by omega) (by omega) _) (mv 53 (iK ((1 + 1 : Nat) : Int)) (wpList_nil (ja ?_))))))))))))))
    exact ⟨_, (by omega : 2 - (1 + 1) < 2 - 1), 1 + 1, (fun kz => ([us2 0, iK 1, us2 1, us2 2, us2 3, us2 4, us2 5, us2 6, vTr, iK 1, pK tp 0, iK 1, pK tp 0, pK tp 8, pK tp 9, .slice d1 r1.length k1, iK ((r1.length : Nat) : Int), iK ((i : Nat) : Int), vFa, us2 8, us2 9, us2 10, us2 11, us2 12, us2 13, us2 14, us2 15, us2 16, us2 17, us2 18, us2 19, us2 20, us2 21, us2 22, us2 23, us2 24, us2 25, us2 26, us2 27, us2 28, us2 29, us2 30, us2 31, us2 32, us2 33, us2 34, us2 35, us2 36, us2 37, us2 38, us2 39, us2 40, us2 41, us2 42, us2 43, us2 44, us2 45, us2 46, us2 47, us2 48, us2 49, us2 50, us2 51, us2 52, us2 53, us2 54, us2 55, us2 56, us2 57, us2 58, us2 59, us2 60, us2 61, us2 62, us2 63, us2 64, us2 65, us2 66, us2 67, us2 68, us2 69, us2 70, us2 71, us2 72, us2 73, us2 74, us2 75, iK ((1 + 1 : Nat) : Int)] : List Value).getD kz undef), rfl, rfl, (by omega), GG, ktp⟩
    have hin : i < r1.length := by have := of_decide_eq_true hp2; omega
    obtain ⟨x, hx⟩ : ∃ x, r1[i]? = some x := ⟨_, List.getElem?_eq_getElem hin⟩
    have hkx := hI.u.at hx
    obtain ⟨ad, hao⟩ := (OY.xc H1.u1).some (by omega)
    have hfit := (OY.xc H1.u1).fit
    have hrl : r1.length ≤ 10000 := by have := hI.b.lg; omega
    have hsl : s0.length ≤ 10000 := by have := hI.a.ls; omega
    refine wpList_nil (ja (wp_seq (wp_cond_true rfl (wp_skip (ja (wp_seq (wp_block (wp_seq (wp_region_lit (mv 65 (iK ((i : Nat) : Int)) ?_))))))))))
    refine nr ?_; intro U h; simp only [z0, z1] at h; subst h
    refine sv 66 (.pointer (some (ad.add (i * 5)))) (zI rS _ _ rfl ad r1.length k1 i (by exact congrArg (fun a => Value.slice a r1.length k1) hao) rfl hin _) (sv 67 (.agg (c88 x.ai x.an x.bi x.bn (bas x.tx))) (yG _ rfl ad i rfl (hao ▸ OY.gro H1.u1 GG) x hx) ?_)
    refine js 8 rfl rfl 88 rfl _ zv88 _ rfl ?_
    intro w5 g1 G eg1 kg1
    have bg1 := jh GG eg1
    have dtpg1 := jf ktp eg1
    replace ktp := G.has ktp
    replace GG := GG.trans G
    clear G eg1
    refine nr ?_; intro U h; simp only [z0, z1] at h; subst h
    refine mv 7 (iK ((i : Nat) : Int)) ?_
    refine jo rfl rfl 88 _ _ rfl g1 0 rfl (.agg (c88 x.ai x.an x.bi x.bn (bas x.tx))) rfl 88 _ kg1 (c88 x.ai x.an x.bi x.bn (bas x.tx)) rfl (by kernel_rfl) (nlB rfl) (by kernel_rfl) (c88 x.ai x.an x.bi x.bn (bas x.tx)) (by kernel_rfl) ?_
    intro w7 St
    replace ktp := St.has (by omega) ktp
    replace GG := GG.store St bg1
    replace kg1 := St.new
    clear St
    refine wpList_nil (ja (wp_seq (wp_region_lit (mv 9 (iK 0) (wpList_nil (ja (wp_seq (wp_seq (wp_region_lit (mv 68 (pK tp 0) ?_))))))))))
    refine nr ?_; intro U h; simp only [z0, z1] at h; subst h
    refine mv 69 (iK 1) (sv 70 (pK tp 0) (jl _ rfl _ rfl) (sv 71 (pK tp 8) (jc 83 _ 4 rfl _ _ rfl _) ?_))
    refine nr ?_; intro U h; simp only [z0, z1] at h; subst h
    refine sv 72 (pK tp 9) (jY _ _ rfl tp 8 1 (by decide) rfl rfl _) (sv 73 (.slice d1 r1.length k1) (je 80 _ rfl tp 9 rfl 83 _ ktp (na80 _) _ rfl) (mv 74 (iK ((i : Nat) : Int)) ?_))
    refine nr ?_; intro U h; simp only [z0, z1] at h; subst h
    refine sv 75 (.slice d1 i k1) (zT rS _ _ rfl _ _ _ i rfl rfl (by omega) _) (sv 76 (iK ((i : Nat) : Int)) (jG Try.underlying80 _ rfl _ _ _ rfl _) (mv 77 (iK 0) ?_))
    refine nr ?_; intro U h; simp only [z0, z1] at h; subst h
    refine wpList_nil (ja (wp_block ?_))
    refine zl (fun mz az wv => ∃ (b : Nat) (kk : Nat) (us3 : Nat → Value), mz = i - b ∧ az = ⟨[.slice ao ws.length cap, undef, us2 0, pK tp 0, um1 0, um1 1, iK 1, iK ((i : Nat) : Int), pK g1 0, iK ((kk : Nat) : Int), undef, us3 0, us2 5, undef, us2 6, .agg (c23 (idK 0 1)), pK q0 0, .agg (c23 (idK 0 2)), pK q1 0, .agg (c77 (some ⟨q0, 0, none⟩) (some ⟨q1, 0, none⟩)), .agg (c83 (some ⟨q0, 0, none⟩) (some ⟨q1, 0, none⟩) Sl.nil Sl.nil 0 0 Sl.nil Sl.nil Sl.nil Sl.nil), pK tp 0, pK tp 0, pK tp 0, pK tp 0, pK tp 0, pK q0 0, vFa, vFa, pK tp 0, pK tp 0, pK tp 0, pK tp 1, pK q1 0, vFa, vFa, vFa, vTr, vFa, vFa, um1 2, um1 3, um1 4, um1 5, um1 6, um1 7, um1 8, um1 9, um1 10, um1 11, um1 12, um1 13, um1 14, iK 1, vTr, iK 1, pK tp 0, iK 1, pK tp 0, pK tp 8, pK tp 9, .slice d1 r1.length k1, iK ((r1.length : Nat) : Int), iK ((i : Nat) : Int), vTr, iK ((i : Nat) : Int), .pointer (some (ad.add (i * 5))), .agg (c88 x.ai x.an x.bi x.bn (bas x.tx)), pK tp 0, iK 1, pK tp 0, pK tp 8, pK tp 9, .slice d1 r1.length k1, iK ((i : Nat) : Int), .slice d1 i k1, iK ((i : Nat) : Int), iK ((b : Nat) : Int), us3 1, us3 2, us3 3, us3 4, us3 5, us3 6, us3 7, us3 8, us3 9, us3 10, us3 11, us3 12, us3 13, us3 14, us3 15, us3 16, us3 17, us3 18, us2 39, us2 40, us2 41, us2 42, us2 43, us2 44, us2 45, us2 46, us2 47, us2 48, us2 49, us2 50, us2 51, us2 52, us2 53, us2 54, us2 55, us2 56, us2 57, us2 58, us2 59, us2 60, us2 61, us2 62, us2 63, us2 64, us2 65, us2 66, us2 67, us2 68, us2 69, us2 70, us2 71, us2 72, us2 73, us2 74, us2 75, us1 87].toArray, []⟩ ∧ b ≤ i ∧ kk = (fil (r1.take b) x.ai x.an x.bi x.bn).length ∧ Gro w1 wv ∧ wv.heap[tp]? = some (.cells (c83 (some ⟨q0, 0, none⟩) (some ⟨q1, 0, none⟩) ⟨a0, f0.length, c0⟩ ⟨a1, f1.length, c1⟩ ((n0 : Nat) : Int) ((n1 : Nat) : Int) ⟨b0, s0.length, e0⟩ ⟨b1, s1.length, e1⟩ ⟨d0, r0.length, k0⟩ ⟨d1, r1.length, k1⟩) 83 (0, 0)) ∧ wv.heap[g1]? = some (.cells (c88 x.ai x.an x.bi x.bn (bas x.tx)) 88 (0, 0))) ?_ _ ⟨0, 0, usB [11, 78, 79, 80, 81, 82, 83, 84, 85, 86, 87, 88, 89, 90, 91, 92, 93, 94, 95] rfl rfl ⟨Nat.zero_le _, rfl, GG, ktp, kg1⟩⟩
    clear ktp kg1 GG
    rintro mz az wv ⟨b, kk, us3, rfl, rfl, hb, hkk, GG, ktp, kg1⟩
    have hkl := Yf (r1.take b) x.ai x.an x.bi x.bn
    rw [← hkk, List.length_take] at hkl
    refine wp_seq (wp_region_lit ?_)
    obtain ⟨p3, hp3⟩ : ∃ p, decide (((b : Nat) : Int) < ((i : Nat) : Int)) = p := ⟨_, rfl⟩
    refine sv 78 (.bool p3) (jP 3 _ _ _ rfl ((b : Nat) : Int) ((i : Nat) : Int) rfl rfl p3 hp3 _) ?_
    refine nr ?_; intro U h; simp only [z0, z1] at h; subst h
    cases p3
    have hbi : b = i := by have := of_decide_eq_false hp3; omega
    rw [hbi] at hkk
    rw [← hkk] at hkx
    refine wpList_nil (ja (wp_seq (wp_cond_false rfl (wp_exit (jZ (jZ (zZ (ja (wp_seq (wp_region_lit (mv 12 (vFa) (wpList_nil (ja (wp_seq (wp_seq ?_)))))))))))))))
    refine wp_region_lit (mv 96 (pK tp 0) (mv 97 (iK 1) ?_))
    refine nr ?_; intro U h; simp only [z0, z1] at h; subst h
    refine sv 98 (iK 0) (zm 3 _ _ _ rfl 1 1 0 rfl rfl (by decide) (by decide) (by decide) _) (sv 99 (pK tp 0) (jl _ rfl _ rfl) (sv 100 (pK tp 6) (jc 83 _ 3 rfl _ _ rfl _) ?_))
    refine nr ?_; intro U h; simp only [z0, z1] at h; subst h
    refine sv 101 (pK tp 6) (jY _ _ rfl tp 6 0 (by decide) rfl rfl _) (sv 102 (.slice b0 s0.length e0) (je 80 _ rfl tp 6 rfl 83 _ ktp (na80 _) _ rfl) (sv 103 (iK ((s0.length : Nat) : Int)) (jG Try.underlying80 _ rfl _ _ _ rfl _) ?_))
    refine nr ?_; intro U h; simp only [z0, z1] at h; subst h
    refine mv 104 (iK 0) (wpList_nil (ja (wp_block ?_)))
    refine zl (fun mz az wv => ∃ (m : Nat) (c : Nat) (u : Nat) (us4 : Nat → Value), mz = s0.length - m ∧ az = ⟨[.slice ao ws.length cap, undef, us2 0, pK tp 0, um1 0, um1 1, iK 1, iK ((i : Nat) : Int), pK g1 0, iK ((u : Nat) : Int), undef, us3 0, us4 0, undef, us4 1, .agg (c23 (idK 0 1)), pK q0 0, .agg (c23 (idK 0 2)), pK q1 0, .agg (c77 (some ⟨q0, 0, none⟩) (some ⟨q1, 0, none⟩)), .agg (c83 (some ⟨q0, 0, none⟩) (some ⟨q1, 0, none⟩) Sl.nil Sl.nil 0 0 Sl.nil Sl.nil Sl.nil Sl.nil), pK tp 0, pK tp 0, pK tp 0, pK tp 0, pK tp 0, pK q0 0, vFa, vFa, pK tp 0, pK tp 0, pK tp 0, pK tp 1, pK q1 0, vFa, vFa, vFa, vTr, vFa, vFa, um1 2, um1 3, um1 4, um1 5, um1 6, um1 7, um1 8, um1 9, um1 10, um1 11, um1 12, um1 13, um1 14, iK 1, vTr, iK 1, pK tp 0, iK 1, pK tp 0, pK tp 8, pK tp 9, .slice d1 r1.length k1, iK ((r1.length : Nat) : Int), iK ((i : Nat) : Int), vTr, iK ((i : Nat) : Int), .pointer (some (ad.add (i * 5))), .agg (c88 x.ai x.an x.bi x.bn (bas x.tx)), pK tp 0, iK 1, pK tp 0, pK tp 8, pK tp 9, .slice d1 r1.length k1, iK ((i : Nat) : Int), .slice d1 i k1, iK ((i : Nat) : Int), iK ((b : Nat) : Int), vFa, us3 2, us3 3, us3 4, us3 5, us3 6, us3 7, us3 8, us3 9, us3 10, us3 11, us3 12, us3 13, us3 14, us3 15, us3 16, us3 17, us3 18, pK tp 0, iK 1, iK 0, pK tp 0, pK tp 6, pK tp 6, .slice b0 s0.length e0, iK ((s0.length : Nat) : Int), iK ((m : Nat) : Int), us4 2, us4 3, us4 4, us4 5, us4 6, us4 7, us4 8, us4 9, us4 10, us4 11, us4 12, us4 13, us4 14, us4 15, us4 16, us4 17, us4 18, us4 19, us4 20, us4 21, us4 22, us4 23, us4 24, us4 25, us4 26, us2 73, us2 74, us2 75, us1 87].toArray, []⟩ ∧ m ≤ s0.length ∧ c = (fil (s0.take m) x.bi x.bn x.ai x.an).length ∧ u + c = kk ∧ Gro w1 wv ∧ wv.heap[tp]? = some (.cells (c83 (some ⟨q0, 0, none⟩) (some ⟨q1, 0, none⟩) ⟨a0, f0.length, c0⟩ ⟨a1, f1.length, c1⟩ ((n0 : Nat) : Int) ((n1 : Nat) : Int) ⟨b0, s0.length, e0⟩ ⟨b1, s1.length, e1⟩ ⟨d0, r0.length, k0⟩ ⟨d1, r1.length, k1⟩) 83 (0, 0)) ∧ wv.heap[g1]? = some (.cells (c88 x.ai x.an x.bi x.bn (bas x.tx)) 88 (0, 0))) ?_ _ ⟨0, 0, kk, usB [12, 14, 105, 106, 107, 108, 109, 110, 111, 112, 113, 114, 115, 116, 117, 118, 119, 120, 121, 122, 123, 124, 125, 126, 127, 128, 129] rfl rfl ⟨Nat.zero_le _, rfl, rfl, GG, ktp, kg1⟩⟩
    clear ktp kg1 GG
    rintro mz az wv ⟨m, c, u, us4, rfl, rfl, hm, hc, hu, GG, ktp, kg1⟩
    refine wp_seq (wp_region_lit ?_)
    obtain ⟨p4, hp4⟩ : ∃ p, decide (((m : Nat) : Int) < ((s0.length : Nat) : Int)) = p := ⟨_, rfl⟩
    refine sv 105 (.bool p4) (jP 3 _ _ _ rfl ((m : Nat) : Int) ((s0.length : Nat) : Int) rfl rfl p4 hp4 _) ?_
    refine nr ?_; intro U h; simp only [z0, z1] at h; subst h
    cases p4
    exfalso
    have hmn : m = s0.length := by have := of_decide_eq_false hp4; omega
    rw [hmn, List.take_length] at hc
    have h1 := (List.getElem?_eq_some_iff.1 hkx).1
    omega
    have hmn : m < s0.length := by have := of_decide_eq_true hp4; omega
    obtain ⟨y, hy⟩ : ∃ y, s0[m]? = some y := ⟨_, List.getElem?_eq_getElem hmn⟩
    obtain ⟨ad2, hao2⟩ := (OY.xc H1.t0).some (by omega)
    refine wpList_nil (ja (wp_seq (wp_cond_true rfl (wp_skip (ja (wp_seq (wp_block (wp_seq (wp_region_lit (sv 106 (.pointer (some (ad2.add (m * 5)))) (zI rS _ _ rfl ad2 s0.length e0 m (by exact congrArg (fun a => Value.slice a s0.length e0) hao2) rfl hmn _) (sv 107 (.agg (c88 y.ai y.an y.bi y.bn (bas y.tx))) (yG _ rfl ad2 m rfl (hao2 ▸ OY.gro H1.t0 GG) y hy) ?_)))))))))))
    refine js 14 rfl rfl 88 rfl _ zv88 _ rfl ?_
    intro w8 g2 G eg2 kg2
    have bg2 := jh GG eg2
    have dtpg2 := jf ktp eg2
    have dg1g2 := jf kg1 eg2
    replace ktp := G.has ktp
    replace kg1 := G.has kg1
    replace GG := GG.trans G
    clear G eg2
    refine nr ?_; intro U h; simp only [z0, z1] at h; subst h
    refine jo rfl rfl 88 _ _ rfl g2 0 rfl (.agg (c88 y.ai y.an y.bi y.bn (bas y.tx))) rfl 88 _ kg2 (c88 y.ai y.an y.bi y.bn (bas y.tx)) rfl (by kernel_rfl) (nlB rfl) (by kernel_rfl) (c88 y.ai y.an y.bi y.bn (bas y.tx)) (by kernel_rfl) ?_
    intro w10 St
    replace ktp := St.has (by omega) ktp
    replace kg1 := St.has (by omega) kg1
    replace GG := GG.store St bg2
    replace kg2 := St.new
    clear St
    refine wpList_nil (ja (wp_seq ?_))
    refine jr ?_
    intro OPS hY
    have y5 := hY 5 113 rfl
    clear hY
    refine sv 108 (pK g2 0) (jc 88 _ 0 rfl _ _ rfl _) (sv 109 (.agg (c29 y.ai y.an)) (jk 29 _ rfl g2 0 2 rfl 88 _ kg2 _ Try.underlying29 rfl si29 _) (sv 110 (pK g1 2) (jc 88 _ 1 rfl _ _ rfl _) ?_))
    refine nr ?_; intro U h; simp only [z0, z1] at h; subst h
    refine sv 111 (.agg (c29 x.bi x.bn)) (jk 29 _ rfl g1 2 2 rfl 88 _ kg1 _ Try.underlying29 rfl si29 _) ?_
    refine nr ?_; intro U h; simp only [z0, z1] at h; subst h
    obtain ⟨p5, hp5⟩ : ∃ p, (decide (y.ai = x.bi) && decide (y.an = x.bn)) = p := ⟨_, rfl⟩
    refine sv 112 (.bool p5) (jW _ _ _ rfl y.ai y.an x.bi x.bn rfl rfl p5 hp5 _) ?_
    refine nr ?_; intro U h; simp only [z0, z1] at h; subst h
    cases p5
    have hP : isP x.bi x.bn x.ai x.an y = false := decide_eq_false (fun e => by rw [e.1.1, e.1.2] at hp5; simp at hp5)
    refine yb _ rfl rfl (vFa) rfl ?_
    refine nr ?_; intro U h; simp only [z0, z1] at h; subst h
    iterate 5 (refine jO _ rfl rfl y5 rfl ?_; refine nr ?_; intro U h; simp only [z0, z1] at h; subst h)
    refine yb _ rfl rfl (vFa) rfl ?_
    refine wpList_nil (ja (wp_cond_false rfl (wp_skip (jQ (ja (wp_region_lit (sv 129 (iK ((m + 1 : Nat) : Int)) (jF 3 _ _ _ rfl ((m : Nat) : Int) 1 ((m + 1 : Nat) : Int) rfl rfl (by omega) (by omega) (by omega) _) (mv 104 (iK ((m + 1 : Nat) : Int)) ?_))))))))
    refine nr ?_; intro U h; simp only [z0, z1] at h; subst h
    refine wpList_nil (ja ?_)
    exact ⟨_, (by omega : s0.length - (m + 1) < s0.length - m), m + 1, c, u, usB [12, 14, 105, 106, 107, 108, 109, 110, 111, 112, 113, 114, 115, 116, 117, 118, 119, 120, 121, 122, 123, 124, 125, 126, 127, 128, 129] rfl rfl ⟨hmn, (by rw [zq hy, if_neg (by rw [hP]; exact Bool.false_ne_true), List.append_nil]; exact hc), (by omega), GG, ktp, kg1⟩⟩
    have hA := hp5
    refine mv 113 (vTr) (jn 114 rfl rfl y5 rfl (pK g2 2) (jc 88 _ 1 rfl _ _ rfl _) (jn 115 rfl rfl y5 rfl (.agg (c29 y.bi y.bn)) (jk 29 _ rfl g2 2 2 rfl 88 _ kg2 _ Try.underlying29 rfl si29 _) ?_))
    refine nr ?_; intro U h; simp only [z0, z1] at h; subst h
    refine jn 116 rfl rfl y5 rfl (pK g1 0) (jc 88 _ 0 rfl _ _ rfl _) (jn 117 rfl rfl y5 rfl (.agg (c29 x.ai x.an)) (jk 29 _ rfl g1 0 2 rfl 88 _ kg1 _ Try.underlying29 rfl si29 _) ?_)
    refine nr ?_; intro U h; simp only [z0, z1] at h; subst h
    obtain ⟨p6, hp6⟩ : ∃ p, (decide (y.bi = x.ai) && decide (y.bn = x.an)) = p := ⟨_, rfl⟩
    refine jn 118 rfl rfl y5 rfl (.bool p6) (jW _ _ _ rfl y.bi y.bn x.ai x.an rfl rfl p6 hp6 _) ?_
    refine nr ?_; intro U h; simp only [z0, z1] at h; subst h
    cases p6
    have hP : isP x.bi x.bn x.ai x.an y = false := decide_eq_false (fun e => by rw [e.2.1, e.2.2] at hp6; simp at hp6)
    refine yb _ rfl rfl (vFa) rfl ?_
    refine wpList_nil (ja (wp_cond_false rfl (wp_skip (jQ (ja (wp_region_lit (sv 129 (iK ((m + 1 : Nat) : Int)) (jF 3 _ _ _ rfl ((m : Nat) : Int) 1 ((m + 1 : Nat) : Int) rfl rfl (by omega) (by omega) (by omega) _) (mv 104 (iK ((m + 1 : Nat) : Int)) ?_))))))))
    refine nr ?_; intro U h; simp only [z0, z1] at h; subst h
    refine wpList_nil (ja ?_)
    exact ⟨_, (by omega : s0.length - (m + 1) < s0.length - m), m + 1, c, u, usB [12, 14, 105, 106, 107, 108, 109, 110, 111, 112, 113, 114, 115, 116, 117, 118, 119, 120, 121, 122, 123, 124, 125, 126, 127, 128, 129] rfl rfl ⟨hmn, (by rw [zq hy, if_neg (by rw [hP]; exact Bool.false_ne_true), List.append_nil]; exact hc), (by omega), GG, ktp, kg1⟩⟩
    have hP : isP x.bi x.bn x.ai x.an y = true := decide_eq_true (by simp only [Bool.and_eq_true, decide_eq_true_eq] at hA hp6; exact ⟨hA, hp6⟩)
    refine mv 119 (vTr) (wpList_nil (ja (wp_cond_true rfl (wp_seq (wp_seq (wp_region_lit (mv 120 (iK ((u : Nat) : Int)) ?_)))))))
    refine nr ?_; intro U h; simp only [z0, z1] at h; subst h
    obtain ⟨p7, hp7⟩ : ∃ p, decide (((u : Nat) : Int) = 0) = p := ⟨_, rfl⟩
    refine sv 121 (.bool p7) (jg 3 .i64 _ _ _ rfl Try.underlying3 ((u : Nat) : Int) 0 rfl rfl p7 hp7 _) ?_
    refine nr ?_; intro U h; simp only [z0, z1] at h; subst h
    cases p7
    have hu0 : u ≠ 0 := by have := of_decide_eq_false hp7; omega
    refine wpList_nil (ja (wp_cond_false rfl (wp_skip (ja (wp_region_lit (mv 127 (iK ((u : Nat) : Int)) (sv 128 (iK ((u - 1 : Nat) : Int)) (zm 3 _ _ _ rfl ((u : Nat) : Int) 1 ((u - 1 : Nat) : Int) rfl rfl (by omega) (by omega) (by omega) _) (mv 9 (iK ((u - 1 : Nat) : Int)) ?_))))))))
    refine nr ?_; intro U h; simp only [z0, z1] at h; subst h
    refine wpList_nil (jQ (ja (wp_region_lit (sv 129 (iK ((m + 1 : Nat) : Int)) (jF 3 _ _ _ rfl ((m : Nat) : Int) 1 ((m + 1 : Nat) : Int) rfl rfl (by omega) (by omega) (by omega) _) (mv 104 (iK ((m + 1 : Nat) : Int)) (wpList_nil (ja ?_)))))))
    exact ⟨_, (by omega : s0.length - (m + 1) < s0.length - m), m + 1, c + 1, u - 1, usB [12, 14, 105, 106, 107, 108, 109, 110, 111, 112, 113, 114, 115, 116, 117, 118, 119, 120, 121, 122, 123, 124, 125, 126, 127, 128, 129] rfl rfl ⟨hmn, (by rw [zq hy, if_pos hP, List.length_append, ← hc]; rfl), (by omega), GG, ktp, kg1⟩⟩
    have hu0 : u = 0 := by have := of_decide_eq_true hp7; omega
    have hyx : y.tx = x.tx := by
      have h1 := uM hy hP
      have e : c = kk := by omega
      rw [← hc, e, hkx] at h1
      exact (Option.some.inj h1).symm
    refine wpList_nil (ja (wp_cond_true rfl (wp_seq (wp_region_lit (sv 122 (pK g2 4) (jc 88 _ 2 rfl _ _ rfl _) ?_)))))
    refine nr ?_; intro U h; simp only [z0, z1] at h; subst h
    refine sv 123 (.string (bas y.tx)) (je 9 _ rfl g2 4 rfl 88 _ kg2 (na9 _) _ rfl) (sv 124 (pK g1 4) (jc 88 _ 2 rfl _ _ rfl _) (sv 125 (.string (bas x.tx)) (je 9 _ rfl g1 4 rfl 88 _ kg1 (na9 _) _ rfl) ?_))
    refine nr ?_; intro U h; simp only [z0, z1] at h; subst h
    refine sv 126 (vTr) (vL _ _ _ rfl _ _ rfl rfl true (decide_eq_true (by rw [hyx])) _) (mv 12 (vTr) (wpList_nil (ja (wp_exit (jZ ?_)))))
    refine JN (by decide) ?_
    refine jZ (jZ (zZ (ja (wp_seq (wp_region_lit (mv 130 (vTr) ?_))))))
    refine nr ?_; intro U h; simp only [z0, z1] at h; subst h
    refine sv 131 (vFa) (jU _ _ rfl true rfl) (wpList_nil (ja (wp_cond_false rfl (wp_skip (jQ (ja (wp_region_lit (sv 132 (iK ((i + 1 : Nat) : Int)) (jF 3 _ _ _ rfl ((i : Nat) : Int) 1 ((i + 1 : Nat) : Int) rfl rfl (by omega) (by omega) (by omega) _) (mv 63 (iK ((i + 1 : Nat) : Int)) ?_)))))))))
    refine nr ?_; intro U h; simp only [z0, z1] at h; subst h
    refine wpList_nil (ja ?_)
    exact ⟨_, (by omega : r1.length - (i + 1) < r1.length - i), i + 1, usB [2, 7, 8, 9, 11, 12, 14, 64, 65, 66, 67, 68, 69, 70, 71, 72, 73, 74, 75, 76, 77, 78, 79, 80, 81, 82, 83, 84, 85, 86, 87, 88, 89, 90, 91, 92, 93, 94, 95, 96, 97, 98, 99, 100, 101, 102, 103, 104, 105, 106, 107, 108, 109, 110, 111, 112, 113, 114, 115, 116, 117, 118, 119, 120, 121, 122, 123, 124, 125, 126, 127, 128, 129, 130, 131, 132] rfl rfl ⟨hin, GG, ktp⟩⟩
    have hbi : b < i := by have := of_decide_eq_true hp3; omega
    obtain ⟨y, hy⟩ : ∃ y, r1[b]? = some y := ⟨_, List.getElem?_eq_getElem (by omega)⟩
    refine wpList_nil (ja (wp_seq (wp_cond_true rfl (wp_skip (ja (wp_seq (wp_block (wp_seq (wp_region_lit (sv 79 (.pointer (some (ad.add (b * 5)))) (zI rS _ _ rfl ad i k1 b (by exact congrArg (fun a => Value.slice a i k1) hao) rfl hbi _) (sv 80 (.agg (c88 y.ai y.an y.bi y.bn (bas y.tx))) (yG _ rfl ad b rfl (hao ▸ OY.gro H1.u1 GG) y hy) ?_)))))))))))
    refine js 11 rfl rfl 88 rfl _ zv88 _ rfl ?_
    intro w8 g2 G eg2 kg2
    have bg2 := jh GG eg2
    have dtpg2 := jf ktp eg2
    have dg1g2 := jf kg1 eg2
    replace ktp := G.has ktp
    replace kg1 := G.has kg1
    replace GG := GG.trans G
    clear G eg2
    refine nr ?_; intro U h; simp only [z0, z1] at h; subst h
    refine jo rfl rfl 88 _ _ rfl g2 0 rfl (.agg (c88 y.ai y.an y.bi y.bn (bas y.tx))) rfl 88 _ kg2 (c88 y.ai y.an y.bi y.bn (bas y.tx)) rfl (by kernel_rfl) (nlB rfl) (by kernel_rfl) (c88 y.ai y.an y.bi y.bn (bas y.tx)) (by kernel_rfl) ?_
    intro w10 St
    replace ktp := St.has (by omega) ktp
    replace kg1 := St.has (by omega) kg1
    replace GG := GG.store St bg2
    replace kg2 := St.new
    clear St
    refine wpList_nil (ja (wp_seq ?_))
    refine jr ?_
    intro OPS hY
    have y5 := hY 5 86 rfl
    clear hY
    refine sv 81 (pK g2 0) (jc 88 _ 0 rfl _ _ rfl _) (sv 82 (.agg (c29 y.ai y.an)) (jk 29 _ rfl g2 0 2 rfl 88 _ kg2 _ Try.underlying29 rfl si29 _) (sv 83 (pK g1 0) (jc 88 _ 0 rfl _ _ rfl _) ?_))
    refine nr ?_; intro U h; simp only [z0, z1] at h; subst h
    refine sv 84 (.agg (c29 x.ai x.an)) (jk 29 _ rfl g1 0 2 rfl 88 _ kg1 _ Try.underlying29 rfl si29 _) ?_
    refine nr ?_; intro U h; simp only [z0, z1] at h; subst h
    obtain ⟨p4, hp4⟩ : ∃ p, (decide (y.ai = x.ai) && decide (y.an = x.an)) = p := ⟨_, rfl⟩
    refine sv 85 (.bool p4) (jW _ _ _ rfl y.ai y.an x.ai x.an rfl rfl p4 hp4 _) ?_
    refine nr ?_; intro U h; simp only [z0, z1] at h; subst h
    cases p4
    have hP : isP x.ai x.an x.bi x.bn y = false := decide_eq_false (fun e => by rw [e.1.1, e.1.2] at hp4; simp at hp4)
    refine yb _ rfl rfl (vFa) rfl ?_
    refine nr ?_; intro U h; simp only [z0, z1] at h; subst h
    iterate 5 (refine jO _ rfl rfl y5 rfl ?_; refine nr ?_; intro U h; simp only [z0, z1] at h; subst h)
    refine yb _ rfl rfl (vFa) rfl ?_
    refine wpList_nil (ja (wp_cond_false rfl (wp_skip (jQ (ja (wp_region_lit (sv 95 (iK ((b + 1 : Nat) : Int)) (jF 3 _ _ _ rfl ((b : Nat) : Int) 1 ((b + 1 : Nat) : Int) rfl rfl (by omega) (by omega) (by omega) _) (mv 77 (iK ((b + 1 : Nat) : Int)) ?_))))))))
    refine nr ?_; intro U h; simp only [z0, z1] at h; subst h
    refine wpList_nil (ja ?_)
    exact ⟨_, (by omega : i - (b + 1) < i - b), b + 1, kk, usB [11, 78, 79, 80, 81, 82, 83, 84, 85, 86, 87, 88, 89, 90, 91, 92, 93, 94, 95] rfl rfl ⟨hbi, (by rw [zq hy, if_neg (by rw [hP]; exact Bool.false_ne_true), List.append_nil]; exact hkk), GG, ktp, kg1⟩⟩
    have hA := hp4
    refine mv 86 (vTr) (jn 87 rfl rfl y5 rfl (pK g2 2) (jc 88 _ 1 rfl _ _ rfl _) (jn 88 rfl rfl y5 rfl (.agg (c29 y.bi y.bn)) (jk 29 _ rfl g2 2 2 rfl 88 _ kg2 _ Try.underlying29 rfl si29 _) ?_))
    refine nr ?_; intro U h; simp only [z0, z1] at h; subst h
    refine jn 89 rfl rfl y5 rfl (pK g1 2) (jc 88 _ 1 rfl _ _ rfl _) (jn 90 rfl rfl y5 rfl (.agg (c29 x.bi x.bn)) (jk 29 _ rfl g1 2 2 rfl 88 _ kg1 _ Try.underlying29 rfl si29 _) ?_)
    refine nr ?_; intro U h; simp only [z0, z1] at h; subst h
    obtain ⟨p5, hp5⟩ : ∃ p, (decide (y.bi = x.bi) && decide (y.bn = x.bn)) = p := ⟨_, rfl⟩
    refine jn 91 rfl rfl y5 rfl (.bool p5) (jW _ _ _ rfl y.bi y.bn x.bi x.bn rfl rfl p5 hp5 _) ?_
    refine nr ?_; intro U h; simp only [z0, z1] at h; subst h
    cases p5
    have hP : isP x.ai x.an x.bi x.bn y = false := decide_eq_false (fun e => by rw [e.2.1, e.2.2] at hp5; simp at hp5)
    refine yb _ rfl rfl (vFa) rfl ?_
    refine wpList_nil (ja (wp_cond_false rfl (wp_skip (jQ (ja (wp_region_lit (sv 95 (iK ((b + 1 : Nat) : Int)) (jF 3 _ _ _ rfl ((b : Nat) : Int) 1 ((b + 1 : Nat) : Int) rfl rfl (by omega) (by omega) (by omega) _) (mv 77 (iK ((b + 1 : Nat) : Int)) ?_))))))))
    refine nr ?_; intro U h; simp only [z0, z1] at h; subst h
    refine wpList_nil (ja ?_)
    exact ⟨_, (by omega : i - (b + 1) < i - b), b + 1, kk, usB [11, 78, 79, 80, 81, 82, 83, 84, 85, 86, 87, 88, 89, 90, 91, 92, 93, 94, 95] rfl rfl ⟨hbi, (by rw [zq hy, if_neg (by rw [hP]; exact Bool.false_ne_true), List.append_nil]; exact hkk), GG, ktp, kg1⟩⟩
    have hP : isP x.ai x.an x.bi x.bn y = true := decide_eq_true (by simp only [Bool.and_eq_true, decide_eq_true_eq] at hA hp5; exact ⟨hA, hp5⟩)
    refine mv 92 (vTr) (wpList_nil (ja (wp_cond_true rfl (wp_region_lit (mv 93 (iK ((kk : Nat) : Int)) (sv 94 (iK ((kk + 1 : Nat) : Int)) (jF 3 _ _ _ rfl ((kk : Nat) : Int) 1 ((kk + 1 : Nat) : Int) rfl rfl (by omega) (by omega) (by omega) _) ?_))))))
    refine nr ?_; intro U h; simp only [z0, z1] at h; subst h
    refine mv 9 (iK ((kk + 1 : Nat) : Int)) (wpList_nil (jQ (ja (wp_region_lit (sv 95 (iK ((b + 1 : Nat) : Int)) (jF 3 _ _ _ rfl ((b : Nat) : Int) 1 ((b + 1 : Nat) : Int) rfl rfl (by omega) (by omega) (by omega) _) (mv 77 (iK ((b + 1 : Nat) : Int)) ?_))))))
    refine nr ?_; intro U h; simp only [z0, z1] at h; subst h
    refine wpList_nil (ja ?_)
    exact ⟨_, (by omega : i - (b + 1) < i - b), b + 1, kk + 1, usB [11, 78, 79, 80, 81, 82, 83, 84, 85, 86, 87, 88, 89, 90, 91, 92, 93, 94, 95] rfl rfl ⟨hbi, (by rw [zq hy, if_pos hP, List.length_append, ← hkk]; rfl), GG, ktp, kg1⟩⟩
  case hm1 =>
    intro HTm1
    refine wp_seq (wp_region_lit (mv 40 (.slice ao ws.length cap) (sv 41 (iK ((ws.length : Nat) : Int)) (jG Try.underlying75 _ rfl _ _ _ rfl _) (mv 42 (iK 0) ?_))))
    refine nr ?_; intro U h; simp only [z0, z1] at h; subst h
    refine wpList_nil (ja (wp_block ?_))
    refine zl (fun mz az wv => ∃ (j : Nat) (us1 : Nat → Value), mz = ws.length - j ∧ az = ⟨[.slice ao ws.length cap, undef, vFa, pK tp 0, us1 0, us1 1, undef, undef, undef, undef, undef, undef, undef, undef, undef, .agg (c23 (idK 0 1)), pK q0 0, .agg (c23 (idK 0 2)), pK q1 0, .agg (c77 (some ⟨q0, 0, none⟩) (some ⟨q1, 0, none⟩)), .agg (c83 (some ⟨q0, 0, none⟩) (some ⟨q1, 0, none⟩) Sl.nil Sl.nil 0 0 Sl.nil Sl.nil Sl.nil Sl.nil), pK tp 0, pK tp 0, pK tp 0, pK tp 0, pK tp 0, pK q0 0, vFa, vFa, pK tp 0, pK tp 0, pK tp 0, pK tp 1, pK q1 0, vFa, vFa, vFa, vTr, vFa, vFa, .slice ao ws.length cap, iK ((ws.length : Nat) : Int), iK ((j : Nat) : Int), us1 2, us1 3, us1 4, us1 5, us1 6, us1 7, us1 8, us1 9, us1 10, us1 11, undef, undef, undef, undef, undef, undef, undef, undef, undef, undef, undef, undef, undef, undef, undef, undef, undef, undef, undef, undef, undef, undef, undef, undef, undef, undef, undef, undef, undef, undef, undef, undef, undef, undef, undef, undef, undef, undef, undef, undef, undef, undef, undef, undef, undef, undef, undef, undef, undef, undef, undef, undef, undef, undef, undef, undef, undef, undef, undef, undef, undef, undef, undef, undef, undef, undef, undef, undef, undef, undef, undef, undef, undef, undef, undef, undef, undef, undef, undef, undef, undef].toArray, []⟩ ∧ j ≤ ws.length ∧ j ≤ 401 ∧ Gro w wv ∧ TkI w.heap.size wv tp q0 q1 (idK 0 1) (idK 0 2) j) ?_ _ ⟨0, usB [4, 5, 43, 44, 45, 46, 47, 48, 49, 50, 51, 52] rfl rfl ⟨Nat.zero_le _, Nat.zero_le _, GG, HK⟩⟩
    clear GG HK
    rintro mz az wv ⟨j, us1, rfl, rfl, hj, hj2, GG, HK⟩
    refine wp_seq (wp_region_lit ?_)
    obtain ⟨p1, hp1⟩ : ∃ p, decide (((j : Nat) : Int) < ((ws.length : Nat) : Int)) = p := ⟨_, rfl⟩
    refine sv 43 (.bool p1) (jP 3 _ _ _ rfl ((j : Nat) : Int) ((ws.length : Nat) : Int) rfl rfl p1 hp1 _) ?_
    refine nr ?_; intro U h; simp only [z0, z1] at h; subst h
    cases p1
    refine wpList_nil (ja (wp_seq (wp_cond_false rfl (wp_exit (jZ (jZ (zZ (ja ?_))))))))
    exact HTm1 _ _ ⟨j, (fun kz => ([us1 0, us1 1, .slice ao ws.length cap, iK ((ws.length : Nat) : Int), iK ((j : Nat) : Int), vFa, us1 3, us1 4, us1 5, us1 6, us1 7, us1 8, us1 9, us1 10, us1 11] : List Value).getD kz undef), rfl, hj2, GG, HK⟩
    have hjn : j < ws.length := by have := of_decide_eq_true hp1; omega
    obtain ⟨o, ho⟩ : ∃ o, ws[j]? = some o := ⟨_, List.getElem?_eq_getElem hjn⟩
    have hop := HO.op o (List.mem_of_getElem? ho)
    obtain ⟨ad, hao⟩ := HO.row.some (by omega)
    refine wpList_nil (ja (wp_seq (wp_cond_true rfl (wp_skip (ja (wp_seq (wp_block (wp_seq (wp_region_lit (mv 44 (iK ((j : Nat) : Int)) (sv 45 (.pointer (some (ad.add (j * 4)))) (zI wT _ _ rfl ad ws.length cap j (by exact congrArg (fun a => Value.slice a ws.length cap) hao) rfl hjn _) (sv 46 (.agg (c85 o.kd o.sd o.ix ⟨o.ao, o.l.length, o.cap⟩)) (ld_wyH _ rfl ad j rfl (by rw [← hao]; exact HO.row.gro GG) o ho) ?_))))))))))))
    refine nr ?_; intro U h; simp only [z0, z1] at h; subst h
    refine js 5 rfl rfl 85 rfl _ zv85 _ rfl ?_
    intro w5 g1 G eg1 kg1
    have bg1 := jh GG eg1
    replace HK := HK.gro G
    replace GG := GG.trans G
    clear G eg1
    refine mv 4 (iK ((j : Nat) : Int)) ?_
    refine jo rfl rfl 85 _ _ rfl g1 0 rfl (.agg (c85 o.kd o.sd o.ix ⟨o.ao, o.l.length, o.cap⟩)) rfl 85 _ kg1 (c85 o.kd o.sd o.ix ⟨o.ao, o.l.length, o.cap⟩) rfl (by kernel_rfl) (nlB rfl) (by kernel_rfl) (c85 o.kd o.sd o.ix ⟨o.ao, o.l.length, o.cap⟩) (by kernel_rfl) ?_
    intro w7 St
    replace HK := HK.stT kg1 St
    replace GG := GG.store St bg1
    replace kg1 := St.new
    clear St
    refine wpList_nil (ja (wp_seq (wp_seq (wp_region_lit (mv 47 (iK ((j : Nat) : Int)) ?_)))))
    refine nr ?_; intro U h; simp only [z0, z1] at h; subst h
    obtain ⟨p2, hp2⟩ : ∃ p, decide (400 < ((j : Nat) : Int)) = p := ⟨_, rfl⟩
    refine sv 48 (.bool p2) (jD 3 _ _ _ rfl ((j : Nat) : Int) 400 rfl rfl p2 hp2 _) ?_
    refine nr ?_; intro U h; simp only [z0, z1] at h; subst h
    cases p2
    have hj400 : j ≤ 400 := by have := of_decide_eq_false hp2; omega
    refine wpList_nil (ja (wp_cond_false rfl (wp_skip (ja (wp_region_lit (mv 49 (pK tp 0) (sv 50 (.agg (c85 o.kd o.sd o.ix ⟨o.ao, o.l.length, o.cap⟩)) (jk 85 _ rfl g1 0 4 rfl 85 _ kg1 _ Try.underlying85 rfl si85 _) ?_)))))))
    refine jt 51 rfl rfl _ 30 Try.call30 rfl rfl _ rfl [pK tp 0, .agg (c85 o.kd o.sd o.ix ⟨o.ao, o.l.length, o.cap⟩)] rfl (ZL w _ GG tp q0 q1 (idK 0 1) (idK 0 2) j HK (by omega) o hop) (fun _ _ ⟨he, _⟩ => ⟨_, he⟩) ?_
    rintro v w8 ⟨he, GG2, HK2⟩
    cases he
    clear GG HK
    have GG := GG2
    have HK := HK2
    clear GG2 HK2
    refine nr ?_; intro U h; simp only [z0, z1] at h; subst h
    refine wpList_nil (jQ (ja (wp_region_lit (sv 52 (iK ((j + 1 : Nat) : Int)) (jF 3 _ _ _ rfl ((j : Nat) : Int) 1 ((j + 1 : Nat) : Int) rfl rfl (by omega) (by omega) (by omega) _) (mv 42 (iK ((j + 1 : Nat) : Int)) (wpList_nil (ja ?_)))))))
    exact ⟨_, (by omega : ws.length - (j + 1) < ws.length - j), j + 1, usB [4, 5, 43, 44, 45, 46, 47, 48, 49, 50, 51, 52] rfl rfl ⟨hjn, (by omega), GG, HK⟩⟩
    refine wpList_nil (ja (wp_cond_true rfl (wp_exit (jZ ?_))))
    refine JN (by decide) ?_
    refine jZ (jZ (zZ (ja ?_)))
    exact HTm1 _ _ ⟨j, (fun kz => ([iK ((j : Nat) : Int), pK g1 0, .slice ao ws.length cap, iK ((ws.length : Nat) : Int), iK ((j : Nat) : Int), vTr, iK ((j : Nat) : Int), .pointer (some (ad.add (j * 4))), .agg (c85 o.kd o.sd o.ix ⟨o.ao, o.l.length, o.cap⟩), iK ((j : Nat) : Int), vTr, us1 8, us1 9, us1 10, us1 11] : List Value).getD kz undef), rfl, hj2, GG, HK⟩
end Go.Proofs.Ytlfanecaglbomaa
