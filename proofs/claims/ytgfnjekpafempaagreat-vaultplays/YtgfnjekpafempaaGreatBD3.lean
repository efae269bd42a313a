import Derived.Test.YtgfnjekpafempaaGreatBD2
import Derived.Test.YtgfnjekpafempaaGreatBAb
namespace Go.Proofs.YtgfnjekpafempaaGreat
open Go.Proofs.Tryz
set_option maxHeartbeats 4000000
set_option maxRecDepth 100000
open Go.RowKit
theorem sT : RowT Tryz.prog 90 89 64 64 (.agg z64) := ⟨underlying90, uF (by kernel_rfl), rfl, by decide⟩
theorem zv89 (w : World) : (zeroValue 89).run Tryz.prog w = .ok (.agg z64) w := by kernel_rfl
theorem si89 : (Tryz.prog.info? 89).map (·.size) = some 64 := by kernel_rfl
theorem vy {o : Oper} {A : Act} (x : Operand) (ho : o.op = .slice 89 x none none none) (g off : Nat) (hx : A.eval x = .pointer (some ⟨g, off, none⟩)) (w : World) : (execOp A.eval o).run Tryz.prog w = .ok (.value (.slice (some ⟨g, off, none⟩) 64 64)) w := by
  have h : (Instr.sliceAt 89 (.pointer (some ⟨g, off, none⟩)) none none none).run Tryz.prog w = .ok (.slice (some ⟨g, off, none⟩) 64 64) w := by kernel_rfl
  unfold execOp
  simp only [ho, hx, Option.map_none, Sem.run_bind, h, Result.andThen_ok, Sem.run_pure]
theorem vx {o : Oper} {A : Act} (x y : Operand) (ho : o.op = .indexAddr 90 x y) (g n cap j : Nat) (hx : A.eval x = .slice (some ⟨g, 0, none⟩) n cap) (hy : A.eval y = .int .i64 (j : Int)) (hj : j < n) (w : World) :
    (execOp A.eval o).run Tryz.prog w = .ok (.value (.pointer (some ⟨g, j * 64, none⟩))) w := by
  rw [VY sT x y ho ⟨g, 0, none⟩ n cap j hx hy hj w, zQ, Nat.zero_add]
def clN (x : Int) : Nat := (min (max x 0) 4096).toNat
theorem clN_eq (x : Int) : min (max x 0) 4096 = ((clN x : Nat) : Int) := by unfold clN; omega
theorem Qu (x : Int) : clN x ≤ 4096 := by unfold clN; omega
theorem clN_nat (n : Nat) (h : n ≤ 4096) : clN (n : Int) = n := by unfold clN; omega
def secL (L : List Nat) (i : Nat) : List Nat := (L.drop (i * 64)).take 64
theorem yb {n i : Nat} {L : List Nat} (h : L.length = n * 64) (hi : i < n) : i * 64 + 64 ≤ L.length := by omega
theorem zZ {n i : Nat} {L : List Nat} (h : L.length = n * 64) (hi : i < n) : (secL L i).length = 64 := by
  rw [secL, List.length_take, List.length_drop]; omega
theorem KF (L : List Nat) (i : Nat) : (secL L i).take 64 = secL L i := by simp [secL, List.take_take]
theorem vv {L : List Nat} (h : ∀ x ∈ L, x < 256) (i : Nat) : ∀ x ∈ secL L i, x < 256 := fun x hx => h x (List.mem_of_mem_drop (List.mem_of_mem_take hx))
def padS (l : List Nat) : List Nat := l ++ zs (64 - l.length)
theorem Qy (n : Nat) (l : List Nat) : wr (zs n) 0 l = l ++ zs (n - l.length) := by
  simp [wr, zs]
theorem jbh {l : List Nat} : wr (zs 64) 0 l = padS l := Qy 64 l
theorem zg {l : List Nat} (h : l.length ≤ 64) : (padS l).length = 64 := by rw [padS, List.length_append, zo]; omega
theorem YA {l : List Nat} (h : ∀ x ∈ l, x < 256) : ∀ x ∈ padS l, x < 256 := fun x hx => by
  rcases List.mem_append.1 hx with hx | hx
  · exact h x hx
  · exact Zm _ x hx
theorem Zd {l : List Nat} (h : l.length ≤ 64) : (bv (padS l)).extract 0 (0 + 64) = bv (padS l) := by
  rw [Qw, List.drop_zero, List.take_of_length_le (by rw [zg h]; exact Nat.le_refl _)]
theorem Vn {n i : Nat} (h : i < n) : hasB n (i : Int) = true := by
  unfold hasB
  rw [decide_eq_true (by omega : (0 : Int) ≤ (i : Int))]
  exact decide_eq_true (by omega)
theorem hasB_nat {n : Nat} {i : Int} (h : hasB n i = true) : ∃ j : Nat, i = (j : Int) ∧ j < n := by
  unfold hasB at h
  cases h1 : decide (0 ≤ i)
  · rw [h1] at h; cases h
  · rw [h1] at h
    have h2 : i < (n : Int) := of_decide_eq_true h
    have h3 : 0 ≤ i := of_decide_eq_true h1
    exact ⟨i.toNat, by omega, by omega⟩
theorem QX (w : World) (x : Int) : Calls Tryz.prog 23 #[iK x] w fun e w' => ∃ p sg, e = .returned (vP p 0) ∧ Gro w w' ∧ w.heap.size ≤ p ∧ w.heap.size ≤ sg ∧ DK w' p sg (clN x) (zs (clN x * 64)) (-1) 0 := by
  refine eN func23 rfl ntmps23 [iK x] ?_
  have GG := Gro.refl w
  refine qE (qG (mv (.pointer none) rfl (nq ?_)))
  refine qL (qE (qG (mv (iK x) rfl (sv (iK (max x 0)) (JM _ _ _ rfl x 0 _ rfl rfl rfl _) rfl (sv (nK (clN x)) (KP _ _ _ rfl (max x 0) 4096 _ rfl rfl (clN_eq x) _) rfl (mv (nK (clN x)) rfl (nq ?_)))))))
  refine qL (qE (qG (mv (nK (clN x)) rfl (nq ?_))))
  refine jbu sT 8 rfl rfl _ _ rfl (clN x) rfl rfl (by have := Qu x; omega) (by have := Qu x; simp only [maxLen]; omega) ?_
  intro w1 sg G esg ksg
  have bsg := jh GG esg
  replace GG := GG.trans G
  clear G esg
  refine nq ?_
  refine sv (.agg (c92 ⟨some ⟨sg, 0, none⟩, clN x, clN x⟩ (-1) 0)) (jK 92 _ rfl [(0, .slice (some ⟨sg, 0, none⟩) (clN x) (clN x)), (1, iK (-1))] rfl _ (by kernel_rfl)) rfl (nq ?_)
  refine jW 10 rfl rfl 92 _ rfl _ rfl (c92 ⟨some ⟨sg, 0, none⟩, clN x, clN x⟩ (-1) 0) rfl ?_
  intro w2 g2 G eg2 kg2
  have bg2 := jh GG eg2
  have dsgg2 := jn ksg eg2
  replace ksg := G.has ksg
  replace GG := GG.trans G
  clear G eg2
  refine nq ?_
  refine mv (vP g2 0) rfl (nq ?_)
  refine qL (qR ?_)
  refine bodyPost_ret (results_tmp results23 _ _ _) rfl ?_
  exact ⟨g2, sg, rfl, GG, bg2, bsg, kg2, ksg, zo _, Qu x, Zm _, by omega⟩
theorem QR (w : World) (p sg n : Nat) (L : List Nat) (pw dn : Int) (H : DK w p sg n L pw dn) (i : Nat) (hi : i < n) : Calls Tryz.prog 67 #[vP p 0, nK i] w fun e w' => ∃ g, e = .returned (.tuple #[.slice (some ⟨g, 0, none⟩) 64 64, iK 0]) ∧ Gro w w' ∧ w.heap.size ≤ g ∧ w'.heap[g]? = some (.cells (bv (secL L i)) 5 (0, 0)) := by
  refine eN func67 rfl ntmps67 [vP p 0, nK i] ?_
  have GG := Gro.refl w
  have kp := H.box
  have ksg := H.sec
  have hne := H.ne
  refine qE (qG (mv (.slice none 0 0) rfl (mv (iK 0) rfl (nq ?_))))
  refine qL (qE (qE (qG (mv (vP p 0) rfl (mv (nK i) rfl (nq ?_))))))
  have HC := Zz w p sg n L pw dn (H.gro GG) ((i : Nat) : Int)
  rw [Vn hi] at HC
  refine jr 9 rfl rfl _ 93 call93 rfl rfl _ rfl [vP p 0, nK i] rfl (HC) ?_
  intro w1 G
  replace kp := G.has kp
  replace ksg := G.has ksg
  replace GG := GG.trans G
  clear G
  refine nq ?_
  clear HC
  refine sv (vF) (jZ _ _ rfl true rfl) rfl (nq ?_)
  refine qL (qF rfl (qK (qS ?_)))
  refine ZI bT 11 rfl rfl _ _ rfl 64 rfl rfl (by omega) (by simp only [maxLen]; omega) ?_
  intro w2 g G eg kg
  have bg := jh GG eg
  have dpg := jn kp eg
  have dsgg := jn ksg eg
  replace kp := G.has kp
  replace ksg := G.has ksg
  replace GG := GG.trans G
  clear G eg
  refine nq ?_
  refine mv (.slice (some ⟨g, 0, none⟩) 64 64) rfl (nq ?_)
  refine qL (qE (qG (mv (.slice (some ⟨g, 0, none⟩) 64 64) rfl (mv (vP p 0) rfl (sv (vP p 0) (jl _ rfl _ rfl) rfl (sv (vP p 0) (je 92 _ 0 rfl _ _ rfl _ (by kernel_rfl)) rfl (sv (.slice (some ⟨sg, 0, none⟩) n n) (jo 90 _ rfl p 0 rfl 92 _ kp (na90 _) _ rfl) rfl (mv (nK i) rfl ?_))))))))
  refine nq ?_
  refine sv (.pointer (some ⟨sg, i * 64, none⟩)) (vx _ _ rfl sg n n i rfl rfl hi _) rfl (sv (.slice (some ⟨sg, i * 64, none⟩) 64 64) (vy _ rfl _ _ rfl _) rfl (nq ?_))
  refine uY bT 20 rfl rfl _ _ rfl g 0 64 64 rfl kg rfl (zZ H.len hi) (ZV ksg (yb H.len hi) (Nat.le_refl _) H.byte) (KF L i) (by rw [zo]; omega) ?_
  intro w3 St
  replace kp := St.has (by omega) kp
  replace ksg := St.has (by omega) ksg
  replace GG := GG.store St bg
  replace kg := St.new
  clear St
  rw [jbi (by rw [zZ H.len hi, zo])] at kg
  refine nq ?_
  refine qL (qE (qG (mv (.slice (some ⟨g, 0, none⟩) 64 64) rfl (mv (.slice (some ⟨g, 0, none⟩) 64 64) rfl (mv (iK 0) rfl (nq ?_))))))
  refine qL (qR ?_)
  refine bodyPost_ret (results_tmp2 results67 _ _ _) rfl ?_
  exact ⟨g, rfl, GG, bg, kg⟩
theorem ZC (w : World) (p sg n : Nat) (L : List Nat) (pw dn : Int) (H : DK w p sg n L pw dn) (h0 : pw = 0) (ao : Option Addr) (cap : Nat) (l : List Nat) (i : Nat) (hi : i < n) (hl : l.length ≤ 64) : Calls Tryz.prog 72 #[vP p 0, nK i, .slice ao l.length cap] w fun e w' => e = .returned (iK 8) ∧ Gro w w' := by
  refine eN func72 rfl ntmps72 [vP p 0, nK i, .slice ao l.length cap] ?_
  have GG := Gro.refl w
  have kp := H.box
  have ksg := H.sec
  have hne := H.ne
  refine qE (qG (mv (iK 0) rfl (nq ?_)))
  refine qL (qE (qB (qE (qG (mv (vP p 0) rfl (mv (nK i) rfl (nq ?_)))))))
  have HC := Zz w p sg n L pw dn (H.gro GG) ((i : Nat) : Int)
  rw [Vn hi] at HC
  refine jr 11 rfl rfl _ 93 call93 rfl rfl _ rfl [vP p 0, nK i] rfl (HC) ?_
  intro w1 G
  replace kp := G.has kp
  replace ksg := G.has ksg
  replace GG := GG.trans G
  clear G
  refine nq ?_
  clear HC
  refine sv (vF) (jZ _ _ rfl true rfl) rfl (mv (vF) rfl (nq ?_))
  refine qL (qF rfl (qE (qG (mv (.slice ao l.length cap) rfl (sv (nK l.length) (js underlying27 _ rfl _ _ _ rfl _) rfl (sv (vF) (jy 3 _ _ _ rfl ((l.length : Nat) : Int) 64 rfl rfl false (decide_eq_false (by omega)) _) rfl (mv (vF) rfl (nq ?_))))))))
  refine qL (qF rfl (qE (qG (mv (vP p 0) rfl (sv (vP p 0) (jl _ rfl _ rfl) rfl (sv (vP p 1) (je 92 _ 1 rfl _ _ rfl _ (by kernel_rfl)) rfl (sv (iK pw) (jo 3 _ rfl p 1 rfl 92 _ kp (na3 _) _ rfl) rfl (sv (vT) (jw 3 .i64 _ _ _ rfl underlying3 pw 0 rfl rfl true (decide_eq_true h0) _) rfl (mv (vT) rfl ?_)))))))))
  refine nq ?_
  refine qL (qT rfl (qE (qG (mv (iK 8) rfl (nq ?_)))))
  refine qL (qR (ze (jm ?_)))
  refine bodyPost_ret (results_tmp results72 _ _ _) rfl ?_
  exact ⟨rfl, GG⟩
theorem KA (w : World) (p sg n : Nat) (L : List Nat) (pw dn : Int) (H : DK w p sg n L pw dn) (ao : Option Addr) (cap : Nat) (l : List Nat) (HB : BS [p, sg] w ao cap l) (i : Nat) (hi : i < n) (hl : l.length ≤ 64) (h1 : pw = -1) (hd : 0 ≤ dn) (hd2 : dn < 9223372036854775807) : Calls Tryz.prog 72 #[vP p 0, nK i, .slice ao l.length cap] w fun e w' => e = .returned (iK 0) ∧ GroS [p, sg] w w' ∧ DK w' p sg n (wr L (i * 64) (padS l)) pw (dn + 1) := by
  refine eN func72 rfl ntmps72 [vP p 0, nK i, .slice ao l.length cap] ?_
  have GG := GroS.refl [p, sg] w
  have kp := H.box
  have ksg := H.sec
  have hne := H.ne
  have HN := HB
  refine qE (qG (mv (iK 0) rfl (nq ?_)))
  refine qL (qE (qB (qE (qG (mv (vP p 0) rfl (mv (nK i) rfl (nq ?_)))))))
  have HC := Zz w p sg n L pw dn ⟨kp, ksg, H.len, H.le, H.byte, H.ne⟩ ((i : Nat) : Int)
  rw [Vn hi] at HC
  refine jr 11 rfl rfl _ 93 call93 rfl rfl _ rfl [vP p 0, nK i] rfl (HC) ?_
  intro w1 G
  replace kp := G.has kp
  replace ksg := G.has ksg
  replace HN := HN.gro G
  replace GG := GG.tg G
  clear G
  refine nq ?_
  clear HC
  refine sv (vF) (jZ _ _ rfl true rfl) rfl (mv (vF) rfl (nq ?_))
  refine qL (qF rfl (qE (qG (mv (.slice ao l.length cap) rfl (sv (nK l.length) (js underlying27 _ rfl _ _ _ rfl _) rfl (sv (vF) (jy 3 _ _ _ rfl ((l.length : Nat) : Int) 64 rfl rfl false (decide_eq_false (by omega)) _) rfl (mv (vF) rfl (nq ?_))))))))
  refine qL (qF rfl (qE (qG (mv (vP p 0) rfl (sv (vP p 0) (jl _ rfl _ rfl) rfl (sv (vP p 1) (je 92 _ 1 rfl _ _ rfl _ (by kernel_rfl)) rfl (sv (iK pw) (jo 3 _ rfl p 1 rfl 92 _ kp (na3 _) _ rfl) rfl (sv (vF) (jw 3 .i64 _ _ _ rfl underlying3 pw 0 rfl rfl false (decide_eq_false (by omega)) _) rfl (mv (vF) rfl ?_)))))))))
  refine nq ?_
  refine qL (qF rfl (wp_skip (zb (jC (qS ?_)))))
  refine jH 7 rfl rfl 89 rfl _ zv89 (bv (zs 64)) rfl ?_
  intro w2 g G eg kg
  have bg := jN GG eg
  have dpg := jn kp eg
  have dsgg := jn ksg eg
  replace kp := G.has kp
  replace ksg := G.has ksg
  replace HN := HN.gro G
  replace GG := GG.tg G
  clear G eg
  refine nq ?_
  refine qL (qE (qG (sv (.slice (some ⟨g, 0, none⟩) 64 64) (vy _ rfl _ _ rfl _) rfl (mv (.slice ao l.length cap) rfl (nq ?_)))))
  refine uY bT 25 rfl rfl _ _ rfl g 0 64 64 rfl kg rfl (rfl) (HN.nc) (List.take_of_length_le hl) (by rw [zo]; omega) ?_
  intro w3 St
  replace kp := St.has (by omega) kp
  replace ksg := St.has (by omega) ksg
  replace HN := HN.st St (fun ad ha h0 => by have := HB.nc.lt ad ha h0; omega)
  replace GG := GG.st St (.inl bg)
  replace kg := St.new
  clear St
  rw [jbh] at kg
  refine nq ?_
  refine qL (qE ?_)
  refine jQ (A := ?A) 6 [(0, 26), (1, 27), (2, 28), (3, 29), (4, 30), (5, 31)] [.val (vP p 0), .val (vP p 0), .val (vP p 0), .val (.slice (some ⟨sg, 0, none⟩) n n), .val (nK i), .val (.agg (bv (padS l)))] follows (by kernel_rfl) rfl ?hA (ja ?o0 (ja ?o1 (ja ?o2 (ja ?o3 (ja ?o4 (ja ?o5 jD)))))) ?rest
  case hA =>
    intro ptrs
    simp only [full, foldSlots, filledE, postE, List.foldl_cons, List.foldl_nil, List.getD_cons_zero, List.getD_cons_succ, zu, List.set_cons_zero, List.set_cons_succ]
    exact rfl
  case o0 => exact fun _ _ _ _ => jf (v := vP p 0) _ rfl rfl rfl
  case o1 => exact fun _ _ hw _ => jb (v := vP p 0) rfl (jl _ rfl _ rfl)
  case o2 => exact fun _ _ hw _ => jb (v := vP p 0) rfl (je 92 _ 0 rfl _ _ rfl _ (by kernel_rfl))
  case o3 => exact fun _ _ hw _ => jb (v := .slice (some ⟨sg, 0, none⟩) n n) rfl (jo 90 _ rfl p 0 rfl 92 _ (hw.has kp) (na90 _) _ rfl)
  case o4 => exact fun _ _ _ _ => jf (v := nK i) _ rfl rfl rfl
  case o5 => exact fun _ _ hw _ => jb (v := .agg (bv (padS l))) rfl (zx 89 _ rfl g 0 64 rfl 89 _ (hw.has kg) _ underlying89 rfl si89 (by rw [zE, zg hl]; omega) _ (Zd hl))
  intro ptrs w4 GD hxE
  simp only [List.drop_succ_cons, List.drop_zero]
  replace kp := GD.has kp
  replace ksg := GD.has ksg
  replace kg := GD.has kg
  replace HN := HN.gro ((Gro.refl _).drew.trans GD)
  replace GG := GG.drew.tg GD
  clear GD
  refine sv (.pointer (some ⟨sg, i * 64, none⟩)) (vx _ _ rfl sg n n i rfl rfl hi _) rfl (nq ?_)
  refine jE rfl rfl 89 _ _ rfl sg (i * 64) rfl (.agg (bv (padS l))) rfl 89 _ ksg (bv (padS l)) rfl (by rw [zE, zg hl]; exact si89) (by rw [zE, zE, zg hl]; exact yb H.len hi) (bv_one _) _ (Yq L (padS l) (i * 64)) ?_
  intro w5 St
  replace kp := St.has (by omega) kp
  replace kg := St.has (by omega) kg
  replace HN := HN.gros ((GroS.refl [p, sg] _).st St (.inr (by simp)))
  replace GG := GG.st St (.inr (by simp))
  replace ksg := St.new
  clear St
  refine qL (qE (qG (mv (vP p 0) rfl (sv (vP p 0) (jl _ rfl _ rfl) rfl (sv (vP p 2) (je 92 _ 2 rfl _ _ rfl _ (by kernel_rfl)) rfl (sv (iK dn) (jo 3 _ rfl p 2 rfl 92 _ kp (na3 _) _ rfl) rfl (sv (iK (dn + 1)) (jp _ _ _ rfl dn 1 _ rfl rfl rfl (by omega) (by omega) _) rfl (sv (vP p 0) (jl _ rfl _ rfl) rfl ?_))))))))
  refine nq ?_
  refine sv (vP p 2) (je 92 _ 2 rfl _ _ rfl _ (by kernel_rfl)) rfl (nq ?_)
  refine jE rfl rfl 3 _ _ rfl p 2 rfl (iK (dn + 1)) rfl 92 _ kp #[iK (dn + 1)] rfl (by kernel_rfl) (Nat.le_of_ble_eq_true rfl) (by kernel_rfl) (c92 ⟨some ⟨sg, 0, none⟩, n, n⟩ pw (dn + 1)) (by kernel_rfl) ?_
  intro w7 St
  replace ksg := St.has (by omega) ksg
  replace kg := St.has (by omega) kg
  replace HN := HN.gros ((GroS.refl [p, sg] _).st St (.inr (by simp)))
  replace GG := GG.st St (.inr (by simp))
  replace kp := St.new
  clear St
  refine qL (qE (qE (qG (mv (vP p 0) rfl (sv (vP p 0) (jl _ rfl _ rfl) rfl (sv (vP p 1) (je 92 _ 1 rfl _ _ rfl _ (by kernel_rfl)) rfl (sv (iK pw) (jo 3 _ rfl p 1 rfl 92 _ kp (na3 _) _ rfl) rfl (sv (vF) (jj 3 .i64 _ _ _ rfl underlying3 pw (-1) rfl rfl false (by first | exact decide_eq_true (by omega) | exact decide_eq_false (by omega)) _) rfl (nq ?_)))))))))
  refine qL (qF rfl (qK (qE (qG (mv (iK 0) rfl (nq ?_))))))
  refine qL (qR ?_)
  refine bodyPost_ret (results_tmp results72 _ _ _) rfl ?_
  exact ⟨rfl, GG, kp, ksg, by rw [yN (by rw [zg hl]; exact yb H.len hi)]; exact H.len, H.le, QC H.byte (YA HB.nc.lt256), H.ne⟩
theorem jbf (w : World) (p sg n : Nat) (L : List Nat) (pw dn : Int) (H : DK w p sg n L pw dn) (ao : Option Addr) (cap : Nat) (l : List Nat) (HB : BS [p, sg] w ao cap l) (i : Nat) (hi : i < n) (hl : l.length ≤ 64) (h1 : 0 < pw) (h2 : pw < 9223372036854775808) (hd : 0 ≤ dn) (hd2 : dn < 9223372036854775807) : Calls Tryz.prog 72 #[vP p 0, nK i, .slice ao l.length cap] w fun e w' => e = .returned (iK 0) ∧ GroS [p, sg] w w' ∧ DK w' p sg n (wr L (i * 64) (padS l)) (pw - 1) (dn + 1) := by
  refine eN func72 rfl ntmps72 [vP p 0, nK i, .slice ao l.length cap] ?_
  have GG := GroS.refl [p, sg] w
  have kp := H.box
  have ksg := H.sec
  have hne := H.ne
  have HN := HB
  refine qE (qG (mv (iK 0) rfl (nq ?_)))
  refine qL (qE (qB (qE (qG (mv (vP p 0) rfl (mv (nK i) rfl (nq ?_)))))))
  have HC := Zz w p sg n L pw dn ⟨kp, ksg, H.len, H.le, H.byte, H.ne⟩ ((i : Nat) : Int)
  rw [Vn hi] at HC
  refine jr 11 rfl rfl _ 93 call93 rfl rfl _ rfl [vP p 0, nK i] rfl (HC) ?_
  intro w1 G
  replace kp := G.has kp
  replace ksg := G.has ksg
  replace HN := HN.gro G
  replace GG := GG.tg G
  clear G
  refine nq ?_
  clear HC
  refine sv (vF) (jZ _ _ rfl true rfl) rfl (mv (vF) rfl (nq ?_))
  refine qL (qF rfl (qE (qG (mv (.slice ao l.length cap) rfl (sv (nK l.length) (js underlying27 _ rfl _ _ _ rfl _) rfl (sv (vF) (jy 3 _ _ _ rfl ((l.length : Nat) : Int) 64 rfl rfl false (decide_eq_false (by omega)) _) rfl (mv (vF) rfl (nq ?_))))))))
  refine qL (qF rfl (qE (qG (mv (vP p 0) rfl (sv (vP p 0) (jl _ rfl _ rfl) rfl (sv (vP p 1) (je 92 _ 1 rfl _ _ rfl _ (by kernel_rfl)) rfl (sv (iK pw) (jo 3 _ rfl p 1 rfl 92 _ kp (na3 _) _ rfl) rfl (sv (vF) (jw 3 .i64 _ _ _ rfl underlying3 pw 0 rfl rfl false (decide_eq_false (by omega)) _) rfl (mv (vF) rfl ?_)))))))))
  refine nq ?_
  refine qL (qF rfl (wp_skip (zb (jC (qS ?_)))))
  refine jH 7 rfl rfl 89 rfl _ zv89 (bv (zs 64)) rfl ?_
  intro w2 g G eg kg
  have bg := jN GG eg
  have dpg := jn kp eg
  have dsgg := jn ksg eg
  replace kp := G.has kp
  replace ksg := G.has ksg
  replace HN := HN.gro G
  replace GG := GG.tg G
  clear G eg
  refine nq ?_
  refine qL (qE (qG (sv (.slice (some ⟨g, 0, none⟩) 64 64) (vy _ rfl _ _ rfl _) rfl (mv (.slice ao l.length cap) rfl (nq ?_)))))
  refine uY bT 25 rfl rfl _ _ rfl g 0 64 64 rfl kg rfl (rfl) (HN.nc) (List.take_of_length_le hl) (by rw [zo]; omega) ?_
  intro w3 St
  replace kp := St.has (by omega) kp
  replace ksg := St.has (by omega) ksg
  replace HN := HN.st St (fun ad ha h0 => by have := HB.nc.lt ad ha h0; omega)
  replace GG := GG.st St (.inl bg)
  replace kg := St.new
  clear St
  rw [jbh] at kg
  refine nq ?_
  refine qL (qE ?_)
  refine jQ (A := ?A) 6 [(0, 26), (1, 27), (2, 28), (3, 29), (4, 30), (5, 31)] [.val (vP p 0), .val (vP p 0), .val (vP p 0), .val (.slice (some ⟨sg, 0, none⟩) n n), .val (nK i), .val (.agg (bv (padS l)))] follows (by kernel_rfl) rfl ?hA (ja ?o0 (ja ?o1 (ja ?o2 (ja ?o3 (ja ?o4 (ja ?o5 jD)))))) ?rest
  case hA =>
    intro ptrs
    simp only [full, foldSlots, filledE, postE, List.foldl_cons, List.foldl_nil, List.getD_cons_zero, List.getD_cons_succ, zu, List.set_cons_zero, List.set_cons_succ]
    exact rfl
  case o0 => exact fun _ _ _ _ => jf (v := vP p 0) _ rfl rfl rfl
  case o1 => exact fun _ _ hw _ => jb (v := vP p 0) rfl (jl _ rfl _ rfl)
  case o2 => exact fun _ _ hw _ => jb (v := vP p 0) rfl (je 92 _ 0 rfl _ _ rfl _ (by kernel_rfl))
  case o3 => exact fun _ _ hw _ => jb (v := .slice (some ⟨sg, 0, none⟩) n n) rfl (jo 90 _ rfl p 0 rfl 92 _ (hw.has kp) (na90 _) _ rfl)
  case o4 => exact fun _ _ _ _ => jf (v := nK i) _ rfl rfl rfl
  case o5 => exact fun _ _ hw _ => jb (v := .agg (bv (padS l))) rfl (zx 89 _ rfl g 0 64 rfl 89 _ (hw.has kg) _ underlying89 rfl si89 (by rw [zE, zg hl]; omega) _ (Zd hl))
  intro ptrs w4 GD hxE
  simp only [List.drop_succ_cons, List.drop_zero]
  replace kp := GD.has kp
  replace ksg := GD.has ksg
  replace kg := GD.has kg
  replace HN := HN.gro ((Gro.refl _).drew.trans GD)
  replace GG := GG.drew.tg GD
  clear GD
  refine sv (.pointer (some ⟨sg, i * 64, none⟩)) (vx _ _ rfl sg n n i rfl rfl hi _) rfl (nq ?_)
  refine jE rfl rfl 89 _ _ rfl sg (i * 64) rfl (.agg (bv (padS l))) rfl 89 _ ksg (bv (padS l)) rfl (by rw [zE, zg hl]; exact si89) (by rw [zE, zE, zg hl]; exact yb H.len hi) (bv_one _) _ (Yq L (padS l) (i * 64)) ?_
  intro w5 St
  replace kp := St.has (by omega) kp
  replace kg := St.has (by omega) kg
  replace HN := HN.gros ((GroS.refl [p, sg] _).st St (.inr (by simp)))
  replace GG := GG.st St (.inr (by simp))
  replace ksg := St.new
  clear St
  refine qL (qE (qG (mv (vP p 0) rfl (sv (vP p 0) (jl _ rfl _ rfl) rfl (sv (vP p 2) (je 92 _ 2 rfl _ _ rfl _ (by kernel_rfl)) rfl (sv (iK dn) (jo 3 _ rfl p 2 rfl 92 _ kp (na3 _) _ rfl) rfl (sv (iK (dn + 1)) (jp _ _ _ rfl dn 1 _ rfl rfl rfl (by omega) (by omega) _) rfl (sv (vP p 0) (jl _ rfl _ rfl) rfl ?_))))))))
  refine nq ?_
  refine sv (vP p 2) (je 92 _ 2 rfl _ _ rfl _ (by kernel_rfl)) rfl (nq ?_)
  refine jE rfl rfl 3 _ _ rfl p 2 rfl (iK (dn + 1)) rfl 92 _ kp #[iK (dn + 1)] rfl (by kernel_rfl) (Nat.le_of_ble_eq_true rfl) (by kernel_rfl) (c92 ⟨some ⟨sg, 0, none⟩, n, n⟩ pw (dn + 1)) (by kernel_rfl) ?_
  intro w7 St
  replace ksg := St.has (by omega) ksg
  replace kg := St.has (by omega) kg
  replace HN := HN.gros ((GroS.refl [p, sg] _).st St (.inr (by simp)))
  replace GG := GG.st St (.inr (by simp))
  replace kp := St.new
  clear St
  refine qL (qE (qE (qG (mv (vP p 0) rfl (sv (vP p 0) (jl _ rfl _ rfl) rfl (sv (vP p 1) (je 92 _ 1 rfl _ _ rfl _ (by kernel_rfl)) rfl (sv (iK pw) (jo 3 _ rfl p 1 rfl 92 _ kp (na3 _) _ rfl) rfl (sv (vT) (jj 3 .i64 _ _ _ rfl underlying3 pw (-1) rfl rfl true (by first | exact decide_eq_true (by omega) | exact decide_eq_false (by omega)) _) rfl (nq ?_)))))))))
  refine qL (qT rfl (qG (mv (vP p 0) rfl (sv (vP p 0) (jl _ rfl _ rfl) rfl (sv (vP p 1) (je 92 _ 1 rfl _ _ rfl _ (by kernel_rfl)) rfl (sv (iK pw) (jo 3 _ rfl p 1 rfl 92 _ kp (na3 _) _ rfl) rfl (sv (iK (pw - 1)) (jP _ _ _ rfl pw 1 _ rfl rfl rfl (by omega) (by omega) _) rfl (sv (vP p 0) (jl _ rfl _ rfl) rfl ?_))))))))
  refine nq ?_
  refine sv (vP p 1) (je 92 _ 1 rfl _ _ rfl _ (by kernel_rfl)) rfl (nq ?_)
  refine jE rfl rfl 3 _ _ rfl p 1 rfl (iK (pw - 1)) rfl 92 _ kp #[iK (pw - 1)] rfl (by kernel_rfl) (Nat.le_of_ble_eq_true rfl) (by kernel_rfl) (c92 ⟨some ⟨sg, 0, none⟩, n, n⟩ (pw - 1) (dn + 1)) (by kernel_rfl) ?_
  intro w9 St
  replace ksg := St.has (by omega) ksg
  replace kg := St.has (by omega) kg
  replace HN := HN.gros ((GroS.refl [p, sg] _).st St (.inr (by simp)))
  replace GG := GG.st St (.inr (by simp))
  replace kp := St.new
  clear St
  refine qL (qE (qG (mv (iK 0) rfl (nq ?_))))
  refine qL (qR ?_)
  refine bodyPost_ret (results_tmp results72 _ _ _) rfl ?_
  exact ⟨rfl, GG, kp, ksg, by rw [yN (by rw [zg hl]; exact yb H.len hi)]; exact H.len, H.le, QC H.byte (YA HB.nc.lt256), H.ne⟩
end Go.Proofs.YtgfnjekpafempaaGreat
