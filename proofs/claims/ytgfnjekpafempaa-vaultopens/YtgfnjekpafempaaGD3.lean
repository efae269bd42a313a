/- Disk: made anew, read, written. -/
import Derived.Test.YtgfnjekpafempaaGD2
import Derived.Test.YtgfnjekpafempaaGAb
namespace Go.Proofs.Ytgfnjekpafempaa
set_option maxHeartbeats 4000000
set_option maxRecDepth 100000
open Go.RowKit
theorem sT : RowT Try.prog 99 98 64 64 (.agg z64) := ⟨Try.underlying99, JW (by kernel_rfl), rfl, by decide⟩
theorem zv98 (w : World) : (zeroValue 98).run Try.prog w = .ok (.agg z64) w := by kernel_rfl
theorem si98 : (Try.prog.info? 98).map (·.size) = some 64 := by kernel_rfl
theorem vg {o : Oper} {A : Act} (x : Operand) (ho : o.op = .slice 98 x none none none) (g off : Nat) (hx : A.eval x = .pointer (some ⟨g, off, none⟩)) (w : World) : (execOp A.eval o).run Try.prog w = .ok (.value (.slice (some ⟨g, off, none⟩) 64 64)) w := by
  have h : (Instr.sliceAt 98 (.pointer (some ⟨g, off, none⟩)) none none none).run Try.prog w = .ok (.slice (some ⟨g, off, none⟩) 64 64) w := by kernel_rfl
  unfold execOp
  simp only [ho, hx, Option.map_none, Sem.run_bind, h, Result.andThen_ok, Sem.run_pure]
theorem vf {o : Oper} {A : Act} (x y : Operand) (ho : o.op = .indexAddr 99 x y) (g n cap j : Nat) (hx : A.eval x = .slice (some ⟨g, 0, none⟩) n cap) (hy : A.eval y = .int .i64 (j : Int)) (hj : j < n) (w : World) :
    (execOp A.eval o).run Try.prog w = .ok (.value (.pointer (some ⟨g, j * 64, none⟩))) w := by
  rw [YP sT x y ho ⟨g, 0, none⟩ n cap j hx hy hj w, zQ, Nat.zero_add]
def clN (x : Int) : Nat := (min (max x 0) 4096).toNat
theorem clN_eq (x : Int) : min (max x 0) 4096 = ((clN x : Nat) : Int) := by unfold clN; omega
theorem VY (x : Int) : clN x ≤ 4096 := by unfold clN; omega
theorem clN_nat (n : Nat) (h : n ≤ 4096) : clN (n : Int) = n := by unfold clN; omega
def secL (L : List Nat) (i : Nat) : List Nat := (L.drop (i * 64)).take 64
theorem zY {n i : Nat} {L : List Nat} (h : L.length = n * 64) (hi : i < n) : i * 64 + 64 ≤ L.length := by omega
theorem zW {n i : Nat} {L : List Nat} (h : L.length = n * 64) (hi : i < n) : (secL L i).length = 64 := by
  rw [secL, List.length_take, List.length_drop]; omega
theorem Qj (L : List Nat) (i : Nat) : (secL L i).take 64 = secL L i := by simp [secL, List.take_take]
theorem vc {L : List Nat} (h : ∀ x ∈ L, x < 256) (i : Nat) : ∀ x ∈ secL L i, x < 256 := fun x hx => h x (List.mem_of_mem_drop (List.mem_of_mem_take hx))
def padS (l : List Nat) : List Nat := l ++ zs (64 - l.length)
theorem Ud (n : Nat) (l : List Nat) : wr (zs n) 0 l = l ++ zs (n - l.length) := by
  simp [wr, zs]
theorem Kk {l : List Nat} : wr (zs 64) 0 l = padS l := Ud 64 l
theorem ze {l : List Nat} (h : l.length ≤ 64) : (padS l).length = 64 := by rw [padS, List.length_append, zt]; omega
theorem ZM {l : List Nat} (h : ∀ x ∈ l, x < 256) : ∀ x ∈ padS l, x < 256 := fun x hx => by
  rcases List.mem_append.1 hx with hx | hx
  · exact h x hx
  · exact JI _ x hx
theorem Jz {l : List Nat} (h : l.length ≤ 64) : (bv (padS l)).extract 0 (0 + 64) = bv (padS l) := by
  rw [Ua, List.drop_zero, List.take_of_length_le (by rw [ze h]; exact Nat.le_refl _)]
theorem Ym {n i : Nat} (h : i < n) : hasB n (i : Int) = true := by
  unfold hasB
  rw [decide_eq_true (by omega : (0 : Int) ≤ (i : Int))]
  exact decide_eq_true (by omega)
theorem jbi {n : Nat} {i : Int} (h : hasB n i = true) : ∃ j : Nat, i = (j : Int) ∧ j < n := by
  unfold hasB at h
  cases h1 : decide (0 ≤ i)
  · rw [h1] at h; cases h
  · rw [h1] at h
    have h2 : i < (n : Int) := of_decide_eq_true h
    have h3 : 0 ≤ i := of_decide_eq_true h1
    exact ⟨i.toNat, by omega, by omega⟩
theorem UH (w : World) (x : Int) : Calls Try.prog 23 #[iK x] w fun e w' => ∃ p sg, e = .returned (vP p 0) ∧ Gro w w' ∧ w.heap.size ≤ p ∧ w.heap.size ≤ sg ∧ DK w' p sg (clN x) (zs (clN x * 64)) (-1) 0 := by
  refine js Try.func23 rfl Try.ntmps23 [iK x] [iK x, uD, uD, uD, uD, uD, uD, uD, uD, uD, uD] rfl ?_
  have GG := Gro.refl w
  refine qS ?_
  refine ja 2 rfl rfl (.pointer none) (rfl) ?_
  refine nr ?_; intro U h; simp only [z0, z1] at h; subst h
  refine qA ?_
  refine ja 4 rfl rfl (iK x) (rfl) ?_
  refine ja 5 rfl rfl (iK (max x 0)) (Qt _ _ _ rfl x 0 _ rfl rfl rfl _) ?_
  refine ja 6 rfl rfl (nK (clN x)) (Qs _ _ _ rfl (max x 0) 4096 _ rfl rfl (clN_eq x) _) ?_
  refine ja 3 rfl rfl (nK (clN x)) (rfl) ?_
  refine nr ?_; intro U h; simp only [z0, z1] at h; subst h
  refine qA ?_
  refine ja 7 rfl rfl (nK (clN x)) (rfl) ?_
  refine nr ?_; intro U h; simp only [z0, z1] at h; subst h
  refine Kz sT 8 rfl rfl _ _ rfl (clN x) rfl rfl (by have := VY x; omega) (by have := VY x; simp only [maxLen]; omega) ?_
  intro w1 sg G esg ksg
  have bsg := jk GG esg
  replace GG := GG.trans G
  clear G esg
  refine nr ?_; intro U h; simp only [z0, z1] at h; subst h
  refine ja 9 rfl rfl (.agg (c101 ⟨some ⟨sg, 0, none⟩, clN x, clN x⟩ (-1) 0)) (jN 101 _ rfl [(0, .slice (some ⟨sg, 0, none⟩) (clN x) (clN x)), (1, iK (-1))] rfl _ (by kernel_rfl)) ?_
  refine nr ?_; intro U h; simp only [z0, z1] at h; subst h
  refine zw 10 rfl rfl 101 _ rfl _ rfl (c101 ⟨some ⟨sg, 0, none⟩, clN x, clN x⟩ (-1) 0) rfl ?_
  intro w2 g2 G eg2 kg2
  have bg2 := jk GG eg2
  have dsgg2 := jH ksg eg2
  replace ksg := G.has ksg
  replace GG := GG.trans G
  clear G eg2
  refine nr ?_; intro U h; simp only [z0, z1] at h; subst h
  refine ja 2 rfl rfl (vP g2 0) (rfl) ?_
  refine nr ?_; intro U h; simp only [z0, z1] at h; subst h
  refine qL (qR ?_)
  refine bodyPost_ret (results_tmp Try.results23 _ _ _) rfl ?_
  exact ⟨g2, sg, rfl, GG, bg2, bsg, kg2, ksg, zt _, VY x, JI _, by omega⟩
theorem UA (w : World) (p sg n : Nat) (L : List Nat) (pw dn : Int) (H : DK w p sg n L pw dn) (i : Nat) (hi : i < n) : Calls Try.prog 76 #[vP p 0, nK i] w fun e w' => ∃ g, e = .returned (.tuple #[.slice (some ⟨g, 0, none⟩) 64 64, iK 0]) ∧ Gro w w' ∧ w.heap.size ≤ g ∧ w'.heap[g]? = some (.cells (bv (secL L i)) 5 (0, 0)) := by
  refine js Try.func76 rfl Try.ntmps76 [vP p 0, nK i] [vP p 0, nK i, uD, uD, uD, uD, uD, uD, uD, uD, uD, uD, uD, uD, uD, uD, uD, uD, uD, uD, uD, uD] rfl ?_
  have GG := Gro.refl w
  have kp := H.box
  have ksg := H.sec
  have hne := H.ne
  refine qS ?_
  refine ja 4 rfl rfl (.slice none 0 0) (rfl) ?_
  refine ja 5 rfl rfl (iK 0) (rfl) ?_
  refine nr ?_; intro U h; simp only [z0, z1] at h; subst h
  refine qL (qE (qS ?_))
  refine ja 7 rfl rfl (vP p 0) (rfl) ?_
  refine ja 8 rfl rfl (nK i) (rfl) ?_
  refine nr ?_; intro U h; simp only [z0, z1] at h; subst h
  have HC := JX w p sg n L pw dn (H.gro GG) ((i : Nat) : Int)
  rw [Ym hi] at HC
  refine jy 9 rfl rfl _ 96 Try.call96 rfl rfl _ rfl [vP p 0, nK i] rfl (HC) ?_
  intro w1 G
  replace kp := G.has kp
  replace ksg := G.has ksg
  replace GG := GG.trans G
  clear G
  refine nr ?_; intro U h; simp only [z0, z1] at h; subst h
  clear HC
  refine ja 10 rfl rfl (vF) (zi _ _ rfl true rfl) ?_
  refine nr ?_; intro U h; simp only [z0, z1] at h; subst h
  refine qL (qF rfl (qK (qS ?_)))
  refine Ze bT 11 rfl rfl _ _ rfl 64 rfl rfl (by omega) (by simp only [maxLen]; omega) ?_
  intro w2 g G eg kg
  have bg := jk GG eg
  have dpg := jH kp eg
  have dsgg := jH ksg eg
  replace kp := G.has kp
  replace ksg := G.has ksg
  replace GG := GG.trans G
  clear G eg
  refine nr ?_; intro U h; simp only [z0, z1] at h; subst h
  refine ja 6 rfl rfl (.slice (some ⟨g, 0, none⟩) 64 64) (rfl) ?_
  refine nr ?_; intro U h; simp only [z0, z1] at h; subst h
  refine qA ?_
  refine ja 12 rfl rfl (.slice (some ⟨g, 0, none⟩) 64 64) (rfl) ?_
  refine ja 13 rfl rfl (vP p 0) (rfl) ?_
  refine ja 14 rfl rfl (vP p 0) (jn _ rfl _ rfl) ?_
  refine ja 15 rfl rfl (vP p 0) (jf 101 _ 0 rfl _ _ rfl _ (by kernel_rfl)) ?_
  refine ja 16 rfl rfl (.slice (some ⟨sg, 0, none⟩) n n) (jq 99 _ rfl p 0 rfl 101 _ kp (na99 _) _ rfl) ?_
  refine ja 17 rfl rfl (nK i) (rfl) ?_
  refine ja 18 rfl rfl (.pointer (some ⟨sg, i * 64, none⟩)) (vf _ _ rfl sg n n i rfl rfl hi _) ?_
  refine ja 19 rfl rfl (.slice (some ⟨sg, i * 64, none⟩) 64 64) (vg _ rfl _ _ rfl _) ?_
  refine nr ?_; intro U h; simp only [z0, z1] at h; subst h
  refine uC bT 20 rfl rfl _ _ rfl g 0 64 64 rfl kg rfl (zW H.len hi) (Zp ksg (zY H.len hi) (Nat.le_refl _) H.byte) (Qj L i) (by rw [zt]; omega) ?_
  intro w3 St
  replace kp := St.has (by omega) kp
  replace ksg := St.has (by omega) ksg
  replace GG := GG.store St bg
  replace kg := St.new
  clear St
  rw [Kl (by rw [zW H.len hi, zt])] at kg
  refine nr ?_; intro U h; simp only [z0, z1] at h; subst h
  refine qA ?_
  refine ja 21 rfl rfl (.slice (some ⟨g, 0, none⟩) 64 64) (rfl) ?_
  refine ja 4 rfl rfl (.slice (some ⟨g, 0, none⟩) 64 64) (rfl) ?_
  refine ja 5 rfl rfl (iK 0) (rfl) ?_
  refine nr ?_; intro U h; simp only [z0, z1] at h; subst h
  refine qL (qR ?_)
  refine bodyPost_ret (results_tmp2 Try.results76 _ _ _) rfl ?_
  exact ⟨g, rfl, GG, bg, kg⟩
theorem Za (w : World) (p sg n : Nat) (L : List Nat) (pw dn : Int) (H : DK w p sg n L pw dn) (h0 : pw = 0) (ao : Option Addr) (cap : Nat) (l : List Nat) (i : Nat) (hi : i < n) (hl : l.length ≤ 64) : Calls Try.prog 81 #[vP p 0, nK i, .slice ao l.length cap] w fun e w' => e = .returned (iK 8) ∧ Gro w w' := by
  refine js Try.func81 rfl Try.ntmps81 [vP p 0, nK i, .slice ao l.length cap] [vP p 0, nK i, .slice ao l.length cap, uD, uD, uD, uD, uD, uD, uD, uD, uD, uD, uD, uD, uD, uD, uD, uD, uD, uD, uD, uD, uD, uD, uD, uD, uD, uD, uD, uD, uD, uD, uD, uD, uD, uD, uD, uD, uD, uD, uD, uD, uD, uD, uD, uD, uD, uD, uD, uD, uD] rfl ?_
  have GG := Gro.refl w
  have kp := H.box
  have ksg := H.sec
  have hne := H.ne
  refine qS ?_
  refine ja 6 rfl rfl (iK 0) (rfl) ?_
  refine nr ?_; intro U h; simp only [z0, z1] at h; subst h
  refine qL (qE (qB (qS ?_)))
  refine ja 9 rfl rfl (vP p 0) (rfl) ?_
  refine ja 10 rfl rfl (nK i) (rfl) ?_
  refine nr ?_; intro U h; simp only [z0, z1] at h; subst h
  have HC := JX w p sg n L pw dn (H.gro GG) ((i : Nat) : Int)
  rw [Ym hi] at HC
  refine jy 11 rfl rfl _ 96 Try.call96 rfl rfl _ rfl [vP p 0, nK i] rfl (HC) ?_
  intro w1 G
  replace kp := G.has kp
  replace ksg := G.has ksg
  replace GG := GG.trans G
  clear G
  refine nr ?_; intro U h; simp only [z0, z1] at h; subst h
  clear HC
  refine ja 12 rfl rfl (vF) (zi _ _ rfl true rfl) ?_
  refine ja 8 rfl rfl (vF) (rfl) ?_
  refine nr ?_; intro U h; simp only [z0, z1] at h; subst h
  refine qL (qF rfl (qS ?_))
  refine ja 14 rfl rfl (.slice ao l.length cap) (rfl) ?_
  refine ja 15 rfl rfl (nK l.length) (jA Try.underlying30 _ rfl _ _ _ rfl _) ?_
  refine ja 16 rfl rfl (vF) (jJ 3 _ _ _ rfl ((l.length : Nat) : Int) 64 rfl rfl false (decide_eq_false (by omega)) _) ?_
  refine ja 13 rfl rfl (vF) (rfl) ?_
  refine nr ?_; intro U h; simp only [z0, z1] at h; subst h
  refine qL (qF rfl (qS ?_))
  refine ja 18 rfl rfl (vP p 0) (rfl) ?_
  refine ja 19 rfl rfl (vP p 0) (jn _ rfl _ rfl) ?_
  refine ja 20 rfl rfl (vP p 1) (jf 101 _ 1 rfl _ _ rfl _ (by kernel_rfl)) ?_
  refine ja 21 rfl rfl (iK pw) (jq 3 _ rfl p 1 rfl 101 _ kp (na3 _) _ rfl) ?_
  refine ja 22 rfl rfl (vT) (jB 3 .i64 _ _ _ rfl Try.underlying3 pw 0 rfl rfl true (decide_eq_true h0) _) ?_
  refine ja 17 rfl rfl (vT) (rfl) ?_
  refine nr ?_; intro U h; simp only [z0, z1] at h; subst h
  refine qL (qT rfl (qS ?_))
  refine ja 6 rfl rfl (iK 8) (rfl) ?_
  refine nr ?_; intro U h; simp only [z0, z1] at h; subst h
  refine qL (qR (zk (jr ?_)))
  refine bodyPost_ret (results_tmp Try.results81 _ _ _) rfl ?_
  exact ⟨rfl, GG⟩
theorem Qd (w : World) (p sg n : Nat) (L : List Nat) (pw dn : Int) (H : DK w p sg n L pw dn) (ao : Option Addr) (cap : Nat) (l : List Nat) (HB : BS [p, sg] w ao cap l) (i : Nat) (hi : i < n) (hl : l.length ≤ 64) (h1 : pw = -1) (hd : 0 ≤ dn) (hd2 : dn < 9223372036854775807) : Calls Try.prog 81 #[vP p 0, nK i, .slice ao l.length cap] w fun e w' => e = .returned (iK 0) ∧ GroS [p, sg] w w' ∧ DK w' p sg n (wr L (i * 64) (padS l)) pw (dn + 1) := by
  refine js Try.func81 rfl Try.ntmps81 [vP p 0, nK i, .slice ao l.length cap] [vP p 0, nK i, .slice ao l.length cap, uD, uD, uD, uD, uD, uD, uD, uD, uD, uD, uD, uD, uD, uD, uD, uD, uD, uD, uD, uD, uD, uD, uD, uD, uD, uD, uD, uD, uD, uD, uD, uD, uD, uD, uD, uD, uD, uD, uD, uD, uD, uD, uD, uD, uD, uD, uD, uD, uD] rfl ?_
  have GG := GroS.refl [p, sg] w
  have kp := H.box
  have ksg := H.sec
  have hne := H.ne
  have HN := HB
  refine qS ?_
  refine ja 6 rfl rfl (iK 0) (rfl) ?_
  refine nr ?_; intro U h; simp only [z0, z1] at h; subst h
  refine qL (qE (qB (qS ?_)))
  refine ja 9 rfl rfl (vP p 0) (rfl) ?_
  refine ja 10 rfl rfl (nK i) (rfl) ?_
  refine nr ?_; intro U h; simp only [z0, z1] at h; subst h
  have HC := JX w p sg n L pw dn ⟨kp, ksg, H.len, H.le, H.byte, H.ne⟩ ((i : Nat) : Int)
  rw [Ym hi] at HC
  refine jy 11 rfl rfl _ 96 Try.call96 rfl rfl _ rfl [vP p 0, nK i] rfl (HC) ?_
  intro w1 G
  replace kp := G.has kp
  replace ksg := G.has ksg
  replace HN := HN.gro G
  replace GG := GG.tg G
  clear G
  refine nr ?_; intro U h; simp only [z0, z1] at h; subst h
  clear HC
  refine ja 12 rfl rfl (vF) (zi _ _ rfl true rfl) ?_
  refine ja 8 rfl rfl (vF) (rfl) ?_
  refine nr ?_; intro U h; simp only [z0, z1] at h; subst h
  refine qL (qF rfl (qS ?_))
  refine ja 14 rfl rfl (.slice ao l.length cap) (rfl) ?_
  refine ja 15 rfl rfl (nK l.length) (jA Try.underlying30 _ rfl _ _ _ rfl _) ?_
  refine ja 16 rfl rfl (vF) (jJ 3 _ _ _ rfl ((l.length : Nat) : Int) 64 rfl rfl false (decide_eq_false (by omega)) _) ?_
  refine ja 13 rfl rfl (vF) (rfl) ?_
  refine nr ?_; intro U h; simp only [z0, z1] at h; subst h
  refine qL (qF rfl (qS ?_))
  refine ja 18 rfl rfl (vP p 0) (rfl) ?_
  refine ja 19 rfl rfl (vP p 0) (jn _ rfl _ rfl) ?_
  refine ja 20 rfl rfl (vP p 1) (jf 101 _ 1 rfl _ _ rfl _ (by kernel_rfl)) ?_
  refine ja 21 rfl rfl (iK pw) (jq 3 _ rfl p 1 rfl 101 _ kp (na3 _) _ rfl) ?_
  refine ja 22 rfl rfl (vF) (jB 3 .i64 _ _ _ rfl Try.underlying3 pw 0 rfl rfl false (decide_eq_false (by omega)) _) ?_
  refine ja 17 rfl rfl (vF) (rfl) ?_
  refine nr ?_; intro U h; simp only [z0, z1] at h; subst h
  refine qL (qF rfl (wp_skip (zh (jG (qS ?_)))))
  refine jU 7 rfl rfl 98 rfl _ zv98 (bv (zs 64)) rfl ?_
  intro w2 g G eg kg
  have bg := jO GG eg
  have dpg := jH kp eg
  have dsgg := jH ksg eg
  replace kp := G.has kp
  replace ksg := G.has ksg
  replace HN := HN.gro G
  replace GG := GG.tg G
  clear G eg
  refine nr ?_; intro U h; simp only [z0, z1] at h; subst h
  refine qA ?_
  refine ja 23 rfl rfl (.slice (some ⟨g, 0, none⟩) 64 64) (vg _ rfl _ _ rfl _) ?_
  refine ja 24 rfl rfl (.slice ao l.length cap) (rfl) ?_
  refine nr ?_; intro U h; simp only [z0, z1] at h; subst h
  refine uC bT 25 rfl rfl _ _ rfl g 0 64 64 rfl kg rfl (rfl) (HN.nc) (List.take_of_length_le hl) (by rw [zt]; omega) ?_
  intro w3 St
  replace kp := St.has (by omega) kp
  replace ksg := St.has (by omega) ksg
  replace HN := HN.st St (fun ad ha h0 => by have := HB.nc.lt ad ha h0; omega)
  replace GG := GG.st St (.inl bg)
  replace kg := St.new
  clear St
  rw [Kk] at kg
  refine nr ?_; intro U h; simp only [z0, z1] at h; subst h
  refine qL (qE ?_)
  refine jl (A := ?A) 6 [(0, 26), (1, 27), (2, 28), (3, 29), (4, 30), (5, 31)] [.val (vP p 0), .val (vP p 0), .val (vP p 0), .val (.slice (some ⟨sg, 0, none⟩) n n), .val (nK i), .val (.agg (bv (padS l)))] follows (by kernel_rfl) rfl ?hA (jb ?o0 (jb ?o1 (jb ?o2 (jb ?o3 (jb ?o4 (jb ?o5 jF)))))) ?rest
  case hA =>
    intro ptrs
    simp only [full, foldSlots, filledE, postE, List.foldl_cons, List.foldl_nil, List.getD_cons_zero, List.getD_cons_succ, jI, List.set_cons_zero, List.set_cons_succ]
    exact rfl
  case o0 => exact fun _ _ _ _ => jg (v := vP p 0) _ rfl rfl rfl
  case o1 => exact fun _ _ hw _ => jd (v := vP p 0) rfl (jn _ rfl _ rfl)
  case o2 => exact fun _ _ hw _ => jd (v := vP p 0) rfl (jf 101 _ 0 rfl _ _ rfl _ (by kernel_rfl))
  case o3 => exact fun _ _ hw _ => jd (v := .slice (some ⟨sg, 0, none⟩) n n) rfl (jq 99 _ rfl p 0 rfl 101 _ (hw.has kp) (na99 _) _ rfl)
  case o4 => exact fun _ _ _ _ => jg (v := nK i) _ rfl rfl rfl
  case o5 => exact fun _ _ hw _ => jd (v := .agg (bv (padS l))) rfl (zP 98 _ rfl g 0 64 rfl 98 _ (hw.has kg) _ Try.underlying98 rfl si98 (by rw [zF, ze hl]; omega) _ (Jz hl))
  intro ptrs w4 GD hxE
  simp only [List.drop_succ_cons, List.drop_zero]
  replace kp := GD.has kp
  replace ksg := GD.has ksg
  replace kg := GD.has kg
  replace HN := HN.gro ((Gro.refl _).drew.trans GD)
  replace GG := GG.drew.tg GD
  clear GD
  refine ja 32 rfl rfl (.pointer (some ⟨sg, i * 64, none⟩)) (vf _ _ rfl sg n n i rfl rfl hi _) ?_
  refine nr ?_; intro U h; simp only [z0, z1] at h; subst h
  refine jt rfl rfl 98 _ _ rfl sg (i * 64) rfl (.agg (bv (padS l))) rfl 98 _ ksg (bv (padS l)) rfl (by rw [zF, ze hl]; exact si98) (by rw [zF, zF, ze hl]; exact zY H.len hi) (jbw _) _ (ZD L (padS l) (i * 64)) ?_
  intro w5 St
  replace kp := St.has (by omega) kp
  replace kg := St.has (by omega) kg
  replace HN := HN.gros ((GroS.refl [p, sg] _).st St (.inr (by simp)))
  replace GG := GG.st St (.inr (by simp))
  replace ksg := St.new
  clear St
  refine qA ?_
  refine ja 33 rfl rfl (vP p 0) (rfl) ?_
  refine ja 34 rfl rfl (vP p 0) (jn _ rfl _ rfl) ?_
  refine ja 35 rfl rfl (vP p 2) (jf 101 _ 2 rfl _ _ rfl _ (by kernel_rfl)) ?_
  refine ja 36 rfl rfl (iK dn) (jq 3 _ rfl p 2 rfl 101 _ kp (na3 _) _ rfl) ?_
  refine ja 37 rfl rfl (iK (dn + 1)) (jp _ _ _ rfl dn 1 _ rfl rfl rfl (by omega) (by omega) _) ?_
  refine ja 38 rfl rfl (vP p 0) (jn _ rfl _ rfl) ?_
  refine ja 39 rfl rfl (vP p 2) (jf 101 _ 2 rfl _ _ rfl _ (by kernel_rfl)) ?_
  refine nr ?_; intro U h; simp only [z0, z1] at h; subst h
  refine jt rfl rfl 3 _ _ rfl p 2 rfl (iK (dn + 1)) rfl 101 _ kp #[iK (dn + 1)] rfl (by kernel_rfl) (Nat.le_of_ble_eq_true rfl) (by kernel_rfl) (c101 ⟨some ⟨sg, 0, none⟩, n, n⟩ pw (dn + 1)) (by kernel_rfl) ?_
  intro w7 St
  replace ksg := St.has (by omega) ksg
  replace kg := St.has (by omega) kg
  replace HN := HN.gros ((GroS.refl [p, sg] _).st St (.inr (by simp)))
  replace GG := GG.st St (.inr (by simp))
  replace kp := St.new
  clear St
  refine qL (qE (qS ?_))
  refine ja 40 rfl rfl (vP p 0) (rfl) ?_
  refine ja 41 rfl rfl (vP p 0) (jn _ rfl _ rfl) ?_
  refine ja 42 rfl rfl (vP p 1) (jf 101 _ 1 rfl _ _ rfl _ (by kernel_rfl)) ?_
  refine ja 43 rfl rfl (iK pw) (jq 3 _ rfl p 1 rfl 101 _ kp (na3 _) _ rfl) ?_
  refine ja 44 rfl rfl (vF) (jh 3 .i64 _ _ _ rfl Try.underlying3 pw (-1) rfl rfl false (by first | exact decide_eq_true (by omega) | exact decide_eq_false (by omega)) _) ?_
  refine nr ?_; intro U h; simp only [z0, z1] at h; subst h
  refine qL (qF rfl (qK (qS ?_)))
  refine ja 6 rfl rfl (iK 0) (rfl) ?_
  refine nr ?_; intro U h; simp only [z0, z1] at h; subst h
  refine qL (qR ?_)
  refine bodyPost_ret (results_tmp Try.results81 _ _ _) rfl ?_
  exact ⟨rfl, GG, kp, ksg, by rw [yG (by rw [ze hl]; exact zY H.len hi)]; exact H.len, H.le, Uh H.byte (ZM HB.nc.lt256), H.ne⟩
theorem Ki (w : World) (p sg n : Nat) (L : List Nat) (pw dn : Int) (H : DK w p sg n L pw dn) (ao : Option Addr) (cap : Nat) (l : List Nat) (HB : BS [p, sg] w ao cap l) (i : Nat) (hi : i < n) (hl : l.length ≤ 64) (h1 : 0 < pw) (h2 : pw < 9223372036854775808) (hd : 0 ≤ dn) (hd2 : dn < 9223372036854775807) : Calls Try.prog 81 #[vP p 0, nK i, .slice ao l.length cap] w fun e w' => e = .returned (iK 0) ∧ GroS [p, sg] w w' ∧ DK w' p sg n (wr L (i * 64) (padS l)) (pw - 1) (dn + 1) := by
  refine js Try.func81 rfl Try.ntmps81 [vP p 0, nK i, .slice ao l.length cap] [vP p 0, nK i, .slice ao l.length cap, uD, uD, uD, uD, uD, uD, uD, uD, uD, uD, uD, uD, uD, uD, uD, uD, uD, uD, uD, uD, uD, uD, uD, uD, uD, uD, uD, uD, uD, uD, uD, uD, uD, uD, uD, uD, uD, uD, uD, uD, uD, uD, uD, uD, uD, uD, uD, uD, uD] rfl ?_
  have GG := GroS.refl [p, sg] w
  have kp := H.box
  have ksg := H.sec
  have hne := H.ne
  have HN := HB
  refine qS ?_
  refine ja 6 rfl rfl (iK 0) (rfl) ?_
  refine nr ?_; intro U h; simp only [z0, z1] at h; subst h
  refine qL (qE (qB (qS ?_)))
  refine ja 9 rfl rfl (vP p 0) (rfl) ?_
  refine ja 10 rfl rfl (nK i) (rfl) ?_
  refine nr ?_; intro U h; simp only [z0, z1] at h; subst h
  have HC := JX w p sg n L pw dn ⟨kp, ksg, H.len, H.le, H.byte, H.ne⟩ ((i : Nat) : Int)
  rw [Ym hi] at HC
  refine jy 11 rfl rfl _ 96 Try.call96 rfl rfl _ rfl [vP p 0, nK i] rfl (HC) ?_
  intro w1 G
  replace kp := G.has kp
  replace ksg := G.has ksg
  replace HN := HN.gro G
  replace GG := GG.tg G
  clear G
  refine nr ?_; intro U h; simp only [z0, z1] at h; subst h
  clear HC
  refine ja 12 rfl rfl (vF) (zi _ _ rfl true rfl) ?_
  refine ja 8 rfl rfl (vF) (rfl) ?_
  refine nr ?_; intro U h; simp only [z0, z1] at h; subst h
  refine qL (qF rfl (qS ?_))
  refine ja 14 rfl rfl (.slice ao l.length cap) (rfl) ?_
  refine ja 15 rfl rfl (nK l.length) (jA Try.underlying30 _ rfl _ _ _ rfl _) ?_
  refine ja 16 rfl rfl (vF) (jJ 3 _ _ _ rfl ((l.length : Nat) : Int) 64 rfl rfl false (decide_eq_false (by omega)) _) ?_
  refine ja 13 rfl rfl (vF) (rfl) ?_
  refine nr ?_; intro U h; simp only [z0, z1] at h; subst h
  refine qL (qF rfl (qS ?_))
  refine ja 18 rfl rfl (vP p 0) (rfl) ?_
  refine ja 19 rfl rfl (vP p 0) (jn _ rfl _ rfl) ?_
  refine ja 20 rfl rfl (vP p 1) (jf 101 _ 1 rfl _ _ rfl _ (by kernel_rfl)) ?_
  refine ja 21 rfl rfl (iK pw) (jq 3 _ rfl p 1 rfl 101 _ kp (na3 _) _ rfl) ?_
  refine ja 22 rfl rfl (vF) (jB 3 .i64 _ _ _ rfl Try.underlying3 pw 0 rfl rfl false (decide_eq_false (by omega)) _) ?_
  refine ja 17 rfl rfl (vF) (rfl) ?_
  refine nr ?_; intro U h; simp only [z0, z1] at h; subst h
  refine qL (qF rfl (wp_skip (zh (jG (qS ?_)))))
  refine jU 7 rfl rfl 98 rfl _ zv98 (bv (zs 64)) rfl ?_
  intro w2 g G eg kg
  have bg := jO GG eg
  have dpg := jH kp eg
  have dsgg := jH ksg eg
  replace kp := G.has kp
  replace ksg := G.has ksg
  replace HN := HN.gro G
  replace GG := GG.tg G
  clear G eg
  refine nr ?_; intro U h; simp only [z0, z1] at h; subst h
  refine qA ?_
  refine ja 23 rfl rfl (.slice (some ⟨g, 0, none⟩) 64 64) (vg _ rfl _ _ rfl _) ?_
  refine ja 24 rfl rfl (.slice ao l.length cap) (rfl) ?_
  refine nr ?_; intro U h; simp only [z0, z1] at h; subst h
  refine uC bT 25 rfl rfl _ _ rfl g 0 64 64 rfl kg rfl (rfl) (HN.nc) (List.take_of_length_le hl) (by rw [zt]; omega) ?_
  intro w3 St
  replace kp := St.has (by omega) kp
  replace ksg := St.has (by omega) ksg
  replace HN := HN.st St (fun ad ha h0 => by have := HB.nc.lt ad ha h0; omega)
  replace GG := GG.st St (.inl bg)
  replace kg := St.new
  clear St
  rw [Kk] at kg
  refine nr ?_; intro U h; simp only [z0, z1] at h; subst h
  refine qL (qE ?_)
  refine jl (A := ?A) 6 [(0, 26), (1, 27), (2, 28), (3, 29), (4, 30), (5, 31)] [.val (vP p 0), .val (vP p 0), .val (vP p 0), .val (.slice (some ⟨sg, 0, none⟩) n n), .val (nK i), .val (.agg (bv (padS l)))] follows (by kernel_rfl) rfl ?hA (jb ?o0 (jb ?o1 (jb ?o2 (jb ?o3 (jb ?o4 (jb ?o5 jF)))))) ?rest
  case hA =>
    intro ptrs
    simp only [full, foldSlots, filledE, postE, List.foldl_cons, List.foldl_nil, List.getD_cons_zero, List.getD_cons_succ, jI, List.set_cons_zero, List.set_cons_succ]
    exact rfl
  case o0 => exact fun _ _ _ _ => jg (v := vP p 0) _ rfl rfl rfl
  case o1 => exact fun _ _ hw _ => jd (v := vP p 0) rfl (jn _ rfl _ rfl)
  case o2 => exact fun _ _ hw _ => jd (v := vP p 0) rfl (jf 101 _ 0 rfl _ _ rfl _ (by kernel_rfl))
  case o3 => exact fun _ _ hw _ => jd (v := .slice (some ⟨sg, 0, none⟩) n n) rfl (jq 99 _ rfl p 0 rfl 101 _ (hw.has kp) (na99 _) _ rfl)
  case o4 => exact fun _ _ _ _ => jg (v := nK i) _ rfl rfl rfl
  case o5 => exact fun _ _ hw _ => jd (v := .agg (bv (padS l))) rfl (zP 98 _ rfl g 0 64 rfl 98 _ (hw.has kg) _ Try.underlying98 rfl si98 (by rw [zF, ze hl]; omega) _ (Jz hl))
  intro ptrs w4 GD hxE
  simp only [List.drop_succ_cons, List.drop_zero]
  replace kp := GD.has kp
  replace ksg := GD.has ksg
  replace kg := GD.has kg
  replace HN := HN.gro ((Gro.refl _).drew.trans GD)
  replace GG := GG.drew.tg GD
  clear GD
  refine ja 32 rfl rfl (.pointer (some ⟨sg, i * 64, none⟩)) (vf _ _ rfl sg n n i rfl rfl hi _) ?_
  refine nr ?_; intro U h; simp only [z0, z1] at h; subst h
  refine jt rfl rfl 98 _ _ rfl sg (i * 64) rfl (.agg (bv (padS l))) rfl 98 _ ksg (bv (padS l)) rfl (by rw [zF, ze hl]; exact si98) (by rw [zF, zF, ze hl]; exact zY H.len hi) (jbw _) _ (ZD L (padS l) (i * 64)) ?_
  intro w5 St
  replace kp := St.has (by omega) kp
  replace kg := St.has (by omega) kg
  replace HN := HN.gros ((GroS.refl [p, sg] _).st St (.inr (by simp)))
  replace GG := GG.st St (.inr (by simp))
  replace ksg := St.new
  clear St
  refine qA ?_
  refine ja 33 rfl rfl (vP p 0) (rfl) ?_
  refine ja 34 rfl rfl (vP p 0) (jn _ rfl _ rfl) ?_
  refine ja 35 rfl rfl (vP p 2) (jf 101 _ 2 rfl _ _ rfl _ (by kernel_rfl)) ?_
  refine ja 36 rfl rfl (iK dn) (jq 3 _ rfl p 2 rfl 101 _ kp (na3 _) _ rfl) ?_
  refine ja 37 rfl rfl (iK (dn + 1)) (jp _ _ _ rfl dn 1 _ rfl rfl rfl (by omega) (by omega) _) ?_
  refine ja 38 rfl rfl (vP p 0) (jn _ rfl _ rfl) ?_
  refine ja 39 rfl rfl (vP p 2) (jf 101 _ 2 rfl _ _ rfl _ (by kernel_rfl)) ?_
  refine nr ?_; intro U h; simp only [z0, z1] at h; subst h
  refine jt rfl rfl 3 _ _ rfl p 2 rfl (iK (dn + 1)) rfl 101 _ kp #[iK (dn + 1)] rfl (by kernel_rfl) (Nat.le_of_ble_eq_true rfl) (by kernel_rfl) (c101 ⟨some ⟨sg, 0, none⟩, n, n⟩ pw (dn + 1)) (by kernel_rfl) ?_
  intro w7 St
  replace ksg := St.has (by omega) ksg
  replace kg := St.has (by omega) kg
  replace HN := HN.gros ((GroS.refl [p, sg] _).st St (.inr (by simp)))
  replace GG := GG.st St (.inr (by simp))
  replace kp := St.new
  clear St
  refine qL (qE (qS ?_))
  refine ja 40 rfl rfl (vP p 0) (rfl) ?_
  refine ja 41 rfl rfl (vP p 0) (jn _ rfl _ rfl) ?_
  refine ja 42 rfl rfl (vP p 1) (jf 101 _ 1 rfl _ _ rfl _ (by kernel_rfl)) ?_
  refine ja 43 rfl rfl (iK pw) (jq 3 _ rfl p 1 rfl 101 _ kp (na3 _) _ rfl) ?_
  refine ja 44 rfl rfl (vT) (jh 3 .i64 _ _ _ rfl Try.underlying3 pw (-1) rfl rfl true (by first | exact decide_eq_true (by omega) | exact decide_eq_false (by omega)) _) ?_
  refine nr ?_; intro U h; simp only [z0, z1] at h; subst h
  refine qL (qT rfl (qG ?_))
  refine ja 45 rfl rfl (vP p 0) (rfl) ?_
  refine ja 46 rfl rfl (vP p 0) (jn _ rfl _ rfl) ?_
  refine ja 47 rfl rfl (vP p 1) (jf 101 _ 1 rfl _ _ rfl _ (by kernel_rfl)) ?_
  refine ja 48 rfl rfl (iK pw) (jq 3 _ rfl p 1 rfl 101 _ kp (na3 _) _ rfl) ?_
  refine ja 49 rfl rfl (iK (pw - 1)) (jR _ _ _ rfl pw 1 _ rfl rfl rfl (by omega) (by omega) _) ?_
  refine ja 50 rfl rfl (vP p 0) (jn _ rfl _ rfl) ?_
  refine ja 51 rfl rfl (vP p 1) (jf 101 _ 1 rfl _ _ rfl _ (by kernel_rfl)) ?_
  refine nr ?_; intro U h; simp only [z0, z1] at h; subst h
  refine jt rfl rfl 3 _ _ rfl p 1 rfl (iK (pw - 1)) rfl 101 _ kp #[iK (pw - 1)] rfl (by kernel_rfl) (Nat.le_of_ble_eq_true rfl) (by kernel_rfl) (c101 ⟨some ⟨sg, 0, none⟩, n, n⟩ (pw - 1) (dn + 1)) (by kernel_rfl) ?_
  intro w9 St
  replace ksg := St.has (by omega) ksg
  replace kg := St.has (by omega) kg
  replace HN := HN.gros ((GroS.refl [p, sg] _).st St (.inr (by simp)))
  replace GG := GG.st St (.inr (by simp))
  replace kp := St.new
  clear St
  refine qA ?_
  refine ja 6 rfl rfl (iK 0) (rfl) ?_
  refine nr ?_; intro U h; simp only [z0, z1] at h; subst h
  refine qL (qR ?_)
  refine bodyPost_ret (results_tmp Try.results81 _ _ _) rfl ?_
  exact ⟨rfl, GG, kp, ksg, by rw [yG (by rw [ze hl]; exact zY H.len hi)]; exact H.len, H.le, Uh H.byte (ZM HB.nc.lt256), H.ne⟩
end Go.Proofs.Ytgfnjekpafempaa
