import Derived.Test.YtgfnjekpafempaaGreatBE1
import Derived.Test.YtgfnjekpafempaaGreatBAb
namespace Go.Proofs.YtgfnjekpafempaaGreat
open Go.Proofs.Tryz
set_option maxHeartbeats 4000000
set_option maxRecDepth 100000
open Go.RowKit
def c101 (x0 : Int) (x1 : Int) (x2 : Int) : Array Value := #[.int .u64 x0, .int .u64 x1, .int .u64 x2]
theorem si101 : (Tryz.prog.info? 101).map (·.size) = some 3 := by kernel_rfl
theorem zv101 (w : World) : (zeroValue 101).run Tryz.prog w = .ok (.agg (c101 0 0 0)) w := by kernel_rfl
def c106 (x0 : Option Addr) (x1 : Int) (x2 : Int) (x3 : Int) (x4 : Bool) : Array Value := #[.pointer x0, .int .u64 x1, .int .u64 x2, .int .u64 x3, .bool x4]
theorem na23 (w : World) : (isAgg 23).run Tryz.prog w = .ok false w := by kernel_rfl
theorem na64 (w : World) : (isAgg 64).run Tryz.prog w = .ok false w := by kernel_rfl
theorem bato {o : Oper} {A : Act} (x y : Operand) (ho : o.op = .indexAddr 27 x y) (g a n cap j : Nat) (hx : A.eval x = .slice (some ⟨g, a, none⟩) n cap) (hy : A.eval y = .int .i64 (j : Int)) (hj : j < n) (w : World) :
    (execOp A.eval o).run Tryz.prog w = .ok (.value (.pointer (some ⟨g, a + j, none⟩))) w := by
  rw [zf bT x y ho ⟨g, a, none⟩ n cap j hx hy hj w, zQ]
theorem cut_getD (l : List Nat) (a j : Nat) (hj : j < 8) : ((l.drop a).take 8).getD j 0 = l.getD (a + j) 0 := by
  rw [List.getD_eq_getElem?_getD, List.getElem?_take, if_pos hj, List.getElem?_drop, ← List.getD_eq_getElem?_getD]
def hdC (h : Hd) : Array Value := c101 (h.g : Int) (h.u : Int) (h.c : Int)
theorem yz (w : World) (m : Nat) (hm : m ≤ 140737488355328) : Calls Tryz.prog 49 #[nK m] w fun e w' => e = .returned (nK (secN m)) ∧ Gro w w' := by
  refine eN func49 rfl ntmps49 [nK m] ?_
  have GG := Gro.refl w
  refine qE (qG (mv (iK 0) rfl (nq ?_)))
  refine qL (qE (qG (mv (nK m) rfl (sv (nK (2 + m)) (jp _ _ _ rfl 2 ((m : Nat) : Int) _ rfl rfl (by omega) (by omega) (by omega) _) rfl (sv (nK (2 + m + 64)) (jp _ _ _ rfl ((2 + m : Nat) : Int) 64 _ rfl rfl (by omega) (by omega) (by omega) _) rfl (sv (nK (m + 65)) (jP _ _ _ rfl ((2 + m + 64 : Nat) : Int) 1 _ rfl rfl (by omega) (by omega) (by omega) _) rfl (sv (nK (secN m)) (zn _ _ _ rfl ((m + 65 : Nat) : Int) 64 _ rfl rfl (by decide) (tdivN _ 64) (by omega) (by omega) _) rfl (mv (nK (secN m)) rfl ?_))))))))
  refine nq ?_
  refine qL (qR ?_)
  refine bodyPost_ret (results_tmp results49 _ _ _) rfl ?_
  exact ⟨rfl, GG⟩
theorem Jb (w : World) (g : Nat) (l : List Nat) (Hg : w.heap[g]? = some (.cells (bv l) 5 (0, 0))) (hl : l.length = 64) (hb : ∀ x ∈ l, x < 256) (k : Nat) (hk : k ≤ 2) : Calls Tryz.prog 92 #[.slice (some ⟨g, 0, none⟩) 64 64, nK k] w fun e w' => e = .returned (.int .u64 ((nm l k : Nat) : Int)) ∧ Gro w w' := by
  refine eN func92 rfl ntmps92 [.slice (some ⟨g, 0, none⟩) 64 64, nK k] ?_
  have GG := Gro.refl w
  have kg := Hg
  have hcl : ((l.drop (k * 8)).take 8).length = 8 := by rw [List.length_take, List.length_drop]; omega
  have hcb : ∀ x ∈ ((l.drop (k * 8)).take 8), x < 256 := fun x hx => hb x (List.mem_of_mem_drop (List.mem_of_mem_take hx))
  refine qE (qG (mv (.int .u64 0) rfl (nq ?_)))
  refine qL (qE (qG (mv (.int .u64 0) rfl (nq ?_))))
  refine qL (qE (qE (qG (mv (iK 0) rfl (nq ?_)))))
  refine qL (qB ?_)
  refine jO (fun mz az wv => ∃ (j : Nat) (us1 : Nat → Value), mz = 8 - j ∧ az = ⟨[.slice (some ⟨g, 0, none⟩) 64 64, nK k, uD, uD, .int .u64 0, .int .u64 ((valL (((l.drop (k * 8)).take 8).take j) : Nat) : Int), us1 6, nK j, us1 8, us1 9, us1 10, us1 11, us1 12, us1 13, us1 14, us1 15, us1 16, us1 17, us1 18, us1 19, us1 20, us1 21, uD].toArray, []⟩ ∧ j ≤ 8 ∧ Gro w wv ∧ wv.heap[g]? = some (.cells (bv l) 5 (0, 0))) ?_ _ ⟨0, usK ⟨Nat.zero_le _, GG, kg⟩⟩
  clear kg GG
  rintro mz az wv ⟨j, us1, rfl, rfl, hj, GG, kg⟩
  refine qS ?_
  obtain ⟨p1, hp1⟩ : ∃ p, decide (((j : Nat) : Int) < 8) = p := ⟨_, rfl⟩
  refine sv (.bool p1) (jv 3 _ _ _ rfl ((j : Nat) : Int) 8 rfl rfl p1 hp1 _) rfl (nq ?_)
  cases p1
  have hjn : j = 8 := by have := of_decide_eq_false hp1; omega
  refine qL (qE (qF rfl (wp_exit (jG (jG (zp (jC (qE (qG (mv (.int .u64 ((valL (((l.drop (k * 8)).take 8).take j) : Nat) : Int)) rfl (mv (.int .u64 ((valL (((l.drop (k * 8)).take 8).take j) : Nat) : Int)) rfl (nq ?_))))))))))))
  refine qL (qR ?_)
  refine bodyPost_ret (results_tmp results92 _ _ _) rfl ?_
  subst hjn
  have h8 : valL (((l.drop (k * 8)).take 8).take 8) = nm l k := by rw [nm, List.take_of_length_le (by omega)]
  rw [← h8]
  exact ⟨rfl, GG⟩
  have hjn : j < 8 := by have := of_decide_eq_true hp1; omega
  refine qL (qE (qT rfl (qK (qE (qB (qE (qG (mv (nK j) rfl (mv (nK j) rfl (nq ?_))))))))))
  refine qL (qG (mv (.int .u64 ((valL (((l.drop (k * 8)).take 8).take j) : Nat) : Int)) rfl (sv (.int .u64 ((valL (((l.drop (k * 8)).take 8).take j) * 256 : Nat) : Int)) (VQ 64 28 _ _ rfl (valL (((l.drop (k * 8)).take 8).take j)) (yp _ hcb j (by omega) hjn) .u64 rfl rfl _) rfl (mv (.slice (some ⟨g, 0, none⟩) 64 64) rfl (mv (nK k) rfl (sv (nK (k * 8)) (zd _ _ _ rfl ((k : Nat) : Int) 8 _ rfl rfl (by omega) (by omega) (by omega) _) rfl (mv (nK j) rfl ?_)))))))
  refine nq ?_
  refine sv (nK (k * 8 + j)) (jp _ _ _ rfl ((k * 8 : Nat) : Int) ((j : Nat) : Int) _ rfl rfl (by omega) (by omega) (by omega) _) rfl (sv (.pointer (some ⟨g, k * 8 + j, none⟩)) (bat _ _ rfl g 64 64 (k * 8 + j) rfl rfl (by omega) _) rfl (sv (.int .u8 ((l.getD (k * 8 + j) 0 : Nat) : Int)) (zj bT _ rfl ⟨g, k * 8 + j, none⟩ rfl _ _ (bvc kg (by omega))) rfl (sv (.int .u64 ((l.getD (k * 8 + j) 0 : Nat) : Int)) (conv525 _ rfl (l.getD (k * 8 + j) 0) (zt hb _) rfl _) rfl (sv (.int .u64 (((valL (((l.drop (k * 8)).take 8).take (j + 1)) : Nat) : Int))) (QN 64 64 _ _ rfl (valL (((l.drop (k * 8)).take 8).take j)) (l.getD (k * 8 + j) 0) (yp _ hcb j (by omega) hjn) (zt hb _) rfl rfl _ (by rw [un _ j (by omega), cut_getD _ _ _ hjn]) _) rfl ?_))))
  refine mv (.int .u64 (((valL (((l.drop (k * 8)).take 8).take (j + 1)) : Nat) : Int))) rfl (nq ?_)
  refine qN (zb (jC (qG (sv (nK (j + 1)) (jp _ _ _ rfl ((j : Nat) : Int) 1 _ rfl rfl (by omega) (by omega) (by omega) _) rfl (mv (nK (j + 1)) rfl (nq ?_))))))
  refine qL ?_
  exact ⟨_, (by omega : 8 - (j + 1) < 8 - j), j + 1, usK ⟨hjn, GG, kg⟩⟩
theorem Ju (w : World) (p sg n : Nat) (L : List Nat) (pw dn : Int) (H : DK w p sg n L pw dn) (i : Nat) (hi : i < n) : Calls Tryz.prog 66 #[vP p 0, nK i] w fun e w' => e = .returned (.agg (hdC (hdE (secL L i)))) ∧ Gro w w' := by
  refine eN func66 rfl ntmps66 [vP p 0, nK i] ?_
  have GG := Gro.refl w
  have kp := H.box
  have ksg := H.sec
  have hne := H.ne
  have hsl := zZ H.len hi
  have hsb := vv H.byte i
  refine qS ?_
  refine jH 4 rfl rfl 101 rfl _ zv101 _ rfl ?_
  intro w1 g1 G eg1 kg1
  have bg1 := jh GG eg1
  have dpg1 := jn kp eg1
  have dsgg1 := jn ksg eg1
  replace kp := G.has kp
  replace ksg := G.has ksg
  replace GG := GG.trans G
  clear G eg1
  refine nq ?_
  refine qL (qE (qG (mv (vP p 0) rfl (mv (nK i) rfl (nq ?_)))))
  refine jq 13 rfl rfl _ 67 call67 rfl rfl _ rfl [vP p 0, nK i] rfl (QR _ p sg n L pw dn ⟨kp, ksg, H.len, H.le, H.byte, H.ne⟩ i hi) (fun _ _ ⟨_, he, _⟩ => ⟨_, he⟩) ?_
  rintro v w2 ⟨gr, he, G, bgr, kgr⟩
  cases he
  have dpgr : p < gr := Nat.lt_of_lt_of_le (ji kp) bgr
  have dsggr : sg < gr := Nat.lt_of_lt_of_le (ji ksg) bgr
  have dg1gr : g1 < gr := Nat.lt_of_lt_of_le (ji kg1) bgr
  have bgr := Nat.le_trans GG.size bgr
  replace kp := G.has kp
  replace ksg := G.has ksg
  replace kg1 := G.has kg1
  replace GG := GG.trans G
  clear G
  refine nq ?_
  refine mv (.tuple #[.slice (some ⟨gr, 0, none⟩) 64 64, iK 0]) rfl (mv (.slice (some ⟨gr, 0, none⟩) 64 64) rfl (mv (iK 0) rfl (mv (.slice (some ⟨gr, 0, none⟩) 64 64) rfl (mv (iK 0) rfl (nq ?_)))))
  refine qL (qE (qE (qG (mv (.slice (some ⟨gr, 0, none⟩) 64 64) rfl (sv (.slice (some ⟨gr, 24, none⟩) 40 40) (Qs _ _ rfl gr 64 24 rfl rfl (by decide) _) rfl (sv (nK 40) (js underlying27 _ rfl _ _ _ rfl _) rfl (mv (iK 0) rfl (nq ?_))))))))
  refine qL (qB ?_)
  refine jO (fun mz az wv => ∃ (j : Nat) (us1 : Nat → Value), mz = 40 - j ∧ az = ⟨[vP p 0, nK i, uD, uD, vP g1 0, .slice (some ⟨gr, 0, none⟩) 64 64, iK 0, uD, us1 8, uD, .tuple #[.slice (some ⟨gr, 0, none⟩) 64 64, iK 0], vP p 0, nK i, .tuple #[.slice (some ⟨gr, 0, none⟩) 64 64, iK 0], .slice (some ⟨gr, 0, none⟩) 64 64, iK 0, .slice (some ⟨gr, 0, none⟩) 64 64, .slice (some ⟨gr, 24, none⟩) 40 40, nK 40, nK j, us1 20, us1 21, us1 22, us1 23, us1 24, us1 25, us1 26, uD, uD, uD, uD, uD, uD, uD, uD, uD, uD, uD, uD].toArray, []⟩ ∧ j ≤ 40 ∧ (∀ x, x < j → (secL L i).getD (24 + x) 0 = 0) ∧ Gro w wv ∧ wv.heap[p]? = some (.cells (c92 ⟨some ⟨sg, 0, none⟩, n, n⟩ pw dn) 92 (0, 0)) ∧ wv.heap[sg]? = some (.cells (bv L) 89 (0, 0)) ∧ wv.heap[g1]? = some (.cells (c101 0 0 0) 101 (0, 0)) ∧ wv.heap[gr]? = some (.cells (bv (secL L i)) 5 (0, 0))) ?_ _ ⟨0, usK ⟨Nat.zero_le _, (fun x hx => absurd hx (Nat.not_lt_zero _)), GG, kp, ksg, kg1, kgr⟩⟩
  clear kp ksg kg1 kgr GG
  rintro mz az wv ⟨j, us1, rfl, rfl, hj, hz, GG, kp, ksg, kg1, kgr⟩
  refine qS ?_
  obtain ⟨p1, hp1⟩ : ∃ p, decide (((j : Nat) : Int) < ((40 : Nat) : Int)) = p := ⟨_, rfl⟩
  refine sv (.bool p1) (jv 3 _ _ _ rfl ((j : Nat) : Int) ((40 : Nat) : Int) rfl rfl p1 hp1 _) rfl (nq ?_)
  cases p1
  have hjn : j = 40 := by have := of_decide_eq_false hp1; omega
  subst hjn
  have hZ : zerosB (secL L i) = true := (vI hsl).2 hz
  refine qL (qE (qF rfl (wp_exit (jG (jG (zp (jC (qE (qG (mv (.slice (some ⟨gr, 0, none⟩) 64 64) rfl (nq ?_)))))))))))
  refine jr 28 rfl rfl _ 92 call92 rfl rfl _ rfl [.slice (some ⟨gr, 0, none⟩) 64 64, iK 0] rfl (Jb _ gr (secL L i) kgr hsl hsb 0 (by decide)) ?_
  intro w3 G
  replace kp := G.has kp
  replace ksg := G.has ksg
  replace kg1 := G.has kg1
  replace kgr := G.has kgr
  replace GG := GG.trans G
  clear G
  refine nq ?_
  refine mv (.slice (some ⟨gr, 0, none⟩) 64 64) rfl (nq ?_)
  refine jr 30 rfl rfl _ 92 call92 rfl rfl _ rfl [.slice (some ⟨gr, 0, none⟩) 64 64, iK 1] rfl (Jb _ gr (secL L i) kgr hsl hsb 1 (by decide)) ?_
  intro w4 G
  replace kp := G.has kp
  replace ksg := G.has ksg
  replace kg1 := G.has kg1
  replace kgr := G.has kgr
  replace GG := GG.trans G
  clear G
  refine nq ?_
  refine mv (.slice (some ⟨gr, 0, none⟩) 64 64) rfl (nq ?_)
  refine jr 32 rfl rfl _ 92 call92 rfl rfl _ rfl [.slice (some ⟨gr, 0, none⟩) 64 64, iK 2] rfl (Jb _ gr (secL L i) kgr hsl hsb 2 (by decide)) ?_
  intro w5 G
  replace kp := G.has kp
  replace ksg := G.has ksg
  replace kg1 := G.has kg1
  replace kgr := G.has kgr
  replace GG := GG.trans G
  clear G
  refine nq ?_
  refine sv (.agg (c101 ((nm (secL L i) 0 : Nat) : Int) ((nm (secL L i) 1 : Nat) : Int) ((nm (secL L i) 2 : Nat) : Int))) (jK 101 _ rfl [(0, .int .u64 ((nm (secL L i) 0 : Nat) : Int)), (1, .int .u64 ((nm (secL L i) 1 : Nat) : Int)), (2, .int .u64 ((nm (secL L i) 2 : Nat) : Int))] rfl _ (by kernel_rfl)) rfl (nq ?_)
  refine jH 9 rfl rfl 101 rfl _ zv101 _ rfl ?_
  intro w6 g2 G eg2 kg2
  have bg2 := jh GG eg2
  have dpg2 := jn kp eg2
  have dsgg2 := jn ksg eg2
  have dg1g2 := jn kg1 eg2
  have dgrg2 := jn kgr eg2
  replace kp := G.has kp
  replace ksg := G.has ksg
  replace kg1 := G.has kg1
  replace kgr := G.has kgr
  replace GG := GG.trans G
  clear G eg2
  refine nq ?_
  refine jE rfl rfl 101 _ _ rfl g2 0 rfl (.agg (c101 ((nm (secL L i) 0 : Nat) : Int) ((nm (secL L i) 1 : Nat) : Int) ((nm (secL L i) 2 : Nat) : Int))) rfl 101 _ kg2 (c101 ((nm (secL L i) 0 : Nat) : Int) ((nm (secL L i) 1 : Nat) : Int) ((nm (secL L i) 2 : Nat) : Int)) rfl (by kernel_rfl) (Nat.le_of_ble_eq_true rfl) (by kernel_rfl) (c101 ((nm (secL L i) 0 : Nat) : Int) ((nm (secL L i) 1 : Nat) : Int) ((nm (secL L i) 2 : Nat) : Int)) (by kernel_rfl) ?_
  intro w8 St
  replace kp := St.has (by omega) kp
  replace ksg := St.has (by omega) ksg
  replace kg1 := St.has (by omega) kg1
  replace kgr := St.has (by omega) kgr
  replace GG := GG.store St bg2
  replace kg2 := St.new
  clear St
  refine qL (qE (qE (qG (sv (vP g2 0) (je 101 _ 0 rfl _ _ rfl _ (by kernel_rfl)) rfl (sv (.int .u64 ((nm (secL L i) 0 : Nat) : Int)) (jo 64 _ rfl g2 0 rfl 101 _ kg2 (na64 _) _ rfl) rfl (nq ?_))))))
  obtain ⟨p2, hp2⟩ : ∃ p, decide (((nm (secL L i) 0 : Nat) : Int) = 0) = p := ⟨_, rfl⟩
  refine sv (.bool p2) (jw 64 .u64 _ _ _ rfl underlying64 ((nm (secL L i) 0 : Nat) : Int) 0 rfl rfl p2 hp2 _) rfl (nq ?_)
  cases p2
  have h0 : nm (secL L i) 0 ≠ 0 := by have := of_decide_eq_false hp2; omega
  refine qL (qF rfl (qK (qE (qG (sv (.agg (c101 ((nm (secL L i) 0 : Nat) : Int) ((nm (secL L i) 1 : Nat) : Int) ((nm (secL L i) 2 : Nat) : Int))) (zx 101 _ rfl g2 0 3 rfl 101 _ kg2 _ underlying101 rfl si101 (Nat.le_of_ble_eq_true rfl) _ (by kernel_rfl)) rfl (nq ?_))))))
  refine jE rfl rfl 101 _ _ rfl g1 0 rfl (.agg (c101 ((nm (secL L i) 0 : Nat) : Int) ((nm (secL L i) 1 : Nat) : Int) ((nm (secL L i) 2 : Nat) : Int))) rfl 101 _ kg1 (c101 ((nm (secL L i) 0 : Nat) : Int) ((nm (secL L i) 1 : Nat) : Int) ((nm (secL L i) 2 : Nat) : Int)) rfl (by kernel_rfl) (Nat.le_of_ble_eq_true rfl) (by kernel_rfl) (c101 ((nm (secL L i) 0 : Nat) : Int) ((nm (secL L i) 1 : Nat) : Int) ((nm (secL L i) 2 : Nat) : Int)) (by kernel_rfl) ?_
  intro w10 St
  replace kp := St.has (by omega) kp
  replace ksg := St.has (by omega) ksg
  replace kgr := St.has (by omega) kgr
  replace kg2 := St.has (by omega) kg2
  replace GG := GG.store St bg1
  replace kg1 := St.new
  clear St
  refine qL (qR ?_)
  refine bodyPost_ret (results_cell_row results66 _ _ g1 101 _ (0, 0) _ rfl kg1 underlying101 rfl (by kernel_rfl)) rfl ?_
  first | (rw [Vm hsl hjn hbx]; exact ⟨rfl, GG⟩) | (rw [jeg hZ h0]; exact ⟨rfl, GG⟩) | (rw [Kk hZ h0]; exact ⟨rfl, GG⟩)
  have h0 : nm (secL L i) 0 = 0 := by have := of_decide_eq_true hp2; omega
  refine qL (qT rfl (qE (qG (sv (.agg (c101 0 0 0)) (jK 101 _ rfl [] rfl _ (by kernel_rfl)) rfl (nq ?_)))))
  refine jE rfl rfl 101 _ _ rfl g1 0 rfl (.agg (c101 0 0 0)) rfl 101 _ kg1 (c101 0 0 0) rfl (by kernel_rfl) (Nat.le_of_ble_eq_true rfl) (by kernel_rfl) (c101 0 0 0) (by kernel_rfl) ?_
  intro w10 St
  replace kp := St.has (by omega) kp
  replace ksg := St.has (by omega) ksg
  replace kgr := St.has (by omega) kgr
  replace kg2 := St.has (by omega) kg2
  replace GG := GG.store St bg1
  replace kg1 := St.new
  clear St
  refine qL (qR (jm ?_))
  refine bodyPost_ret (results_cell_row results66 _ _ g1 101 _ (0, 0) _ rfl kg1 underlying101 rfl (by kernel_rfl)) rfl ?_
  first | (rw [Vm hsl hjn hbx]; exact ⟨rfl, GG⟩) | (rw [jeg hZ h0]; exact ⟨rfl, GG⟩) | (rw [Kk hZ h0]; exact ⟨rfl, GG⟩)
  have hjn : j < 40 := by have := of_decide_eq_true hp1; omega
  refine qL (qE (qT rfl (qK (qE (qB (qE (qG (sv (.pointer (some ⟨gr, 24 + j, none⟩)) (bato _ _ rfl gr 24 40 40 j rfl rfl hjn _) rfl (sv (.int .u8 ((((secL L i).getD (24 + j) 0 : Nat) : Int))) (zj bT _ rfl ⟨gr, 24 + j, none⟩ rfl _ _ (bvc kgr (by omega))) rfl (mv (.int .u8 ((((secL L i).getD (24 + j) 0 : Nat) : Int))) rfl (nq ?_)))))))))))
  refine qL (qE (qG (mv (.int .u8 ((((secL L i).getD (24 + j) 0 : Nat) : Int))) rfl (nq ?_))))
  obtain ⟨p2, hp2⟩ : ∃ p, decide ((secL L i).getD (24 + j) 0 ≠ 0) = p := ⟨_, rfl⟩
  refine sv (.bool p2) (jj 5 .u8 _ _ _ rfl underlying5 (((secL L i).getD (24 + j) 0 : Nat) : Int) 0 rfl rfl p2 (by rw [← hp2]; exact dec_ne _) _) rfl (nq ?_)
  cases p2
  have hbx : (secL L i).getD (24 + j) 0 = 0 := Decidable.of_not_not (of_decide_eq_false hp2)
  refine qL (qF rfl (wp_skip (zb (jC (qG (sv (nK (j + 1)) (jp _ _ _ rfl ((j : Nat) : Int) 1 _ rfl rfl (by omega) (by omega) (by omega) _) rfl (mv (nK (j + 1)) rfl (nq ?_))))))))
  refine qL ?_
  exact ⟨_, (by omega : 40 - (j + 1) < 40 - j), j + 1, usK ⟨hjn, (fun x hx => by by_cases hxe : x = j; (subst hxe; exact hbx); exact hz x (by omega)), GG, kp, ksg, kg1, kgr⟩⟩
  have hbx := of_decide_eq_true hp2
  refine qL (qT rfl (qE (qG (sv (.agg (c101 0 0 0)) (jK 101 _ rfl [] rfl _ (by kernel_rfl)) rfl (nq ?_)))))
  refine jE rfl rfl 101 _ _ rfl g1 0 rfl (.agg (c101 0 0 0)) rfl 101 _ kg1 (c101 0 0 0) rfl (by kernel_rfl) (Nat.le_of_ble_eq_true rfl) (by kernel_rfl) (c101 0 0 0) (by kernel_rfl) ?_
  intro w4 St
  replace kp := St.has (by omega) kp
  replace ksg := St.has (by omega) ksg
  replace kgr := St.has (by omega) kgr
  replace GG := GG.store St bg1
  replace kg1 := St.new
  clear St
  refine qL (qR (ze (jm (jm (ze (jm ?_))))))
  refine bodyPost_ret (results_cell_row results66 _ _ g1 101 _ (0, 0) _ rfl kg1 underlying101 rfl (by kernel_rfl)) rfl ?_
  first | (rw [Vm hsl hjn hbx]; exact ⟨rfl, GG⟩) | (rw [jeg hZ h0]; exact ⟨rfl, GG⟩) | (rw [Kk hZ h0]; exact ⟨rfl, GG⟩)
theorem Vt (w : World) (p sg n : Nat) (L : List Nat) (pw dn : Int) (H : DK w p sg n L pw dn) (hn : 2 ≤ n) : Calls Tryz.prog 44 #[vP p 0] w fun e w' => e = .returned (.agg (hdC (cntE L))) ∧ Gro w w' := by
  refine eN func44 rfl ntmps44 [vP p 0] ?_
  have GG := Gro.refl w
  have kp := H.box
  have ksg := H.sec
  have hne := H.ne
  refine qS ?_
  refine jH 2 rfl rfl 101 rfl _ zv101 _ rfl ?_
  intro w1 g1 G eg1 kg1
  have bg1 := jh GG eg1
  have dpg1 := jn kp eg1
  have dsgg1 := jn ksg eg1
  replace kp := G.has kp
  replace ksg := G.has ksg
  replace GG := GG.trans G
  clear G eg1
  refine nq ?_
  refine qL (qE (qG (mv (vP p 0) rfl (nq ?_))))
  refine jr 6 rfl rfl _ 66 call66 rfl rfl _ rfl [vP p 0, iK 0] rfl (Ju _ p sg n L pw dn ⟨kp, ksg, H.len, H.le, H.byte, H.ne⟩ 0 (by omega)) ?_
  intro w2 G
  replace kp := G.has kp
  replace ksg := G.has ksg
  replace kg1 := G.has kg1
  replace GG := GG.trans G
  clear G
  refine nq ?_
  refine mv (vP p 0) rfl (nq ?_)
  refine jr 8 rfl rfl _ 66 call66 rfl rfl _ rfl [vP p 0, iK 1] rfl (Ju _ p sg n L pw dn ⟨kp, ksg, H.len, H.le, H.byte, H.ne⟩ 1 (by omega)) ?_
  intro w3 G
  replace kp := G.has kp
  replace ksg := G.has ksg
  replace kg1 := G.has kg1
  replace GG := GG.trans G
  clear G
  refine nq ?_
  refine jH 3 rfl rfl 101 rfl _ zv101 _ rfl ?_
  intro w4 g2 G eg2 kg2
  have bg2 := jh GG eg2
  have dpg2 := jn kp eg2
  have dsgg2 := jn ksg eg2
  have dg1g2 := jn kg1 eg2
  replace kp := G.has kp
  replace ksg := G.has ksg
  replace kg1 := G.has kg1
  replace GG := GG.trans G
  clear G eg2
  refine nq ?_
  refine jH 4 rfl rfl 101 rfl _ zv101 _ rfl ?_
  intro w5 g3 G eg3 kg3
  have bg3 := jh GG eg3
  have dpg3 := jn kp eg3
  have dsgg3 := jn ksg eg3
  have dg1g3 := jn kg1 eg3
  have dg2g3 := jn kg2 eg3
  replace kp := G.has kp
  replace ksg := G.has ksg
  replace kg1 := G.has kg1
  replace kg2 := G.has kg2
  replace GG := GG.trans G
  clear G eg3
  refine nq ?_
  refine jE rfl rfl 101 _ _ rfl g2 0 rfl (.agg (c101 (((hdE (secL L 0)).g : Nat) : Int) (((hdE (secL L 0)).u : Nat) : Int) (((hdE (secL L 0)).c : Nat) : Int))) rfl 101 _ kg2 (c101 (((hdE (secL L 0)).g : Nat) : Int) (((hdE (secL L 0)).u : Nat) : Int) (((hdE (secL L 0)).c : Nat) : Int)) rfl (by kernel_rfl) (Nat.le_of_ble_eq_true rfl) (by kernel_rfl) (c101 (((hdE (secL L 0)).g : Nat) : Int) (((hdE (secL L 0)).u : Nat) : Int) (((hdE (secL L 0)).c : Nat) : Int)) (by kernel_rfl) ?_
  intro w7 St
  replace kp := St.has (by omega) kp
  replace ksg := St.has (by omega) ksg
  replace kg1 := St.has (by omega) kg1
  replace kg3 := St.has (by omega) kg3
  replace GG := GG.store St bg2
  replace kg2 := St.new
  clear St
  refine jE rfl rfl 101 _ _ rfl g3 0 rfl (.agg (c101 (((hdE (secL L 1)).g : Nat) : Int) (((hdE (secL L 1)).u : Nat) : Int) (((hdE (secL L 1)).c : Nat) : Int))) rfl 101 _ kg3 (c101 (((hdE (secL L 1)).g : Nat) : Int) (((hdE (secL L 1)).u : Nat) : Int) (((hdE (secL L 1)).c : Nat) : Int)) rfl (by kernel_rfl) (Nat.le_of_ble_eq_true rfl) (by kernel_rfl) (c101 (((hdE (secL L 1)).g : Nat) : Int) (((hdE (secL L 1)).u : Nat) : Int) (((hdE (secL L 1)).c : Nat) : Int)) (by kernel_rfl) ?_
  intro w9 St
  replace kp := St.has (by omega) kp
  replace ksg := St.has (by omega) ksg
  replace kg1 := St.has (by omega) kg1
  replace kg2 := St.has (by omega) kg2
  replace GG := GG.store St bg3
  replace kg3 := St.new
  clear St
  refine qL (qE (qE (qG (sv (vP g3 0) (je 101 _ 0 rfl _ _ rfl _ (by kernel_rfl)) rfl (sv (.int .u64 (((hdE (secL L 1)).g : Nat) : Int)) (jo 64 _ rfl g3 0 rfl 101 _ kg3 (na64 _) _ rfl) rfl (sv (vP g2 0) (je 101 _ 0 rfl _ _ rfl _ (by kernel_rfl)) rfl (sv (.int .u64 (((hdE (secL L 0)).g : Nat) : Int)) (jo 64 _ rfl g2 0 rfl 101 _ kg2 (na64 _) _ rfl) rfl (nq ?_))))))))
  obtain ⟨p1, hp1⟩ : ∃ p, decide ((hdE (secL L 0)).g < (hdE (secL L 1)).g) = p := ⟨_, rfl⟩
  refine sv (.bool p1) (jR 64 64 _ _ rfl (hdE (secL L 1)).g (hdE (secL L 0)).g rfl rfl p1 hp1 _) rfl (nq ?_)
  cases p1
  have hc : cntE L = hdE (secL L 0) := if_neg (of_decide_eq_false hp1)
  refine qL (qF rfl (qK (qE (qG (sv (.agg (c101 (((hdE (secL L 0)).g : Nat) : Int) (((hdE (secL L 0)).u : Nat) : Int) (((hdE (secL L 0)).c : Nat) : Int))) (zx 101 _ rfl g2 0 3 rfl 101 _ kg2 _ underlying101 rfl si101 (Nat.le_of_ble_eq_true rfl) _ (by kernel_rfl)) rfl (nq ?_))))))
  refine jE rfl rfl 101 _ _ rfl g1 0 rfl (.agg (c101 (((hdE (secL L 0)).g : Nat) : Int) (((hdE (secL L 0)).u : Nat) : Int) (((hdE (secL L 0)).c : Nat) : Int))) rfl 101 _ kg1 (c101 (((hdE (secL L 0)).g : Nat) : Int) (((hdE (secL L 0)).u : Nat) : Int) (((hdE (secL L 0)).c : Nat) : Int)) rfl (by kernel_rfl) (Nat.le_of_ble_eq_true rfl) (by kernel_rfl) (c101 (((hdE (secL L 0)).g : Nat) : Int) (((hdE (secL L 0)).u : Nat) : Int) (((hdE (secL L 0)).c : Nat) : Int)) (by kernel_rfl) ?_
  intro w11 St
  replace kp := St.has (by omega) kp
  replace ksg := St.has (by omega) ksg
  replace kg2 := St.has (by omega) kg2
  replace kg3 := St.has (by omega) kg3
  replace GG := GG.store St bg1
  replace kg1 := St.new
  clear St
  refine qL (qR ?_)
  refine bodyPost_ret (results_cell_row results44 _ _ g1 101 _ (0, 0) _ rfl kg1 underlying101 rfl (by kernel_rfl)) rfl ?_
  rw [hc]
  exact ⟨rfl, GG⟩
  have hc : cntE L = hdE (secL L 1) := if_pos (of_decide_eq_true hp1)
  refine qL (qT rfl (qE (qG (sv (.agg (c101 (((hdE (secL L 1)).g : Nat) : Int) (((hdE (secL L 1)).u : Nat) : Int) (((hdE (secL L 1)).c : Nat) : Int))) (zx 101 _ rfl g3 0 3 rfl 101 _ kg3 _ underlying101 rfl si101 (Nat.le_of_ble_eq_true rfl) _ (by kernel_rfl)) rfl (nq ?_)))))
  refine jE rfl rfl 101 _ _ rfl g1 0 rfl (.agg (c101 (((hdE (secL L 1)).g : Nat) : Int) (((hdE (secL L 1)).u : Nat) : Int) (((hdE (secL L 1)).c : Nat) : Int))) rfl 101 _ kg1 (c101 (((hdE (secL L 1)).g : Nat) : Int) (((hdE (secL L 1)).u : Nat) : Int) (((hdE (secL L 1)).c : Nat) : Int)) rfl (by kernel_rfl) (Nat.le_of_ble_eq_true rfl) (by kernel_rfl) (c101 (((hdE (secL L 1)).g : Nat) : Int) (((hdE (secL L 1)).u : Nat) : Int) (((hdE (secL L 1)).c : Nat) : Int)) (by kernel_rfl) ?_
  intro w11 St
  replace kp := St.has (by omega) kp
  replace ksg := St.has (by omega) ksg
  replace kg2 := St.has (by omega) kg2
  replace kg3 := St.has (by omega) kg3
  replace GG := GG.store St bg1
  replace kg1 := St.new
  clear St
  refine qL (qR (jm ?_))
  refine bodyPost_ret (results_cell_row results44 _ _ g1 101 _ (0, 0) _ rfl kg1 underlying101 rfl (by kernel_rfl)) rfl ?_
  rw [hc]
  exact ⟨rfl, GG⟩
end Go.Proofs.YtgfnjekpafempaaGreat
