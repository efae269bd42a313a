/- A log's heads: numbers of eight bytes, heads, the head that counts. -/
import Derived.Test.YtgfnjekpafempaaGE1
import Derived.Test.YtgfnjekpafempaaGAb
namespace Go.Proofs.Ytgfnjekpafempaa
set_option maxHeartbeats 4000000
set_option maxRecDepth 100000
open Go.RowKit
def c119 (x0 : Int) (x1 : Int) (x2 : Int) : Array Value := #[.int .u64 x0, .int .u64 x1, .int .u64 x2]
theorem si119 : (Try.prog.info? 119).map (·.size) = some 3 := by kernel_rfl
theorem zv119 (w : World) : (zeroValue 119).run Try.prog w = .ok (.agg (c119 0 0 0)) w := by kernel_rfl
def c124 (x0 : Option Addr) (x1 : Int) (x2 : Int) (x3 : Int) (x4 : Bool) : Array Value := #[.pointer x0, .int .u64 x1, .int .u64 x2, .int .u64 x3, .bool x4]
theorem na32 (w : World) : (isAgg 32).run Try.prog w = .ok false w := by kernel_rfl
theorem na75 (w : World) : (isAgg 75).run Try.prog w = .ok false w := by kernel_rfl
theorem bato {o : Oper} {A : Act} (x y : Operand) (ho : o.op = .indexAddr 30 x y) (g a n cap j : Nat) (hx : A.eval x = .slice (some ⟨g, a, none⟩) n cap) (hy : A.eval y = .int .i64 (j : Int)) (hj : j < n) (w : World) :
    (execOp A.eval o).run Try.prog w = .ok (.value (.pointer (some ⟨g, a + j, none⟩))) w := by
  rw [zd bT x y ho ⟨g, a, none⟩ n cap j hx hy hj w, zQ]
theorem jbu (l : List Nat) (a j : Nat) (hj : j < 8) : ((l.drop a).take 8).getD j 0 = l.getD (a + j) 0 := by
  rw [List.getD_eq_getElem?_getD, List.getElem?_take, if_pos hj, List.getElem?_drop, ← List.getD_eq_getElem?_getD]
def hdC (h : Hd) : Array Value := c119 (h.g : Int) (h.u : Int) (h.c : Int)
theorem yt (w : World) (m : Nat) (hm : m ≤ 140737488355328) : Calls Try.prog 64 #[nK m] w fun e w' => e = .returned (nK (secN m)) ∧ Gro w w' := by
  refine js Try.func64 rfl Try.ntmps64 [nK m] [nK m, uD, uD, uD, uD, uD, uD, uD] rfl ?_
  have GG := Gro.refl w
  refine qS ?_
  refine ja 2 rfl rfl (iK 0) (rfl) ?_
  refine nr ?_; intro U h; simp only [z0, z1] at h; subst h
  refine qA ?_
  refine ja 3 rfl rfl (nK m) (rfl) ?_
  refine ja 4 rfl rfl (nK (2 + m)) (jp _ _ _ rfl 2 ((m : Nat) : Int) _ rfl rfl (by omega) (by omega) (by omega) _) ?_
  refine ja 5 rfl rfl (nK (2 + m + 64)) (jp _ _ _ rfl ((2 + m : Nat) : Int) 64 _ rfl rfl (by omega) (by omega) (by omega) _) ?_
  refine ja 6 rfl rfl (nK (m + 65)) (jR _ _ _ rfl ((2 + m + 64 : Nat) : Int) 1 _ rfl rfl (by omega) (by omega) (by omega) _) ?_
  refine ja 7 rfl rfl (nK (secN m)) (zp _ _ _ rfl ((m + 65 : Nat) : Int) 64 _ rfl rfl (by decide) (tdivN _ 64) (by omega) (by omega) _) ?_
  refine ja 2 rfl rfl (nK (secN m)) (rfl) ?_
  refine nr ?_; intro U h; simp only [z0, z1] at h; subst h
  refine qL (qR ?_)
  refine bodyPost_ret (results_tmp Try.results64 _ _ _) rfl ?_
  exact ⟨rfl, GG⟩
theorem uF (w : World) (g : Nat) (l : List Nat) (Hg : w.heap[g]? = some (.cells (bv l) 5 (0, 0))) (hl : l.length = 64) (hb : ∀ x ∈ l, x < 256) (k : Nat) (hk : k ≤ 2) : Calls Try.prog 95 #[.slice (some ⟨g, 0, none⟩) 64 64, nK k] w fun e w' => e = .returned (.int .u64 ((nm l k : Nat) : Int)) ∧ Gro w w' := by
  refine js Try.func95 rfl Try.ntmps95 [.slice (some ⟨g, 0, none⟩) 64 64, nK k] [.slice (some ⟨g, 0, none⟩) 64 64, nK k, uD, uD, uD, uD, uD, uD, uD, uD, uD, uD, uD, uD, uD, uD, uD, uD, uD, uD, uD, uD, uD] rfl ?_
  have GG := Gro.refl w
  have kg := Hg
  have hcl : ((l.drop (k * 8)).take 8).length = 8 := by rw [List.length_take, List.length_drop]; omega
  have hcb : ∀ x ∈ ((l.drop (k * 8)).take 8), x < 256 := fun x hx => hb x (List.mem_of_mem_drop (List.mem_of_mem_take hx))
  refine qS ?_
  refine ja 4 rfl rfl (.int .u64 0) (rfl) ?_
  refine nr ?_; intro U h; simp only [z0, z1] at h; subst h
  refine qA ?_
  refine ja 5 rfl rfl (.int .u64 0) (rfl) ?_
  refine nr ?_; intro U h; simp only [z0, z1] at h; subst h
  refine qL (qE (qS ?_))
  refine ja 7 rfl rfl (iK 0) (rfl) ?_
  refine nr ?_; intro U h; simp only [z0, z1] at h; subst h
  refine qL (qB ?_)
  refine jV (fun mz az wv => ∃ (j : Nat) (us1 : Nat → Value), mz = 8 - j ∧ az = ⟨[.slice (some ⟨g, 0, none⟩) 64 64, nK k, uD, uD, .int .u64 0, .int .u64 ((valL (((l.drop (k * 8)).take 8).take j) : Nat) : Int), us1 0, nK j, us1 1, us1 2, us1 3, us1 4, us1 5, us1 6, us1 7, us1 8, us1 9, us1 10, us1 11, us1 12, us1 13, us1 14, uD].toArray, []⟩ ∧ j ≤ 8 ∧ Gro w wv ∧ wv.heap[g]? = some (.cells (bv l) 5 (0, 0))) ?_ _ ⟨0, (fun kz => ([uD, uD, uD, uD, uD, uD, uD, uD, uD, uD, uD, uD, uD, uD, uD] : List Value).getD kz uD), rfl, rfl, Nat.zero_le _, GG, kg⟩
  clear kg GG
  rintro mz az wv ⟨j, us1, rfl, rfl, hj, GG, kg⟩
  refine qS ?_
  obtain ⟨p1, hp1⟩ : ∃ p, decide (((j : Nat) : Int) < 8) = p := ⟨_, rfl⟩
  refine ja 8 rfl rfl (.bool p1) (jE 3 _ _ _ rfl ((j : Nat) : Int) 8 rfl rfl p1 hp1 _) ?_
  refine nr ?_; intro U h; simp only [z0, z1] at h; subst h
  cases p1
  have hjn : j = 8 := by have := of_decide_eq_false hp1; omega
  refine qL (qE (qF rfl (wp_exit (jL (jL (zC (jG (qS ?_))))))))
  refine ja 22 rfl rfl (.int .u64 ((valL (((l.drop (k * 8)).take 8).take j) : Nat) : Int)) (rfl) ?_
  refine ja 4 rfl rfl (.int .u64 ((valL (((l.drop (k * 8)).take 8).take j) : Nat) : Int)) (rfl) ?_
  refine nr ?_; intro U h; simp only [z0, z1] at h; subst h
  refine qL (qR ?_)
  refine bodyPost_ret (results_tmp Try.results95 _ _ _) rfl ?_
  subst hjn
  have h8 : valL (((l.drop (k * 8)).take 8).take 8) = nm l k := by rw [nm, List.take_of_length_le (by omega)]
  rw [← h8]
  exact ⟨rfl, GG⟩
  have hjn : j < 8 := by have := of_decide_eq_true hp1; omega
  refine qL (qE (qT rfl (qK (qE (qB (qS ?_))))))
  refine ja 9 rfl rfl (nK j) (rfl) ?_
  refine ja 6 rfl rfl (nK j) (rfl) ?_
  refine nr ?_; intro U h; simp only [z0, z1] at h; subst h
  refine qL (qG ?_)
  refine ja 10 rfl rfl (.int .u64 ((valL (((l.drop (k * 8)).take 8).take j) : Nat) : Int)) (rfl) ?_
  refine ja 11 rfl rfl (.int .u64 ((valL (((l.drop (k * 8)).take 8).take j) * 256 : Nat) : Int)) (YH 75 64 _ _ rfl (valL (((l.drop (k * 8)).take 8).take j)) (yl _ hcb j (by omega) hjn) .u64 rfl rfl _) ?_
  refine ja 12 rfl rfl (.slice (some ⟨g, 0, none⟩) 64 64) (rfl) ?_
  refine ja 13 rfl rfl (nK k) (rfl) ?_
  refine ja 14 rfl rfl (nK (k * 8)) (zb _ _ _ rfl ((k : Nat) : Int) 8 _ rfl rfl (by omega) (by omega) (by omega) _) ?_
  refine ja 15 rfl rfl (nK j) (rfl) ?_
  refine ja 16 rfl rfl (nK (k * 8 + j)) (jp _ _ _ rfl ((k * 8 : Nat) : Int) ((j : Nat) : Int) _ rfl rfl (by omega) (by omega) (by omega) _) ?_
  refine ja 17 rfl rfl (.pointer (some ⟨g, k * 8 + j, none⟩)) (bat _ _ rfl g 64 64 (k * 8 + j) rfl rfl (by omega) _) ?_
  refine ja 18 rfl rfl (.int .u8 ((l.getD (k * 8 + j) 0 : Nat) : Int)) (zo bT _ rfl ⟨g, k * 8 + j, none⟩ rfl _ _ (bvc kg (by omega))) ?_
  refine ja 19 rfl rfl (.int .u64 ((l.getD (k * 8 + j) 0 : Nat) : Int)) (conv525 _ rfl (l.getD (k * 8 + j) 0) (zx hb _) rfl _) ?_
  refine ja 20 rfl rfl (.int .u64 (((valL (((l.drop (k * 8)).take 8).take (j + 1)) : Nat) : Int))) (Ur 75 75 _ _ rfl (valL (((l.drop (k * 8)).take 8).take j)) (l.getD (k * 8 + j) 0) (yl _ hcb j (by omega) hjn) (zx hb _) rfl rfl _ (by rw [vY _ j (by omega), jbu _ _ _ hjn]) _) ?_
  refine ja 5 rfl rfl (.int .u64 (((valL (((l.drop (k * 8)).take 8).take (j + 1)) : Nat) : Int))) (rfl) ?_
  refine nr ?_; intro U h; simp only [z0, z1] at h; subst h
  refine qN (zh (jG (qG ?_)))
  refine ja 21 rfl rfl (nK (j + 1)) (jp _ _ _ rfl ((j : Nat) : Int) 1 _ rfl rfl (by omega) (by omega) (by omega) _) ?_
  refine ja 7 rfl rfl (nK (j + 1)) (rfl) ?_
  refine nr ?_; intro U h; simp only [z0, z1] at h; subst h
  refine qL ?_
  exact ⟨_, (by omega : 8 - (j + 1) < 8 - j), j + 1, (fun kz => ([nK j, vT, nK j, .int .u64 ((valL (((l.drop (k * 8)).take 8).take j) : Nat) : Int), .int .u64 ((valL (((l.drop (k * 8)).take 8).take j) * 256 : Nat) : Int), .slice (some ⟨g, 0, none⟩) 64 64, nK k, nK (k * 8), nK j, nK (k * 8 + j), .pointer (some ⟨g, k * 8 + j, none⟩), .int .u8 ((l.getD (k * 8 + j) 0 : Nat) : Int), .int .u64 ((l.getD (k * 8 + j) 0 : Nat) : Int), .int .u64 (((valL (((l.drop (k * 8)).take 8).take (j + 1)) : Nat) : Int)), nK (j + 1)] : List Value).getD kz uD), rfl, rfl, hjn, GG, kg⟩
theorem uX (w : World) (p sg n : Nat) (L : List Nat) (pw dn : Int) (H : DK w p sg n L pw dn) (i : Nat) (hi : i < n) : Calls Try.prog 75 #[vP p 0, nK i] w fun e w' => e = .returned (.agg (hdC (hdE (secL L i)))) ∧ Gro w w' := by
  refine js Try.func75 rfl Try.ntmps75 [vP p 0, nK i] [vP p 0, nK i, uD, uD, uD, uD, uD, uD, uD, uD, uD, uD, uD, uD, uD, uD, uD, uD, uD, uD, uD, uD, uD, uD, uD, uD, uD, uD, uD, uD, uD, uD, uD, uD, uD, uD, uD, uD, uD] rfl ?_
  have GG := Gro.refl w
  have kp := H.box
  have ksg := H.sec
  have hne := H.ne
  have hsl := zW H.len hi
  have hsb := vc H.byte i
  refine qS ?_
  refine jU 4 rfl rfl 119 rfl _ zv119 _ rfl ?_
  intro w1 g1 G eg1 kg1
  have bg1 := jk GG eg1
  have dpg1 := jH kp eg1
  have dsgg1 := jH ksg eg1
  replace kp := G.has kp
  replace ksg := G.has ksg
  replace GG := GG.trans G
  clear G eg1
  refine nr ?_; intro U h; simp only [z0, z1] at h; subst h
  refine qA ?_
  refine ja 11 rfl rfl (vP p 0) (rfl) ?_
  refine ja 12 rfl rfl (nK i) (rfl) ?_
  refine nr ?_; intro U h; simp only [z0, z1] at h; subst h
  refine jx 13 rfl rfl _ 76 Try.call76 rfl rfl _ rfl [vP p 0, nK i] rfl (UA _ p sg n L pw dn ⟨kp, ksg, H.len, H.le, H.byte, H.ne⟩ i hi) (fun _ _ ⟨_, he, _⟩ => ⟨_, he⟩) ?_
  rintro v w2 ⟨gr, he, G, bgr, kgr⟩
  cases he
  have dpgr : p < gr := Nat.lt_of_lt_of_le (ji kp) bgr
  have dsggr : sg < gr := Nat.lt_of_lt_of_le (ji ksg) bgr
  have dg1gr : g1 < gr := Nat.lt_of_lt_of_le (ji kg1) bgr
  have bgr := Nat.le_trans GG.size bgr
  replace kp := G.has kp
  replace ksg := G.has ksg
  replace kg1 := G.has kg1
  replace GG := GG.trans G
  clear G
  refine nr ?_; intro U h; simp only [z0, z1] at h; subst h
  refine ja 10 rfl rfl (.tuple #[.slice (some ⟨gr, 0, none⟩) 64 64, iK 0]) (rfl) ?_
  refine ja 14 rfl rfl (.slice (some ⟨gr, 0, none⟩) 64 64) (rfl) ?_
  refine ja 15 rfl rfl (iK 0) (rfl) ?_
  refine ja 5 rfl rfl (.slice (some ⟨gr, 0, none⟩) 64 64) (rfl) ?_
  refine ja 6 rfl rfl (iK 0) (rfl) ?_
  refine nr ?_; intro U h; simp only [z0, z1] at h; subst h
  refine qL (qE (qS ?_))
  refine ja 16 rfl rfl (.slice (some ⟨gr, 0, none⟩) 64 64) (rfl) ?_
  refine ja 17 rfl rfl (.slice (some ⟨gr, 24, none⟩) 40 40) (VX _ _ rfl gr 64 24 rfl rfl (by decide) _) ?_
  refine ja 18 rfl rfl (nK 40) (jA Try.underlying30 _ rfl _ _ _ rfl _) ?_
  refine ja 19 rfl rfl (iK 0) (rfl) ?_
  refine nr ?_; intro U h; simp only [z0, z1] at h; subst h
  refine qL (qB ?_)
  refine jV (fun mz az wv => ∃ (j : Nat) (us1 : Nat → Value), mz = 40 - j ∧ az = ⟨[vP p 0, nK i, uD, uD, vP g1 0, .slice (some ⟨gr, 0, none⟩) 64 64, iK 0, uD, us1 0, uD, .tuple #[.slice (some ⟨gr, 0, none⟩) 64 64, iK 0], vP p 0, nK i, .tuple #[.slice (some ⟨gr, 0, none⟩) 64 64, iK 0], .slice (some ⟨gr, 0, none⟩) 64 64, iK 0, .slice (some ⟨gr, 0, none⟩) 64 64, .slice (some ⟨gr, 24, none⟩) 40 40, nK 40, nK j, us1 1, us1 2, us1 3, us1 4, us1 5, us1 6, us1 7, uD, uD, uD, uD, uD, uD, uD, uD, uD, uD, uD, uD].toArray, []⟩ ∧ j ≤ 40 ∧ (∀ x, x < j → (secL L i).getD (24 + x) 0 = 0) ∧ Gro w wv ∧ wv.heap[p]? = some (.cells (c101 ⟨some ⟨sg, 0, none⟩, n, n⟩ pw dn) 101 (0, 0)) ∧ wv.heap[sg]? = some (.cells (bv L) 98 (0, 0)) ∧ wv.heap[g1]? = some (.cells (c119 0 0 0) 119 (0, 0)) ∧ wv.heap[gr]? = some (.cells (bv (secL L i)) 5 (0, 0))) ?_ _ ⟨0, (fun kz => ([uD, uD, uD, uD, uD, uD, uD, uD] : List Value).getD kz uD), rfl, rfl, Nat.zero_le _, (fun x hx => absurd hx (Nat.not_lt_zero _)), GG, kp, ksg, kg1, kgr⟩
  clear kp ksg kg1 kgr GG
  rintro mz az wv ⟨j, us1, rfl, rfl, hj, hz, GG, kp, ksg, kg1, kgr⟩
  refine qS ?_
  obtain ⟨p1, hp1⟩ : ∃ p, decide (((j : Nat) : Int) < ((40 : Nat) : Int)) = p := ⟨_, rfl⟩
  refine ja 20 rfl rfl (.bool p1) (jE 3 _ _ _ rfl ((j : Nat) : Int) ((40 : Nat) : Int) rfl rfl p1 hp1 _) ?_
  refine nr ?_; intro U h; simp only [z0, z1] at h; subst h
  cases p1
  have hjn : j = 40 := by have := of_decide_eq_false hp1; omega
  subst hjn
  have hZ : zerosB (secL L i) = true := (vr hsl).2 hz
  refine qL (qE (qF rfl (wp_exit (jL (jL (zC (jG (qS ?_))))))))
  refine ja 27 rfl rfl (.slice (some ⟨gr, 0, none⟩) 64 64) (rfl) ?_
  refine nr ?_; intro U h; simp only [z0, z1] at h; subst h
  refine jy 28 rfl rfl _ 95 Try.call95 rfl rfl _ rfl [.slice (some ⟨gr, 0, none⟩) 64 64, iK 0] rfl (uF _ gr (secL L i) kgr hsl hsb 0 (by decide)) ?_
  intro w3 G
  replace kp := G.has kp
  replace ksg := G.has ksg
  replace kg1 := G.has kg1
  replace kgr := G.has kgr
  replace GG := GG.trans G
  clear G
  refine nr ?_; intro U h; simp only [z0, z1] at h; subst h
  refine ja 29 rfl rfl (.slice (some ⟨gr, 0, none⟩) 64 64) (rfl) ?_
  refine nr ?_; intro U h; simp only [z0, z1] at h; subst h
  refine jy 30 rfl rfl _ 95 Try.call95 rfl rfl _ rfl [.slice (some ⟨gr, 0, none⟩) 64 64, iK 1] rfl (uF _ gr (secL L i) kgr hsl hsb 1 (by decide)) ?_
  intro w4 G
  replace kp := G.has kp
  replace ksg := G.has ksg
  replace kg1 := G.has kg1
  replace kgr := G.has kgr
  replace GG := GG.trans G
  clear G
  refine nr ?_; intro U h; simp only [z0, z1] at h; subst h
  refine ja 31 rfl rfl (.slice (some ⟨gr, 0, none⟩) 64 64) (rfl) ?_
  refine nr ?_; intro U h; simp only [z0, z1] at h; subst h
  refine jy 32 rfl rfl _ 95 Try.call95 rfl rfl _ rfl [.slice (some ⟨gr, 0, none⟩) 64 64, iK 2] rfl (uF _ gr (secL L i) kgr hsl hsb 2 (by decide)) ?_
  intro w5 G
  replace kp := G.has kp
  replace ksg := G.has ksg
  replace kg1 := G.has kg1
  replace kgr := G.has kgr
  replace GG := GG.trans G
  clear G
  refine nr ?_; intro U h; simp only [z0, z1] at h; subst h
  refine ja 33 rfl rfl (.agg (c119 ((nm (secL L i) 0 : Nat) : Int) ((nm (secL L i) 1 : Nat) : Int) ((nm (secL L i) 2 : Nat) : Int))) (jN 119 _ rfl [(0, .int .u64 ((nm (secL L i) 0 : Nat) : Int)), (1, .int .u64 ((nm (secL L i) 1 : Nat) : Int)), (2, .int .u64 ((nm (secL L i) 2 : Nat) : Int))] rfl _ (by kernel_rfl)) ?_
  refine nr ?_; intro U h; simp only [z0, z1] at h; subst h
  refine jU 9 rfl rfl 119 rfl _ zv119 _ rfl ?_
  intro w6 g2 G eg2 kg2
  have bg2 := jk GG eg2
  have dpg2 := jH kp eg2
  have dsgg2 := jH ksg eg2
  have dg1g2 := jH kg1 eg2
  have dgrg2 := jH kgr eg2
  replace kp := G.has kp
  replace ksg := G.has ksg
  replace kg1 := G.has kg1
  replace kgr := G.has kgr
  replace GG := GG.trans G
  clear G eg2
  refine nr ?_; intro U h; simp only [z0, z1] at h; subst h
  refine jt rfl rfl 119 _ _ rfl g2 0 rfl (.agg (c119 ((nm (secL L i) 0 : Nat) : Int) ((nm (secL L i) 1 : Nat) : Int) ((nm (secL L i) 2 : Nat) : Int))) rfl 119 _ kg2 (c119 ((nm (secL L i) 0 : Nat) : Int) ((nm (secL L i) 1 : Nat) : Int) ((nm (secL L i) 2 : Nat) : Int)) rfl (by kernel_rfl) (Nat.le_of_ble_eq_true rfl) (by kernel_rfl) (c119 ((nm (secL L i) 0 : Nat) : Int) ((nm (secL L i) 1 : Nat) : Int) ((nm (secL L i) 2 : Nat) : Int)) (by kernel_rfl) ?_
  intro w8 St
  replace kp := St.has (by omega) kp
  replace ksg := St.has (by omega) ksg
  replace kg1 := St.has (by omega) kg1
  replace kgr := St.has (by omega) kgr
  replace GG := GG.store St bg2
  replace kg2 := St.new
  clear St
  refine qL (qE (qS ?_))
  refine ja 34 rfl rfl (vP g2 0) (jf 119 _ 0 rfl _ _ rfl _ (by kernel_rfl)) ?_
  refine ja 35 rfl rfl (.int .u64 ((nm (secL L i) 0 : Nat) : Int)) (jq 75 _ rfl g2 0 rfl 119 _ kg2 (na75 _) _ rfl) ?_
  refine nr ?_; intro U h; simp only [z0, z1] at h; subst h
  obtain ⟨p2, hp2⟩ : ∃ p, decide (((nm (secL L i) 0 : Nat) : Int) = 0) = p := ⟨_, rfl⟩
  refine ja 36 rfl rfl (.bool p2) (jB 75 .u64 _ _ _ rfl Try.underlying75 ((nm (secL L i) 0 : Nat) : Int) 0 rfl rfl p2 hp2 _) ?_
  refine nr ?_; intro U h; simp only [z0, z1] at h; subst h
  cases p2
  have h0 : nm (secL L i) 0 ≠ 0 := by have := of_decide_eq_false hp2; omega
  refine qL (qF rfl (qK (qS ?_)))
  refine ja 38 rfl rfl (.agg (c119 ((nm (secL L i) 0 : Nat) : Int) ((nm (secL L i) 1 : Nat) : Int) ((nm (secL L i) 2 : Nat) : Int))) (zP 119 _ rfl g2 0 3 rfl 119 _ kg2 _ Try.underlying119 rfl si119 (Nat.le_of_ble_eq_true rfl) _ (by kernel_rfl)) ?_
  refine nr ?_; intro U h; simp only [z0, z1] at h; subst h
  refine jt rfl rfl 119 _ _ rfl g1 0 rfl (.agg (c119 ((nm (secL L i) 0 : Nat) : Int) ((nm (secL L i) 1 : Nat) : Int) ((nm (secL L i) 2 : Nat) : Int))) rfl 119 _ kg1 (c119 ((nm (secL L i) 0 : Nat) : Int) ((nm (secL L i) 1 : Nat) : Int) ((nm (secL L i) 2 : Nat) : Int)) rfl (by kernel_rfl) (Nat.le_of_ble_eq_true rfl) (by kernel_rfl) (c119 ((nm (secL L i) 0 : Nat) : Int) ((nm (secL L i) 1 : Nat) : Int) ((nm (secL L i) 2 : Nat) : Int)) (by kernel_rfl) ?_
  intro w10 St
  replace kp := St.has (by omega) kp
  replace ksg := St.has (by omega) ksg
  replace kgr := St.has (by omega) kgr
  replace kg2 := St.has (by omega) kg2
  replace GG := GG.store St bg1
  replace kg1 := St.new
  clear St
  refine qL (qR ?_)
  refine bodyPost_ret (results_cell_row Try.results75 _ _ g1 119 _ (0, 0) _ rfl kg1 Try.underlying119 rfl (by kernel_rfl)) rfl ?_
  first | (rw [Yl hsl hjn hbx]; exact ⟨rfl, GG⟩) | (rw [jbg hZ h0]; exact ⟨rfl, GG⟩) | (rw [UP hZ h0]; exact ⟨rfl, GG⟩)
  have h0 : nm (secL L i) 0 = 0 := by have := of_decide_eq_true hp2; omega
  refine qL (qT rfl (qS ?_))
  refine ja 37 rfl rfl (.agg (c119 0 0 0)) (jN 119 _ rfl [] rfl _ (by kernel_rfl)) ?_
  refine nr ?_; intro U h; simp only [z0, z1] at h; subst h
  refine jt rfl rfl 119 _ _ rfl g1 0 rfl (.agg (c119 0 0 0)) rfl 119 _ kg1 (c119 0 0 0) rfl (by kernel_rfl) (Nat.le_of_ble_eq_true rfl) (by kernel_rfl) (c119 0 0 0) (by kernel_rfl) ?_
  intro w10 St
  replace kp := St.has (by omega) kp
  replace ksg := St.has (by omega) ksg
  replace kgr := St.has (by omega) kgr
  replace kg2 := St.has (by omega) kg2
  replace GG := GG.store St bg1
  replace kg1 := St.new
  clear St
  refine qL (qR (jr ?_))
  refine bodyPost_ret (results_cell_row Try.results75 _ _ g1 119 _ (0, 0) _ rfl kg1 Try.underlying119 rfl (by kernel_rfl)) rfl ?_
  first | (rw [Yl hsl hjn hbx]; exact ⟨rfl, GG⟩) | (rw [jbg hZ h0]; exact ⟨rfl, GG⟩) | (rw [UP hZ h0]; exact ⟨rfl, GG⟩)
  have hjn : j < 40 := by have := of_decide_eq_true hp1; omega
  refine qL (qE (qT rfl (qK (qE (qB (qS ?_))))))
  refine ja 21 rfl rfl (.pointer (some ⟨gr, 24 + j, none⟩)) (bato _ _ rfl gr 24 40 40 j rfl rfl hjn _) ?_
  refine ja 22 rfl rfl (.int .u8 ((((secL L i).getD (24 + j) 0 : Nat) : Int))) (zo bT _ rfl ⟨gr, 24 + j, none⟩ rfl _ _ (bvc kgr (by omega))) ?_
  refine ja 8 rfl rfl (.int .u8 ((((secL L i).getD (24 + j) 0 : Nat) : Int))) (rfl) ?_
  refine nr ?_; intro U h; simp only [z0, z1] at h; subst h
  refine qA ?_
  refine ja 23 rfl rfl (.int .u8 ((((secL L i).getD (24 + j) 0 : Nat) : Int))) (rfl) ?_
  refine nr ?_; intro U h; simp only [z0, z1] at h; subst h
  obtain ⟨p2, hp2⟩ : ∃ p, decide ((secL L i).getD (24 + j) 0 ≠ 0) = p := ⟨_, rfl⟩
  refine ja 24 rfl rfl (.bool p2) (jh 5 .u8 _ _ _ rfl Try.underlying5 (((secL L i).getD (24 + j) 0 : Nat) : Int) 0 rfl rfl p2 (by rw [← hp2]; exact dec_ne _) _) ?_
  refine nr ?_; intro U h; simp only [z0, z1] at h; subst h
  cases p2
  have hbx : (secL L i).getD (24 + j) 0 = 0 := Decidable.of_not_not (of_decide_eq_false hp2)
  refine qL (qF rfl (wp_skip (zh (jG (qG ?_)))))
  refine ja 26 rfl rfl (nK (j + 1)) (jp _ _ _ rfl ((j : Nat) : Int) 1 _ rfl rfl (by omega) (by omega) (by omega) _) ?_
  refine ja 19 rfl rfl (nK (j + 1)) (rfl) ?_
  refine nr ?_; intro U h; simp only [z0, z1] at h; subst h
  refine qL ?_
  exact ⟨_, (by omega : 40 - (j + 1) < 40 - j), j + 1, (fun kz => ([.int .u8 ((((secL L i).getD (24 + j) 0 : Nat) : Int)), vT, .pointer (some ⟨gr, 24 + j, none⟩), .int .u8 ((((secL L i).getD (24 + j) 0 : Nat) : Int)), .int .u8 ((((secL L i).getD (24 + j) 0 : Nat) : Int)), vF, us1 6, nK (j + 1)] : List Value).getD kz uD), rfl, rfl, hjn, (fun x hx => by by_cases hxe : x = j; (subst hxe; exact hbx); exact hz x (by omega)), GG, kp, ksg, kg1, kgr⟩
  have hbx := of_decide_eq_true hp2
  refine qL (qT rfl (qS ?_))
  refine ja 25 rfl rfl (.agg (c119 0 0 0)) (jN 119 _ rfl [] rfl _ (by kernel_rfl)) ?_
  refine nr ?_; intro U h; simp only [z0, z1] at h; subst h
  refine jt rfl rfl 119 _ _ rfl g1 0 rfl (.agg (c119 0 0 0)) rfl 119 _ kg1 (c119 0 0 0) rfl (by kernel_rfl) (Nat.le_of_ble_eq_true rfl) (by kernel_rfl) (c119 0 0 0) (by kernel_rfl) ?_
  intro w4 St
  replace kp := St.has (by omega) kp
  replace ksg := St.has (by omega) ksg
  replace kgr := St.has (by omega) kgr
  replace GG := GG.store St bg1
  replace kg1 := St.new
  clear St
  refine qL (qR (zk (jr (jr (zk (jr ?_))))))
  refine bodyPost_ret (results_cell_row Try.results75 _ _ g1 119 _ (0, 0) _ rfl kg1 Try.underlying119 rfl (by kernel_rfl)) rfl ?_
  first | (rw [Yl hsl hjn hbx]; exact ⟨rfl, GG⟩) | (rw [jbg hZ h0]; exact ⟨rfl, GG⟩) | (rw [UP hZ h0]; exact ⟨rfl, GG⟩)
theorem Yr (w : World) (p sg n : Nat) (L : List Nat) (pw dn : Int) (H : DK w p sg n L pw dn) (hn : 2 ≤ n) : Calls Try.prog 59 #[vP p 0] w fun e w' => e = .returned (.agg (hdC (cntE L))) ∧ Gro w w' := by
  refine js Try.func59 rfl Try.ntmps59 [vP p 0] [vP p 0, uD, uD, uD, uD, uD, uD, uD, uD, uD, uD, uD, uD, uD, uD, uD] rfl ?_
  have GG := Gro.refl w
  have kp := H.box
  have ksg := H.sec
  have hne := H.ne
  refine qS ?_
  refine jU 2 rfl rfl 119 rfl _ zv119 _ rfl ?_
  intro w1 g1 G eg1 kg1
  have bg1 := jk GG eg1
  have dpg1 := jH kp eg1
  have dsgg1 := jH ksg eg1
  replace kp := G.has kp
  replace ksg := G.has ksg
  replace GG := GG.trans G
  clear G eg1
  refine nr ?_; intro U h; simp only [z0, z1] at h; subst h
  refine qA ?_
  refine ja 5 rfl rfl (vP p 0) (rfl) ?_
  refine nr ?_; intro U h; simp only [z0, z1] at h; subst h
  refine jy 6 rfl rfl _ 75 Try.call75 rfl rfl _ rfl [vP p 0, iK 0] rfl (uX _ p sg n L pw dn ⟨kp, ksg, H.len, H.le, H.byte, H.ne⟩ 0 (by omega)) ?_
  intro w2 G
  replace kp := G.has kp
  replace ksg := G.has ksg
  replace kg1 := G.has kg1
  replace GG := GG.trans G
  clear G
  refine nr ?_; intro U h; simp only [z0, z1] at h; subst h
  refine ja 7 rfl rfl (vP p 0) (rfl) ?_
  refine nr ?_; intro U h; simp only [z0, z1] at h; subst h
  refine jy 8 rfl rfl _ 75 Try.call75 rfl rfl _ rfl [vP p 0, iK 1] rfl (uX _ p sg n L pw dn ⟨kp, ksg, H.len, H.le, H.byte, H.ne⟩ 1 (by omega)) ?_
  intro w3 G
  replace kp := G.has kp
  replace ksg := G.has ksg
  replace kg1 := G.has kg1
  replace GG := GG.trans G
  clear G
  refine nr ?_; intro U h; simp only [z0, z1] at h; subst h
  refine jU 3 rfl rfl 119 rfl _ zv119 _ rfl ?_
  intro w4 g2 G eg2 kg2
  have bg2 := jk GG eg2
  have dpg2 := jH kp eg2
  have dsgg2 := jH ksg eg2
  have dg1g2 := jH kg1 eg2
  replace kp := G.has kp
  replace ksg := G.has ksg
  replace kg1 := G.has kg1
  replace GG := GG.trans G
  clear G eg2
  refine nr ?_; intro U h; simp only [z0, z1] at h; subst h
  refine jU 4 rfl rfl 119 rfl _ zv119 _ rfl ?_
  intro w5 g3 G eg3 kg3
  have bg3 := jk GG eg3
  have dpg3 := jH kp eg3
  have dsgg3 := jH ksg eg3
  have dg1g3 := jH kg1 eg3
  have dg2g3 := jH kg2 eg3
  replace kp := G.has kp
  replace ksg := G.has ksg
  replace kg1 := G.has kg1
  replace kg2 := G.has kg2
  replace GG := GG.trans G
  clear G eg3
  refine nr ?_; intro U h; simp only [z0, z1] at h; subst h
  refine jt rfl rfl 119 _ _ rfl g2 0 rfl (.agg (c119 (((hdE (secL L 0)).g : Nat) : Int) (((hdE (secL L 0)).u : Nat) : Int) (((hdE (secL L 0)).c : Nat) : Int))) rfl 119 _ kg2 (c119 (((hdE (secL L 0)).g : Nat) : Int) (((hdE (secL L 0)).u : Nat) : Int) (((hdE (secL L 0)).c : Nat) : Int)) rfl (by kernel_rfl) (Nat.le_of_ble_eq_true rfl) (by kernel_rfl) (c119 (((hdE (secL L 0)).g : Nat) : Int) (((hdE (secL L 0)).u : Nat) : Int) (((hdE (secL L 0)).c : Nat) : Int)) (by kernel_rfl) ?_
  intro w7 St
  replace kp := St.has (by omega) kp
  replace ksg := St.has (by omega) ksg
  replace kg1 := St.has (by omega) kg1
  replace kg3 := St.has (by omega) kg3
  replace GG := GG.store St bg2
  replace kg2 := St.new
  clear St
  refine jt rfl rfl 119 _ _ rfl g3 0 rfl (.agg (c119 (((hdE (secL L 1)).g : Nat) : Int) (((hdE (secL L 1)).u : Nat) : Int) (((hdE (secL L 1)).c : Nat) : Int))) rfl 119 _ kg3 (c119 (((hdE (secL L 1)).g : Nat) : Int) (((hdE (secL L 1)).u : Nat) : Int) (((hdE (secL L 1)).c : Nat) : Int)) rfl (by kernel_rfl) (Nat.le_of_ble_eq_true rfl) (by kernel_rfl) (c119 (((hdE (secL L 1)).g : Nat) : Int) (((hdE (secL L 1)).u : Nat) : Int) (((hdE (secL L 1)).c : Nat) : Int)) (by kernel_rfl) ?_
  intro w9 St
  replace kp := St.has (by omega) kp
  replace ksg := St.has (by omega) ksg
  replace kg1 := St.has (by omega) kg1
  replace kg2 := St.has (by omega) kg2
  replace GG := GG.store St bg3
  replace kg3 := St.new
  clear St
  refine qL (qE (qS ?_))
  refine ja 9 rfl rfl (vP g3 0) (jf 119 _ 0 rfl _ _ rfl _ (by kernel_rfl)) ?_
  refine ja 10 rfl rfl (.int .u64 (((hdE (secL L 1)).g : Nat) : Int)) (jq 75 _ rfl g3 0 rfl 119 _ kg3 (na75 _) _ rfl) ?_
  refine ja 11 rfl rfl (vP g2 0) (jf 119 _ 0 rfl _ _ rfl _ (by kernel_rfl)) ?_
  refine ja 12 rfl rfl (.int .u64 (((hdE (secL L 0)).g : Nat) : Int)) (jq 75 _ rfl g2 0 rfl 119 _ kg2 (na75 _) _ rfl) ?_
  refine nr ?_; intro U h; simp only [z0, z1] at h; subst h
  obtain ⟨p1, hp1⟩ : ∃ p, decide ((hdE (secL L 0)).g < (hdE (secL L 1)).g) = p := ⟨_, rfl⟩
  refine ja 13 rfl rfl (.bool p1) (jS 75 75 _ _ rfl (hdE (secL L 1)).g (hdE (secL L 0)).g rfl rfl p1 hp1 _) ?_
  refine nr ?_; intro U h; simp only [z0, z1] at h; subst h
  cases p1
  have hc : cntE L = hdE (secL L 0) := if_neg (of_decide_eq_false hp1)
  refine qL (qF rfl (qK (qS ?_)))
  refine ja 15 rfl rfl (.agg (c119 (((hdE (secL L 0)).g : Nat) : Int) (((hdE (secL L 0)).u : Nat) : Int) (((hdE (secL L 0)).c : Nat) : Int))) (zP 119 _ rfl g2 0 3 rfl 119 _ kg2 _ Try.underlying119 rfl si119 (Nat.le_of_ble_eq_true rfl) _ (by kernel_rfl)) ?_
  refine nr ?_; intro U h; simp only [z0, z1] at h; subst h
  refine jt rfl rfl 119 _ _ rfl g1 0 rfl (.agg (c119 (((hdE (secL L 0)).g : Nat) : Int) (((hdE (secL L 0)).u : Nat) : Int) (((hdE (secL L 0)).c : Nat) : Int))) rfl 119 _ kg1 (c119 (((hdE (secL L 0)).g : Nat) : Int) (((hdE (secL L 0)).u : Nat) : Int) (((hdE (secL L 0)).c : Nat) : Int)) rfl (by kernel_rfl) (Nat.le_of_ble_eq_true rfl) (by kernel_rfl) (c119 (((hdE (secL L 0)).g : Nat) : Int) (((hdE (secL L 0)).u : Nat) : Int) (((hdE (secL L 0)).c : Nat) : Int)) (by kernel_rfl) ?_
  intro w11 St
  replace kp := St.has (by omega) kp
  replace ksg := St.has (by omega) ksg
  replace kg2 := St.has (by omega) kg2
  replace kg3 := St.has (by omega) kg3
  replace GG := GG.store St bg1
  replace kg1 := St.new
  clear St
  refine qL (qR ?_)
  refine bodyPost_ret (results_cell_row Try.results59 _ _ g1 119 _ (0, 0) _ rfl kg1 Try.underlying119 rfl (by kernel_rfl)) rfl ?_
  rw [hc]
  exact ⟨rfl, GG⟩
  have hc : cntE L = hdE (secL L 1) := if_pos (of_decide_eq_true hp1)
  refine qL (qT rfl (qS ?_))
  refine ja 14 rfl rfl (.agg (c119 (((hdE (secL L 1)).g : Nat) : Int) (((hdE (secL L 1)).u : Nat) : Int) (((hdE (secL L 1)).c : Nat) : Int))) (zP 119 _ rfl g3 0 3 rfl 119 _ kg3 _ Try.underlying119 rfl si119 (Nat.le_of_ble_eq_true rfl) _ (by kernel_rfl)) ?_
  refine nr ?_; intro U h; simp only [z0, z1] at h; subst h
  refine jt rfl rfl 119 _ _ rfl g1 0 rfl (.agg (c119 (((hdE (secL L 1)).g : Nat) : Int) (((hdE (secL L 1)).u : Nat) : Int) (((hdE (secL L 1)).c : Nat) : Int))) rfl 119 _ kg1 (c119 (((hdE (secL L 1)).g : Nat) : Int) (((hdE (secL L 1)).u : Nat) : Int) (((hdE (secL L 1)).c : Nat) : Int)) rfl (by kernel_rfl) (Nat.le_of_ble_eq_true rfl) (by kernel_rfl) (c119 (((hdE (secL L 1)).g : Nat) : Int) (((hdE (secL L 1)).u : Nat) : Int) (((hdE (secL L 1)).c : Nat) : Int)) (by kernel_rfl) ?_
  intro w11 St
  replace kp := St.has (by omega) kp
  replace ksg := St.has (by omega) ksg
  replace kg2 := St.has (by omega) kg2
  replace kg3 := St.has (by omega) kg3
  replace GG := GG.store St bg1
  replace kg1 := St.new
  clear St
  refine qL (qR (jr ?_))
  refine bodyPost_ret (results_cell_row Try.results59 _ _ g1 119 _ (0, 0) _ rfl kg1 Try.underlying119 rfl (by kernel_rfl)) rfl ?_
  rw [hc]
  exact ⟨rfl, GG⟩
end Go.Proofs.Ytgfnjekpafempaa
