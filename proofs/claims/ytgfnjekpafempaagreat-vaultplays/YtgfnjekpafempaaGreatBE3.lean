import Derived.Test.YtgfnjekpafempaaGreatBE2
import Derived.Test.YtgfnjekpafempaaGreatBAb
namespace Go.Proofs.YtgfnjekpafempaaGreat
open Go.Proofs.Tryz
set_option maxHeartbeats 4000000
set_option maxRecDepth 100000
open Go.RowKit
/-! ### Rows of rows, as Open tells them -/
def rv (x : Nat × List Nat) : Value := .slice (some ⟨x.1, 0, none⟩) x.2.length x.2.length
structure RS (w : World) (B : Nat) (ao : Option Addr) (cap : Nat) (q : List (Nat × List Nat)) : Prop where
  ox : OX w 27 1 B ao cap q.length (q.map rv)
  row : ∀ x ∈ q, B ≤ x.1 ∧ w.heap[x.1]? = some (.cells (bv x.2) 5 (0, 0)) ∧ ∀ y ∈ x.2, y < 256
theorem RS.nil (w : World) (B : Nat) : RS w B none 0 [] := ⟨OX.nil _ _ _ _, fun _ h => by cases h⟩
theorem RS.gro {w w' : World} {B : Nat} {ao : Option Addr} {cap : Nat} {q : List (Nat × List Nat)} (h : RS w B ao cap q) (G : Gro w w') : RS w' B ao cap q :=
  ⟨h.ox.gro G, fun x hx => ⟨(h.row x hx).1, G.has (h.row x hx).2.1, (h.row x hx).2.2⟩⟩
theorem RS.app {w w' : World} {B : Nat} {ao : Option Addr} {cap : Nat} {q : List (Nat × List Nat)} (H : RS w B ao cap q) {ao2 : Option Addr} {cap2 : Nat} {x : Nat × List Nat} (h2 : OX w' 27 1 B ao2 cap2 (q.length + 1) (q.map rv ++ [rv x])) (G : GroS (blk ao) w w')
    (hx : w.heap[x.1]? = some (.cells (bv x.2) 5 (0, 0))) (hB : B ≤ x.1) (hb : ∀ y ∈ x.2, y < 256) : RS w' B ao2 cap2 (q ++ [x]) := by
  refine ⟨by simpa using h2, fun y hy => ?_⟩
  have five : ∀ y : Nat × List Nat, w.heap[y.1]? = some (.cells (bv y.2) 5 (0, 0)) → w'.heap[y.1]? = some (.cells (bv y.2) 5 (0, 0)) := fun y hy => G.has hy (H.ox.ne hy (by decide))
  rcases List.mem_append.1 hy with hy | hy
  · exact ⟨(H.row y hy).1, five y (H.row y hy).2.1, (H.row y hy).2.2⟩
  · have : y = x := by simpa using hy
    subst this
    exact ⟨hB, five y hx, hb⟩
theorem rT : RowT Tryz.prog 73 27 1 24 (.slice none 0 0) := ⟨underlying73, uF (by kernel_rfl), rfl, by decide⟩
theorem KK {P : Program} {o : Oper} {A : Act} (t t2 : TypeId) (x y : Operand) (ho : o.op = .binOp .shl t x y t2) (n : Nat) (hn : n < 256) (ky : IntKind) (hx : A.eval x = .int .i64 (n : Int)) (hy : A.eval y = .int ky 8) (w : World) : (execOp A.eval o).run P w = .ok (.value (.int .i64 ((n * 256 : Nat) : Int))) w := by
  refine jF .shl t x y t2 ho _ _ _ hx hy (by simp [eqGuard]) ?_
  have h2 : IntKind.i64.wrap ((n : Int) * 2 ^ min 8 IntKind.i64.bits) = ((n * 256 : Nat) : Int) := by
    have : min 8 IntKind.i64.bits = 8 := rfl
    rw [this]
    have e : (n : Int) * 2 ^ 8 = ((n * 256 : Nat) : Int) := by omega
    rw [e]
    exact ya _ (by omega) (by omega)
  simp [binOp, Op.shift, h2]
theorem jca {P : Program} {o : Oper} {A : Act} (t t2 : TypeId) (x y : Operand) (ho : o.op = .binOp .or t x y t2) (a b : Nat) (ha : a < 256) (hb : b < 256) (hx : A.eval x = .int .i64 ((a * 256 : Nat) : Int)) (hy : A.eval y = .int .i64 (b : Int)) (w : World) : (execOp A.eval o).run P w = .ok (.value (.int .i64 ((a * 256 + b : Nat) : Int))) w := by
  refine jF .or t x y t2 ho _ _ _ hx hy (by simp [eqGuard]) ?_
  have h2 : IntKind.i64.wrap (((BitVec.ofInt 64 ((a * 256 : Nat) : Int) ||| BitVec.ofInt 64 (b : Int)).toNat : Nat) : Int) = ((a * 256 + b : Nat) : Int) := by
    rw [jdj a b (by omega) hb]
    exact ya _ (by omega) (by omega)
  show (Op.intBits .or .i64 ((a * 256 : Nat) : Int) (b : Int)).run P w = _
  unfold Op.intBits
  simp only [Sem.run_pure]
  exact congrArg (fun z => Result.ok (Value.int .i64 z) w) h2
theorem cutRec {L : List Nat} {a k m : Nat} (h : m + 2 ≤ k * 64) : (((L.drop (a * 64)).take (k * 64)).drop 2).take m = (L.drop (a * 64 + 2)).take m := by
  rw [List.drop_take, List.take_take, List.drop_drop]
  congr 1
  omega
theorem Yg {L : List Nat} {n a k m : Nat} (hl : L.length = n * 64) (hk : a + k ≤ n) (h : m + 2 ≤ k * 64) : ((L.drop (a * 64 + 2)).take m).length = m := by
  rw [List.length_take, List.length_drop]
  omega
theorem jbp {L : List Nat} {n a j : Nat} (hl : L.length = n * 64) (hk : a + j ≤ n) : ((L.drop (a * 64)).take (j * 64)).length = j * 64 := by
  rw [List.length_take, List.length_drop]
  omega
theorem KE {L : List Nat} {a j : Nat} : (L.drop (a * 64)).take (j * 64) ++ secL L (a + j) = (L.drop (a * 64)).take ((j + 1) * 64) := by
  rw [secL, Nat.add_mul j 1, List.take_add, List.drop_drop, Nat.one_mul, Nat.add_mul]
theorem jcq {L : List Nat} {u j : Nat} (hj : j < u) : ((reg L u).drop (j * 64)).take 64 = secL L (2 + j) := by
  rw [reg, List.drop_take, List.take_take, List.drop_drop, secL]
  have e1 : min 64 (u * 64 - j * 64) = 64 := by omega
  have e2 : 128 + j * 64 = (2 + j) * 64 := by omega
  rw [e1, e2]
theorem Yp {l : List Nat} {i : Nat} (h : i < 64) : (l.take 64).getD i 0 = l.getD i 0 := by
  rw [List.getD_eq_getElem?_getD, List.getElem?_take, if_pos h, ← List.getD_eq_getElem?_getD]
theorem rest_M {L : List Nat} {u j : Nat} (hj : j < u) : recM ((reg L u).drop (j * 64)) = (secL L (2 + j)).getD 0 0 * 256 + (secL L (2 + j)).getD 1 0 := by
  rw [← jcq hj, recM, Yp (by decide), Yp (by decide)]
theorem jcp {L : List Nat} {u j m : Nat} (h : m + 2 ≤ u * 64 - j * 64) : (((reg L u).drop (j * 64)).drop 2).take m = (L.drop ((2 + j) * 64 + 2)).take m := by
  rw [reg, List.drop_take, List.drop_take, List.take_take, List.drop_drop, List.drop_drop]
  have e1 : min m (u * 64 - j * 64 - 2) = m := by omega
  have e2 : 128 + (j * 64 + 2) = (2 + j) * 64 + 2 := by omega
  rw [e1]
  congr 2 <;> omega
theorem ZS (w : World) (p sg n : Nat) (L : List Nat) (pw dn : Int) (H : DK w p sg n L pw dn) (a k m : Nat) (hak : a + k ≤ n) (hm : m + 2 ≤ k * 64) : Calls Tryz.prog 68 #[vP p 0, nK a, nK k, nK m] w fun e w' => ∃ g, e = .returned (.slice (some ⟨g, 0, none⟩) m m) ∧ Gro w w' ∧ w.heap.size ≤ g ∧ w'.heap[g]? = some (.cells (bv ((L.drop (a * 64 + 2)).take m)) 5 (0, 0)) := by
  refine eN func68 rfl ntmps68 [vP p 0, nK a, nK k, nK m] ?_
  have GG := Gro.refl w
  have hn4 := H.le
  refine qE (qG (mv (.slice none 0 0) rfl (nq ?_)))
  refine qL (qE (qG (mv (nK k) rfl (sv (nK (k * 64)) (zd _ _ _ rfl ((k : Nat) : Int) 64 _ rfl rfl (by omega) (by omega) (by omega) _) rfl (nq ?_)))))
  refine s_mk0 bT 16 rfl rfl _ _ rfl (k * 64) rfl rfl (by omega) (by simp only [maxLen]; omega) ?_
  intro w1 g0 G eg0 HO
  replace HO := HO.mono (jh GG eg0)
  clear eg0
  replace GG := GG.trans G
  clear G
  refine nq ?_
  refine mv (.slice (some ⟨g0, 0, none⟩) (([] : List Nat).length) (k * 64)) rfl (nq ?_)
  refine qL (qE (qE (qG (mv (nK k) rfl (mv (iK 0) rfl (nq ?_))))))
  refine qL (qB ?_)
  refine jO (fun mz az wv => ∃ (j : Nat) (ao : Option Addr) (cap : Nat) (ls : List Nat) (us1 : Nat → Value), mz = k - j ∧ az = ⟨[vP p 0, nK a, nK k, nK m, uD, uD, uD, uD, .slice none 0 0, .slice ao ls.length cap, us1 10, us1 11, us1 12, uD, nK k, nK (k * 64), .slice (some ⟨g0, 0, none⟩) (([] : List Nat).length) (k * 64), nK k, nK j, us1 19, us1 20, us1 21, us1 22, us1 23, us1 24, us1 25, us1 26, us1 27, us1 28, us1 29, us1 30, us1 31, us1 32, uD, uD, uD, uD, uD, uD, uD].toArray, []⟩ ∧ j ≤ k ∧ ls = ((L.drop (a * 64)).take (j * 64)) ∧ Gro w wv ∧ OB wv 5 .u8 w.heap.size ao cap ls) ?_ _ ⟨0, _, _, [], usK ⟨Nat.zero_le _, (by simp), GG, HO⟩⟩
  clear GG HO
  rintro mz az wv ⟨j, ao, cap, ls, us1, rfl, rfl, hj, hls, GG, HO⟩
  have hll : ls.length = j * 64 := by rw [hls]; exact jbp H.len (by omega)
  refine qS ?_
  obtain ⟨p1, hp1⟩ : ∃ p, decide (((j : Nat) : Int) < ((k : Nat) : Int)) = p := ⟨_, rfl⟩
  refine sv (.bool p1) (jv 3 _ _ _ rfl ((j : Nat) : Int) ((k : Nat) : Int) rfl rfl p1 hp1 _) rfl (nq ?_)
  cases p1
  have hjn : j = k := by have := of_decide_eq_false hp1; omega
  subst hjn
  refine qL (qE (qF rfl (wp_exit (jG (jG (zp (jC (qE (qG (mv (nK m) rfl (nq ?_)))))))))))
  refine ZI bT 34 rfl rfl _ _ rfl m rfl rfl (by omega) (by simp only [maxLen]; omega) ?_
  intro w2 g2 G eg2 kg2
  have bg2 := jh GG eg2
  replace HO := HO.gro G
  replace GG := GG.trans G
  clear G eg2
  refine nq ?_
  refine mv (.slice (some ⟨g2, 0, none⟩) m m) rfl (nq ?_)
  refine qL (qE (qG (mv (.slice (some ⟨g2, 0, none⟩) m m) rfl (mv (.slice ao ls.length cap) rfl (sv (.slice (if cap = 2 then ao else ao.map (·.add 2)) (ls.length - 2) (cap - 2)) (Jn bT _ _ rfl ao ls.length cap 2 rfl rfl (by omega) _) rfl (nq ?_))))))
  have hcut : (ls.drop 2).take m = ((L.drop (a * 64 + 2)).take m) := by rw [hls]; exact cutRec hm
  refine uY bT 38 rfl rfl _ _ rfl g2 0 m m rfl kg2 rfl (by rw [List.length_drop]) (HO.nc.drop 2 (by omega)) hcut (by rw [zo]; omega) ?_
  intro w3 St
  replace GG := GG.store St bg2
  replace kg2 := St.new
  clear St
  rw [jbi (by rw [Yg H.len hak hm, zo])] at kg2
  refine nq ?_
  refine qL (qE (qG (mv (.slice (some ⟨g2, 0, none⟩) m m) rfl (mv (.slice (some ⟨g2, 0, none⟩) m m) rfl (nq ?_)))))
  refine qL (qR ?_)
  refine bodyPost_ret (results_tmp results68 _ _ _) rfl ?_
  exact ⟨g2, rfl, GG, bg2, kg2⟩
  have hjn : j < k := by have := of_decide_eq_true hp1; omega
  refine qL (qE (qT rfl (qK (qE (qB (qE (qG (mv (nK j) rfl (mv (nK j) rfl (nq ?_))))))))))
  refine qL (qE (qG (mv (vP p 0) rfl (mv (nK a) rfl (mv (nK j) rfl (sv (nK (a + j)) (jp _ _ _ rfl ((a : Nat) : Int) ((j : Nat) : Int) _ rfl rfl (by omega) (by omega) (by omega) _) rfl (nq ?_)))))))
  refine jq 26 rfl rfl _ 67 call67 rfl rfl _ rfl [vP p 0, nK (a + j)] rfl (Uh _ p sg n L pw dn (H.gro GG) (a + j) (by omega)) (fun _ _ ⟨_, he, _⟩ => ⟨_, he⟩) ?_
  rintro v w2 ⟨gr, he, G, bgr, kgr⟩
  cases he
  replace HO := HO.gro G
  replace GG := GG.trans G
  clear G
  refine nq ?_
  refine mv (.tuple #[.slice (some ⟨gr, 0, none⟩) ((secL L (a + j)).length) ((secL L (a + j)).length), iK 0]) rfl (mv (.slice (some ⟨gr, 0, none⟩) ((secL L (a + j)).length) ((secL L (a + j)).length)) rfl (mv (iK 0) rfl (mv (.slice (some ⟨gr, 0, none⟩) ((secL L (a + j)).length) ((secL L (a + j)).length)) rfl (mv (iK 0) rfl (nq ?_)))))
  refine qL (qG (mv (.slice ao ls.length cap) rfl (mv (.slice (some ⟨gr, 0, none⟩) ((secL L (a + j)).length) ((secL L (a + j)).length)) rfl (nq ?_))))
  have hs64 := zZ H.len (show a + j < n by omega)
  refine yH bT 31 rfl rfl _ _ rfl rfl HO (l' := secL L (a + j)) rfl (Qi kgr (vv H.byte _)) (by omega) (by decide) GG.size ?_
  intro ao2 cap2 w3 HO2 BB
  replace GG := zq GG BB (Nat.le_refl _)
  clear HO BB kgr
  refine nq ?_
  refine mv (.slice ao2 ((ls ++ secL L (a + j)).length) cap2) rfl (nq ?_)
  refine qN (zb (jC (qG (sv (nK (j + 1)) (jp _ _ _ rfl ((j : Nat) : Int) 1 _ rfl rfl (by omega) (by omega) (by omega) _) rfl (mv (nK (j + 1)) rfl (nq ?_))))))
  refine qL ?_
  exact ⟨_, (by omega : k - (j + 1) < k - j), j + 1, _, _, _, usK ⟨hjn, (by rw [hls]; exact KE), GG, HO2⟩⟩
def RecP (w : World) (r : Option (List (List Nat))) (e : Ending) (w' : World) : Prop :=
  match r with
  | none => e = .returned (.tuple #[.slice none 0 0, .bool false]) ∧ Gro w w'
  | some rs => ∃ ao cap q, e = .returned (.tuple #[.slice ao (List.length q) cap, .bool true]) ∧ rs = q.map (·.2) ∧ Gro w w' ∧ RS w' w.heap.size ao cap q
theorem Zl (w : World) (p sg n : Nat) (L : List Nat) (pw dn : Int) (H : DK w p sg n L pw dn) (u : Nat) (hu : u + 2 ≤ n) : Calls Tryz.prog 45 #[vP p 0, nK u] w (RecP w (prs (reg L u))) := by
  refine eN func45 rfl ntmps45 [vP p 0, nK u] ?_
  have GG := Gro.refl w
  have hn4 := H.le
  refine qE (qG (mv (.slice none 0 0) rfl (mv (vF) rfl (nq ?_))))
  refine qL (qE (qG (mv (.slice none 0 0) rfl (nq ?_))))
  refine qL (qE (qE (qG (mv (iK 0) rfl (nq ?_)))))
  refine qL (qB ?_)
  refine jO (fun mz az wv => ∃ (j : Nat) (ao : Option Addr) (cap : Nat) (q : List (Nat × List Nat)) (us1 : Nat → Value), mz = u - j ∧ az = ⟨[vP p 0, nK u, uD, uD, us1 0, us1 1, .slice ao q.length cap, nK j, us1 2, us1 3, us1 4, us1 5, us1 6, us1 7, us1 8, us1 9, us1 10, us1 11, us1 12, us1 13, us1 14, us1 15, us1 16, us1 17, us1 18, us1 19, us1 20, us1 21, us1 22, us1 23, us1 24, us1 25, us1 26, us1 27, us1 28, us1 29, us1 30, us1 31, us1 32, us1 33, us1 34, us1 35, us1 36, us1 37, us1 38, us1 39, us1 40, us1 41, us1 42, us1 43, us1 44, us1 45, us1 46, us1 47, us1 48, uD].toArray, []⟩ ∧ j ≤ u ∧ q.length ≤ j ∧ prs (reg L u) = (prs ((reg L u).drop (j * 64))).map ((q.map (·.2)) ++ ·) ∧ Gro w wv ∧ RS wv w.heap.size ao cap q) ?_ _ ⟨0, none, 0, [], (fun kz => ([.slice none 0 0, vF, uD, uD, uD, uD, uD, uD, uD, uD, uD, uD, uD, uD, uD, uD, uD, uD, uD, uD, uD, uD, uD, uD, uD, uD, uD, uD, uD, uD, uD, uD, uD, uD, uD, uD, uD, uD, uD, uD, uD, uD, uD, uD, uD, uD, uD, uD, uD] : List Value).getD kz uD), rfl, rfl, Nat.zero_le _, Nat.le_refl _, (by simp), GG, RS.nil _ _⟩
  clear GG
  rintro mz az wv ⟨j, ao, cap, q, us1, rfl, rfl, hj, hq, hp, GG, HL⟩
  refine qE (qE (qG (mv (nK j) rfl (mv (nK u) rfl (nq ?_)))))
  obtain ⟨p1, hp1⟩ : ∃ p, decide (((j : Nat) : Int) < ((u : Nat) : Int)) = p := ⟨_, rfl⟩
  refine sv (.bool p1) (jv 3 _ _ _ rfl ((j : Nat) : Int) ((u : Nat) : Int) rfl rfl p1 hp1 _) rfl (nq ?_)
  cases p1
  have hjn : j = u := by have := of_decide_eq_false hp1; omega
  subst hjn
  refine qL (qF rfl (wp_exit (jG (jG (zp (jC (qE (qG (mv (.slice ao q.length cap) rfl (mv (.slice ao q.length cap) rfl (mv (vT) rfl (nq ?_))))))))))))
  refine qL (qR ?_)
  refine bodyPost_ret (results_tmp2 results45 _ _ _) rfl ?_
  rw [List.drop_of_length_le (by rw [vM H.len hu]; exact Nat.le_refl _), vO] at hp
  rw [show prs (reg L j) = some (q.map (·.2)) from by rw [hp]; simp]
  exact ⟨ao, cap, q, rfl, rfl, GG, HL⟩
  have hjn : j < u := by have := of_decide_eq_true hp1; omega
  refine qL (qT rfl (qK (qB (qE (qG (mv (vP p 0) rfl (mv (nK j) rfl (sv (nK (2 + j)) (jp _ _ _ rfl 2 ((j : Nat) : Int) _ rfl rfl (by omega) (by omega) (by omega) _) rfl (nq ?_)))))))))
  refine jq 19 rfl rfl _ 67 call67 rfl rfl _ rfl [vP p 0, nK (2 + j)] rfl (Uh _ p sg n L pw dn (H.gro GG) (2 + j) (by omega)) (fun _ _ ⟨_, he, _⟩ => ⟨_, he⟩) ?_
  rintro v w1 ⟨gr, he, G, bgr, kgr⟩
  cases he
  have hs64 := zZ H.len (show 2 + j < n by omega)
  have hsb := vv H.byte (2 + j)
  replace HL := HL.gro G
  replace GG := GG.trans G
  clear G
  refine nq ?_
  refine mv (.tuple #[.slice (some ⟨gr, 0, none⟩) ((secL L (2 + j)).length) ((secL L (2 + j)).length), iK 0]) rfl (mv (.slice (some ⟨gr, 0, none⟩) ((secL L (2 + j)).length) ((secL L (2 + j)).length)) rfl (mv (iK 0) rfl (mv (.slice (some ⟨gr, 0, none⟩) ((secL L (2 + j)).length) ((secL L (2 + j)).length)) rfl (mv (iK 0) rfl (nq ?_)))))
  refine qL (qE ?_)
  refine exQ 9 [(0, 22), (1, 23), (2, 24), (3, 25), (4, 26), (5, 27), (6, 28), (7, 29), (8, 30)] [.val (.slice (some ⟨gr, 0, none⟩) ((secL L (2 + j)).length) ((secL L (2 + j)).length)), .val (vP gr 0), .val (.int .u8 (((secL L (2 + j)).getD 0 0 : Nat) : Int)), .val (iK (((secL L (2 + j)).getD 0 0 : Nat) : Int)), .val (iK (((secL L (2 + j)).getD 0 0 * 256 : Nat) : Int)), .val (.slice (some ⟨gr, 0, none⟩) ((secL L (2 + j)).length) ((secL L (2 + j)).length)), .val (vP gr 1), .val (.int .u8 (((secL L (2 + j)).getD 1 0 : Nat) : Int)), .val (iK (((secL L (2 + j)).getD 1 0 : Nat) : Int))] follows (by kernel_rfl) rfl (ja ?_ (ja ?_ (ja ?_ (ja ?_ (ja ?_ (ja ?_ (ja ?_ (ja ?_ (ja ?_ jD))))))))) ?_
  exact fun _ _ _ _ => jf _ rfl rfl rfl
  exact fun _ _ hw _ => jb rfl (bat _ _ rfl gr (secL L (2 + j)).length (secL L (2 + j)).length 0 rfl rfl (by omega) _)
  exact fun _ _ hw _ => jb rfl (zj bT _ rfl ⟨gr, 0, none⟩ rfl _ _ (bvc (hw.has kgr) (by omega)))
  exact fun _ _ hw _ => jb rfl (conv53 _ rfl ((secL L (2 + j)).getD 0 0) (zt hsb _) rfl _)
  exact fun _ _ hw _ => jb rfl (KK 3 28 _ _ rfl ((secL L (2 + j)).getD 0 0) (zt hsb _) .u64 rfl rfl _)
  exact fun _ _ _ _ => jf _ rfl rfl rfl
  exact fun _ _ hw _ => jb rfl (bat _ _ rfl gr (secL L (2 + j)).length (secL L (2 + j)).length 1 rfl rfl (by omega) _)
  exact fun _ _ hw _ => jb rfl (zj bT _ rfl ⟨gr, 1, none⟩ rfl _ _ (bvc (hw.has kgr) (by omega)))
  exact fun _ _ hw _ => jb rfl (conv53 _ rfl ((secL L (2 + j)).getD 1 0) (zt hsb _) rfl _)
  intro ptrs w2 GD hxE
  simp only [List.drop_succ_cons, List.drop_zero]
  replace kgr := GD.has kgr
  replace HL := HL.gro ((Gro.refl _).drew.trans GD)
  replace GG := GG.drew.trans GD
  clear GD
  refine sv (iK (((((secL L (2 + j)).getD 0 0 * 256 + (secL L (2 + j)).getD 1 0) : Nat) : Int))) (jca 3 3 _ _ rfl ((secL L (2 + j)).getD 0 0) ((secL L (2 + j)).getD 1 0) (zt hsb _) (zt hsb _) rfl rfl _) rfl (mv (iK (((((secL L (2 + j)).getD 0 0 * 256 + (secL L (2 + j)).getD 1 0) : Nat) : Int))) rfl (nq ?_))
  refine qA ?_
  obtain ⟨mm, hmm⟩ : ∃ mm, ((secL L (2 + j)).getD 0 0 * 256 + (secL L (2 + j)).getD 1 0) = mm := ⟨_, rfl⟩
  have hM : recM ((reg L u).drop (j * 64)) = mm := by rw [rest_M hjn]; exact hmm
  have hml : mm < 65536 := by rw [← hmm]; have h1 := zt hsb 0; have h2 := zt hsb 1; omega
  have hsn : secN mm ≤ 1030 := by unfold secN; omega
  have hm2 : mm + 2 ≤ secN mm * 64 := by unfold secN; omega
  rw [hmm]
  refine mv (nK mm) rfl (nq ?_)
  refine jr 33 rfl rfl _ 49 call49 rfl rfl _ rfl [nK mm] rfl (yz _ mm (by omega)) ?_
  intro w3 G
  replace kgr := G.has kgr
  replace HL := HL.gro G
  replace GG := GG.trans G
  clear G
  refine nq ?_
  refine mv (nK (secN mm)) rfl (nq ?_)
  refine qL (qE (qE ?_))
  refine jg ?_
  intro OPS hY
  have y2 := hY 2 36 rfl
  clear hY
  refine mv (nK mm) rfl (nq ?_)
  obtain ⟨p2, hp2⟩ : ∃ p, decide (1024 < ((mm : Nat) : Int)) = p := ⟨_, rfl⟩
  refine sv (.bool p2) (jy 3 _ _ _ rfl ((mm : Nat) : Int) 1024 rfl rfl p2 hp2 _) rfl (nq ?_)
  cases p2
  have h24 : mm ≤ 1024 := by have := of_decide_eq_false hp2; omega
  refine vw _ rfl rfl (vF) rfl ?_
  refine jd 37 rfl rfl y2 rfl (nK (secN mm)) (rfl) (jd 38 rfl rfl y2 rfl (nK u) (rfl) (jd 39 rfl rfl y2 rfl (nK j) (rfl) (jd 40 rfl rfl y2 rfl (nK (u - j)) (jP _ _ _ rfl ((u : Nat) : Int) ((j : Nat) : Int) _ rfl rfl (by omega) (by omega) (by omega) _) (nq ?_))))
  obtain ⟨p3, hp3⟩ : ∃ p, decide (((u - j : Nat) : Int) < ((secN mm : Nat) : Int)) = p := ⟨_, rfl⟩
  refine jd 41 rfl rfl y2 rfl (.bool p3) (jy 3 _ _ _ rfl ((secN mm : Nat) : Int) ((u - j : Nat) : Int) rfl rfl p3 hp3 _) (nq ?_)
  cases p3
  have hkf : secN mm ≤ u - j := by have := of_decide_eq_false hp3; omega
  refine vw _ rfl rfl (vF) rfl ?_
  refine nq ?_
  refine qL (qF rfl (qK (qE (qG (mv (.slice ao q.length cap) rfl (mv (vP p 0) rfl (mv (nK j) rfl (sv (nK (2 + j)) (jp _ _ _ rfl 2 ((j : Nat) : Int) _ rfl rfl (by omega) (by omega) (by omega) _) rfl (mv (nK (secN mm)) rfl (mv (nK mm) rfl ?_))))))))))
  refine nq ?_
  refine jq 49 rfl rfl _ 68 call68 rfl rfl _ rfl [vP p 0, nK (2 + j), nK (secN mm), nK mm] rfl (ZS _ p sg n L pw dn (H.gro GG) (2 + j) (secN mm) mm (by omega) hm2) (fun _ _ ⟨_, he, _⟩ => ⟨_, he⟩) ?_
  rintro v w4 ⟨gq, he, G, bgq, kgq⟩
  cases he
  replace bgq := Nat.le_trans GG.size bgq
  replace kgr := G.has kgr
  replace HL := HL.gro G
  replace GG := GG.trans G
  clear G
  refine nq ?_
  refine ye 50 rfl rfl 73 1 _ rfl [(0, .slice (some ⟨gq, 0, none⟩) mm mm)] rfl #[.slice (some ⟨gq, 0, none⟩) mm mm] 27 (by kernel_rfl) ?_
  intro w5 gb G egb kgb
  have bgb := jh GG egb
  have dgqgb := jn kgq egb
  replace kgq := G.has kgq
  replace HL := HL.gro G
  replace GG := GG.trans G
  clear G egb
  refine nq ?_
  have hxl : ((L.drop ((2 + j) * 64 + 2)).take mm).length = mm := Yg H.len (show 2 + j + secN mm ≤ n by omega) hm2
  refine QM rT 51 rfl rfl _ _ rfl rfl HL.ox rfl (UI kgb rfl) (by omega) (by decide) GG.size ?_
  intro ao2 cap2 w6 HX GX
  have HL2 := RS.app (x := (gq, ((L.drop ((2 + j) * 64 + 2)).take mm))) HL (by simpa [rv, hxl] using HX) GX kgq bgq (fun y hy => H.byte y (List.mem_of_mem_drop (List.mem_of_mem_take hy)))
  replace GG := GX.gro GG HL.ox.base
  clear HX GX HL kgb kgq
  refine nq ?_
  refine mv (.slice ao2 (q.length + 1) cap2) rfl (nq ?_)
  refine qL (qG (mv (nK j) rfl (mv (nK (secN mm)) rfl (sv (nK (j + secN mm)) (jp _ _ _ rfl ((j : Nat) : Int) ((secN mm : Nat) : Int) _ rfl rfl (by omega) (by omega) (by omega) _) rfl (mv (nK (j + secN mm)) rfl (nq ?_))))))
  refine qN (zb (jC ?_))
  have hne : (reg L u).drop (j * 64) ≠ [] := fun hE => by have := congrArg List.length hE; rw [List.length_drop, vM H.len hu] at this; simp at this; omega
  have h1s : 1 ≤ secN mm := by unfold secN; omega
  have hd2 : ((reg L u).drop (j * 64)).drop (secN mm * 64) = (reg L u).drop ((j + secN mm) * 64) := by rw [List.drop_drop, Nat.add_mul]
  have hr2 := jcp (L := L) (u := u) (j := j) (m := mm) (by omega)
  have hq2 := vz hne (by rw [hM]; exact h24) (by rw [hM, List.length_drop, vM H.len hu]; omega)
  rw [hM, hd2, hr2] at hq2
  exact ⟨_, (by omega : u - (j + secN mm) < u - j), j + secN mm, ao2, cap2, _, (fun kz => ([us1 0, us1 1, .slice (some ⟨gr, 0, none⟩) ((secL L (2 + j)).length) ((secL L (2 + j)).length), iK 0, nK mm, nK (secN mm), nK j, nK u, vT, .tuple #[.slice (some ⟨gr, 0, none⟩) ((secL L (2 + j)).length) ((secL L (2 + j)).length), iK 0], vP p 0, nK j, nK (2 + j), .tuple #[.slice (some ⟨gr, 0, none⟩) ((secL L (2 + j)).length) ((secL L (2 + j)).length), iK 0], .slice (some ⟨gr, 0, none⟩) ((secL L (2 + j)).length) ((secL L (2 + j)).length), iK 0, .slice (some ⟨gr, 0, none⟩) ((secL L (2 + j)).length) ((secL L (2 + j)).length), vP gr 0, .int .u8 (((secL L (2 + j)).getD 0 0 : Nat) : Int), iK (((secL L (2 + j)).getD 0 0 : Nat) : Int), iK (((secL L (2 + j)).getD 0 0 * 256 : Nat) : Int), .slice (some ⟨gr, 0, none⟩) ((secL L (2 + j)).length) ((secL L (2 + j)).length), vP gr 1, .int .u8 (((secL L (2 + j)).getD 1 0 : Nat) : Int), iK (((secL L (2 + j)).getD 1 0 : Nat) : Int), nK mm, nK mm, nK (secN mm), nK mm, vF, vF, nK (secN mm), nK u, nK j, nK (u - j), vF, vF, .slice ao q.length cap, vP p 0, nK j, nK (2 + j), nK (secN mm), nK mm, .slice (some ⟨gq, 0, none⟩) mm mm, .slice (some ⟨gb, 0, none⟩) 1 1, .slice ao2 (q.length + 1) cap2, nK j, nK (secN mm), nK (j + secN mm)] : List Value).getD kz uD), rfl, (by rw [List.length_append]; rfl), (by omega), (by rw [List.length_append]; simp; omega), (by rw [hp, hq2]; cases prs ((reg L u).drop ((j + secN mm) * 64)) <;> simp), GG, HL2⟩
  have hbad : 1024 < recM ((reg L u).drop (j * 64)) ∨ ((reg L u).drop (j * 64)).length < secN (recM ((reg L u).drop (j * 64))) * 64 := .inr (by rw [hM, List.length_drop, vM H.len hu]; have := of_decide_eq_true hp3; omega)
  refine mv (vT) rfl (nq ?_)
  refine qL (qT rfl (qE (qG (mv (.slice none 0 0) rfl (mv (vF) rfl (nq ?_))))))
  refine qL (qR (jm (ze (jm (ze (jm ?_))))))
  refine bodyPost_ret (results_tmp2 results45 _ _ _) rfl ?_
  have hne : (reg L u).drop (j * 64) ≠ [] := fun hE => by have := congrArg List.length hE; rw [List.length_drop, vM H.len hu] at this; simp at this; omega
  rw [uy hne hbad] at hp
  rw [show prs (reg L u) = none from hp]
  exact ⟨rfl, GG⟩
  have hbad : 1024 < recM ((reg L u).drop (j * 64)) ∨ ((reg L u).drop (j * 64)).length < secN (recM ((reg L u).drop (j * 64))) * 64 := .inl (by rw [hM]; have := of_decide_eq_true hp2; omega)
  refine mv (vT) rfl (jk 37 rfl rfl y2 rfl (jk 38 rfl rfl y2 rfl (jk 39 rfl rfl y2 rfl (jk 40 rfl rfl y2 rfl (jk 41 rfl rfl y2 rfl ?_)))))
  refine nq ?_
  refine mv (vT) rfl (nq ?_)
  refine qL (qT rfl (qE (qG (mv (.slice none 0 0) rfl (mv (vF) rfl (nq ?_))))))
  refine qL (qR (jm (ze (jm (ze (jm ?_))))))
  refine bodyPost_ret (results_tmp2 results45 _ _ _) rfl ?_
  have hne : (reg L u).drop (j * 64) ≠ [] := fun hE => by have := congrArg List.length hE; rw [List.length_drop, vM H.len hu] at this; simp at this; omega
  rw [uy hne hbad] at hp
  rw [show prs (reg L u) = none from hp]
  exact ⟨rfl, GG⟩
end Go.Proofs.YtgfnjekpafempaaGreat
