/- The deferred function that catches what the reader throws (frame.read$1). -/
import Derived.Test.YthmcnlmphikicabZR6
import Derived.Defers
import Derived.Recover
import Derived.RegionTactic
namespace Go.Proofs.Ythmcnlmphikicab
open Go.RowKit
theorem stored_setCell {w : World} {g : Nat} {v0 : Value} {t : TypeId} (v : Value) (h : w.heap[g]? = some (.cells #[v0] t (0, 0))) : Stored w (w.setCell ⟨g, 0, none⟩ v) g (.cells #[v] t (0, 0)) :=
  ⟨rfl, rfl, rfl, by simp [World.setCell], by simp [World.setCell, Array.getElem?_modify, h], fun k hk => by simp only [World.setCell, Array.getElem?_modify]; rw [if_neg (Ne.symm hk)]⟩
theorem cell_one {w : World} {g : Nat} {v0 : Value} {t : TypeId} (h : w.heap[g]? = some (.cells #[v0] t (0, 0))) : w.cell? ⟨g, 0, none⟩ = some v0 := by rw [cell_of_row w g 0 _ t (0, 0) h]; rfl
theorem frozen_one {w : World} {g : Nat} {v0 : Value} {t : TypeId} (h : w.heap[g]? = some (.cells #[v0] t (0, 0))) : w.frozen? ⟨g, 0, none⟩ = false := by simp [World.frozen?, h]
set_option maxHeartbeats 1600000 in
theorem catch_panicking (g0 g1 : Nat) (v0 v1 : Value) (x : Nat) (w : World) (hc0 : w.cell? ⟨g0, 0, none⟩ = some v0) (hz0 : w.frozen? ⟨g0, 0, none⟩ = false) (hc1 : w.cell? ⟨g1, 0, none⟩ = some v1) (hz1 : w.frozen? ⟨g1, 0, none⟩ = false) (_hne : ¬ g0 = g1) (hne' : ¬ g1 = g0) :
    CallsD Try.prog 45 #[.pointer (some ⟨g0, 0, none⟩), .pointer (some ⟨g1, 0, none⟩)] (.panicking (thrown x)) w fun e u' w' => e = .returned (.tuple #[]) ∧ u' = .panicking [{ v := .iface 47 (.int .i64 (x : Int)), recovered := true }] ∧ w' = ((w.setCell ⟨g0, 0, none⟩ .nilIface).setCell ⟨g1, 0, none⟩ (.int .i64 (x : Int))).drew := by
  have hta : ∀ w, (Instr.typeAssert (.iface 47 (.int .i64 (x : Int))) 20 113 true).run Try.prog w = .ok (.tuple #[.iface 47 (.int .i64 (x : Int)), .bool true]) w := fun _ => by kernel_rfl
  have htb : ∀ w, (Instr.typeAssert (.iface 47 (.int .i64 (x : Int))) 113 47 false).run Try.prog w = .ok (.int .i64 (x : Int)) w := fun _ => by kernel_rfl
  unfold thrown
  refine callsD_of_wpS Try.func45 rfl fun c₀ cs hu => ?_
  apply wpS_seq
  apply wpS_region
  simp [wpOpsS, go_sem, recoverD, hu, Try.ntmps45, Exit.thenS, hta]
  apply wpS_seq
  apply wpS_region
  simp [wpOpsS, go_sem, Exit.thenS]
  refine wpS_cond (t := true) (by simp [Act.eval, Array.replicate]) ?_
  simp only [if_true]
  refine wpS_of_wp ?_
  go_region
  all_goals simp [bodyPostS, results, Try.results45]
set_option maxHeartbeats 1600000 in
theorem catch_idle (p0 p1 : Addr) (w : World) :
    CallsD Try.prog 45 #[.pointer (some p0), .pointer (some p1)] .returning w fun e u' w' => e = .returned (.tuple #[]) ∧ u' = .returning ∧ w' = w := by
  have hta : ∀ w, (Instr.typeAssert .nilIface 20 113 true).run Try.prog w = .ok (.tuple #[.nilIface, .bool false]) w := fun _ => by kernel_rfl
  refine callsD_of_wpS Try.func45 rfl fun c₀ cs hu => ?_
  apply wpS_seq
  apply wpS_region
  simp [wpOpsS, go_sem, recoverD, hu, Try.ntmps45, Exit.thenS, hta]
  apply wpS_seq
  apply wpS_region
  simp [wpOpsS, go_sem, Exit.thenS]
  refine wpS_cond (t := false) (by simp [Act.eval, Array.replicate]) ?_
  simp only [Bool.false_eq_true, if_false]
  refine wpS_of_wp (wp_skip ?_)
  cases c₀
  simp_all [bodyPostS, results, Try.results45]
/-! ### The walk's own -/
theorem s_enterD {P : Program} {f : FuncId} {fn : Func} {c : Code} {w : World} {R : Ending → World → Prop} {n : Nat} (hf : P.funcs[f]? = some fn) (hb : fn.body = some c) (hn : fn.ntmps = n) (xs T : List Value) (hT : xs ++ List.replicate (n - xs.length) undef = T)
    (h : c.wp P (bodyPostD P fn R) ⟨T.toArray, []⟩ w) : Calls P f xs.toArray w R := by
  refine calls_of_wp_defers hf hb ?_
  subst hT
  subst hn
  have : (xs.toArray ++ Array.replicate (fn.ntmps - xs.toArray.size) undef) = (xs ++ List.replicate (fn.ntmps - xs.length) undef).toArray := by
    apply Array.toList_inj.1
    simp
  rw [this]
  exact h
theorem s_defer {P : Program} {ops : Array Oper} {rest : List Oper} {o : Oper} {T : List Value} {ds : List Deferred} {w : World} {Q : Exit → Act → World → Prop} (hgd : o.guard = none) (hd : o.dst = none) (d : Deferred) (he : (execOp (Act.eval ⟨T.toArray, ds⟩) o).run P w = .ok (.defer d) w)
    (h : wpList P ops Q rest ⟨T.toArray, d :: ds⟩ w) : wpList P ops Q (o :: rest) ⟨T.toArray, ds⟩ w :=
  wpList_plain hgd fun _ hK => by
    unfold Oper.wp
    rw [he, Oper.upon_defer, hd]
    exact hK _ _ h
theorem results_cc {P : Program} {fn : Func} {p q : Tmp} {tp tq : TypeId} (h : fn.results = #[.cell p tp, .cell q tq]) (tmps : Array Value) (w : World) (g0 g1 : Nat) (v0 v1 : Value) (t0 t1 : TypeId) (hp : tmps.getD p undef = .pointer (some ⟨g0, 0, none⟩)) (hq : tmps.getD q undef = .pointer (some ⟨g1, 0, none⟩))
    (hg0 : w.heap[g0]? = some (.cells #[v0] t0 (0, 0))) (hg1 : w.heap[g1]? = some (.cells #[v1] t1 (0, 0))) (h0 : (isAgg tp).run P w = .ok false w) (h1 : (isAgg tq).run P w = .ok false w) : (results fn tmps).run P w = .ok (.tuple #[v0, v1]) w := by
  have hp' : tmps[p]?.getD undef = .pointer (some ⟨g0, 0, none⟩) := by simpa using hp
  have hq' : tmps[q]?.getD undef = .pointer (some ⟨g1, 0, none⟩) := by simpa using hq
  have c0 := cell_one hg0
  have c1 := cell_one hg1
  simp [results, h, hp', hq', asAddr, loadVar, h0, h1, c0, c1, go_sem]
theorem Gro.gr {g : Nat} {w a b : World} (h : Gro w a) (k : GroR g a b) (hg : w.heap.size ≤ g) : Gro w b := ⟨k.os.trans h.os, k.tape.trans h.tape, k.output.trans h.output, Nat.le_trans h.size k.size, fun i hi => (k.old i (Nat.lt_of_lt_of_le hi h.size) (by omega)).trans (h.block i hi)⟩
theorem FrO.gror {rb : Nat} {w w' : World} {B : Nat} {f : Fr} {d : FD} (h : FrO w B f d) (G : GroR rb w w') (hne : rb < B) : FrO w' B f d := ⟨ox_gror h.tr G hne, ox_gror h.ids G hne, ox_gror h.val G hne, ox_gror h.tx G hne, h.oids, h.oval, h.otx⟩
def decE (l : List Nat) : Except Nat (Nat × Fr × FD) :=
  match rdB l 0 with
  | .error e => .error e
  | .ok (a, q) => bif decide (((q : Nat) : Int) < ((l.length : Nat) : Int)) then .error 4 else .ok a
def ReadP (w : World) (l : List Nat) (e : Ending) (w' : World) : Prop :=
  Gro w w' ∧ match decE l with
    | .error x => e = .returned (.tuple #[.nilIface, .int .i64 (x : Int)])
    | .ok a => ∃ v, e = .returned (.tuple #[v, .int .i64 0]) ∧ BodyP w.heap.size a v w'
set_option maxRecDepth 100000 in
set_option maxHeartbeats 4000000 in
theorem read_E1 (so : Option Addr) (sc : Nat) (l : List Nat) (w : World) (H : NC w .u8 so sc l) (hl : l.length ≤ 140737488355000) (x : Nat) (hB : rdB l 0 = .error x) : Calls Try.prog 25 #[.slice so l.length sc] w (ReadP w l) := by
  refine s_enterD Try.func25 rfl Try.ntmps25 [.slice so l.length sc] [.slice so l.length sc, undef, undef, undef, undef, undef, undef, undef, undef, undef, undef, undef, undef, undef] rfl ?_
  have GG := Gro.refl w
  refine wp_seq (wp_region_lit ?_)
  refine s_alloc 2 rfl rfl 23 rfl _ (Try.zeroValue23) _ rfl ?_
  intro w1 g1 G eg1 kg1
  have bg1 := size_base GG eg1
  replace GG := GG.trans G
  clear G eg1
  refine s_alloc 3 rfl rfl 47 rfl _ (Try.zeroValue47) _ rfl ?_
  intro w2 g2 G eg2 kg2
  have bg2 := size_base GG eg2
  have dg1g2 := lt_new kg1 eg2
  replace kg1 := G.has kg1
  replace GG := GG.trans G
  clear G eg2
  refine wpList_nil (then_n (wp_seq (wp_region_lit (sv 5 (.func (.func 45) #[] #[.pointer (some ⟨g1, 0, none⟩), .pointer (some ⟨g2, 0, none⟩)]) (by kernel_rfl) ?_))))
  simp only [z0, z1]
  refine s_defer rfl rfl ⟨.fn (.func 45) #[.pointer (some ⟨g1, 0, none⟩), .pointer (some ⟨g2, 0, none⟩)], #[]⟩ (by kernel_rfl) ?_
  refine wpList_nil (then_n (wp_seq (wp_region_lit (mv 6 (.slice so l.length sc) (sv 7 (.agg (c123 ⟨so, l.length, sc⟩ 0)) (run_bd 117 _ rfl [(0, .slice so l.length sc)] rfl _ (by kernel_rfl)) ?_)))))
  refine s_box 8 rfl rfl 117 _ rfl _ rfl (c123 ⟨so, l.length, sc⟩ 0) rfl ?_
  intro w3 g3 G eg3 kg3
  have bg3 := size_base GG eg3
  have dg1g3 := lt_new kg1 eg3
  have dg2g3 := lt_new kg2 eg3
  replace kg1 := G.has kg1
  replace kg2 := G.has kg2
  replace GG := GG.trans G
  clear G eg3
  simp only [z0, z1]
  refine mv 4 (.pointer (some ⟨g3, 0, none⟩)) (wpList_nil (then_n (wp_seq (wp_region_lit (mv 9 (.pointer (some ⟨g3, 0, none⟩)) ?_)))))
  simp only [z0, z1]
  have HBS : BS g3 _ so sc l := ⟨H.gro GG, fun ad ha h0 hx => by have := H.lt ad ha h0; omega⟩
  have HC := rdBody g3 so sc l 0 _ kg3 HBS hl
  rw [hB] at HC
  have dkg1 := lt_of_heap kg1
  have dkg2 := lt_of_heap kg2
  have dkg3 := lt_of_heap kg3
  have szw := GG.size
  refine s_callp rfl _ 46 Try.call46 rfl rfl _ rfl [.pointer (some ⟨g3, 0, none⟩)] rfl (rd_err HC) ?_
  intro w4 G
  replace kg1 := G.has kg1 (by omega)
  replace kg2 := G.has kg2 (by omega)
  replace GG := GG.gr G bg3
  refine then_p ?_
  show Leaves Try.prog Try.f25 _ _ [⟨.fn (.func 45) #[.pointer (some ⟨g1, 0, none⟩), .pointer (some ⟨g2, 0, none⟩)], #[]⟩] (.panicking (thrown x)) _
  refine leaves_cons (f := 45) (args := #[.pointer (some ⟨g1, 0, none⟩), .pointer (some ⟨g2, 0, none⟩)]) (by simp) (by simp [go_sem]) ?_
  refine (catch_panicking g1 g2 _ _ x _ (cell_one kg1) (frozen_one kg1) (cell_one kg2) (frozen_one kg2) (by omega) (by omega)).mono ?_
  rintro e u' w'' ⟨rfl, rfl, rfl⟩
  have S1 := stored_setCell .nilIface kg1
  replace kg2 := S1.has (by omega) kg2
  replace GG := GG.store S1 bg1
  have S2 := stored_setCell (.int .i64 ((x : Nat) : Int)) kg2
  replace GG := (GG.store S2 bg2).drew
  have k1 := S2.has (show g1 ≠ g2 by omega) S1.new
  refine ⟨_, results_cc Try.results25 _ _ g1 g2 _ _ 23 47 rfl rfl k1 S2.new (na48 _) (na38 _), GG, ?_⟩
  simp only [decE, hB]
set_option maxRecDepth 100000 in
set_option maxHeartbeats 4000000 in
theorem read_E2 (so : Option Addr) (sc : Nat) (l : List Nat) (w : World) (H : NC w .u8 so sc l) (hl : l.length ≤ 140737488355000) (a : Nat × Fr × FD) (q : Nat) (hB : rdB l 0 = .ok (a, q)) (hq : decide (((q : Nat) : Int) < ((l.length : Nat) : Int)) = true) : Calls Try.prog 25 #[.slice so l.length sc] w (ReadP w l) := by
  refine s_enterD Try.func25 rfl Try.ntmps25 [.slice so l.length sc] [.slice so l.length sc, undef, undef, undef, undef, undef, undef, undef, undef, undef, undef, undef, undef, undef] rfl ?_
  have GG := Gro.refl w
  refine wp_seq (wp_region_lit ?_)
  refine s_alloc 2 rfl rfl 23 rfl _ (Try.zeroValue23) _ rfl ?_
  intro w1 g1 G eg1 kg1
  have bg1 := size_base GG eg1
  replace GG := GG.trans G
  clear G eg1
  refine s_alloc 3 rfl rfl 47 rfl _ (Try.zeroValue47) _ rfl ?_
  intro w2 g2 G eg2 kg2
  have bg2 := size_base GG eg2
  have dg1g2 := lt_new kg1 eg2
  replace kg1 := G.has kg1
  replace GG := GG.trans G
  clear G eg2
  refine wpList_nil (then_n (wp_seq (wp_region_lit (sv 5 (.func (.func 45) #[] #[.pointer (some ⟨g1, 0, none⟩), .pointer (some ⟨g2, 0, none⟩)]) (by kernel_rfl) ?_))))
  simp only [z0, z1]
  refine s_defer rfl rfl ⟨.fn (.func 45) #[.pointer (some ⟨g1, 0, none⟩), .pointer (some ⟨g2, 0, none⟩)], #[]⟩ (by kernel_rfl) ?_
  refine wpList_nil (then_n (wp_seq (wp_region_lit (mv 6 (.slice so l.length sc) (sv 7 (.agg (c123 ⟨so, l.length, sc⟩ 0)) (run_bd 117 _ rfl [(0, .slice so l.length sc)] rfl _ (by kernel_rfl)) ?_)))))
  refine s_box 8 rfl rfl 117 _ rfl _ rfl (c123 ⟨so, l.length, sc⟩ 0) rfl ?_
  intro w3 g3 G eg3 kg3
  have bg3 := size_base GG eg3
  have dg1g3 := lt_new kg1 eg3
  have dg2g3 := lt_new kg2 eg3
  replace kg1 := G.has kg1
  replace kg2 := G.has kg2
  replace GG := GG.trans G
  clear G eg3
  simp only [z0, z1]
  refine mv 4 (.pointer (some ⟨g3, 0, none⟩)) (wpList_nil (then_n (wp_seq (wp_region_lit (mv 9 (.pointer (some ⟨g3, 0, none⟩)) ?_)))))
  simp only [z0, z1]
  have HBS : BS g3 _ so sc l := ⟨H.gro GG, fun ad ha h0 hx => by have := H.lt ad ha h0; omega⟩
  have HC := rdBody g3 so sc l 0 _ kg3 HBS hl
  rw [hB] at HC
  have dkg1 := lt_of_heap kg1
  have dkg2 := lt_of_heap kg2
  have dkg3 := lt_of_heap kg3
  have szw := GG.size
  refine s_callx 10 rfl rfl _ 46 Try.call46 rfl rfl _ rfl [.pointer (some ⟨g3, 0, none⟩)] rfl (rd_ok HC) (fun _ _ ⟨_, he, _⟩ => ⟨_, he⟩) ?_
  rintro v w4 ⟨_, he, ⟨s1, s2, s3, s4, hv, HO, hk1, hk2⟩, G, kn⟩
  cases he
  replace kg1 := G.has kg1 (by omega)
  replace kg2 := G.has kg2 (by omega)
  replace GG := GG.gr G bg3
  replace kg3 := kn
  obtain ⟨tb, vb, hbb⟩ := bodyV_if a.1 hk1 hk2 { a.2.1 with tr := s1, ids := s2, val := s3, tx := s4 }
  rw [hbb] at hv
  subst hv
  clear G HC kn
  refine s_store rfl rfl 23 _ _ rfl g1 0 rfl (.iface tb (vb)) rfl 23 _ kg1 #[.iface tb (vb)] rfl (by kernel_rfl) (Nat.le_of_ble_eq_true rfl) (by kernel_rfl) #[.iface tb (vb)] (by kernel_rfl) ?_
  intro w6 S
  replace kg2 := S.has (by omega) kg2
  replace kg3 := S.has (by omega) kg3
  replace GG := GG.store S bg1
  replace kg1 := S.new
  replace HO := HO.apart S (by omega)
  clear S
  refine wpList_nil (then_n (wp_seq (wp_region_lit (mv 11 (.pointer (some ⟨g3, 0, none⟩)) ?_))))
  simp only [z0, z1]
  have HBS2 : BS g3 _ so sc l := ⟨H.gro GG, fun ad ha h0 hx => by have := H.lt ad ha h0; omega⟩
  refine s_callp rfl _ 47 Try.call47 rfl rfl _ rfl [.pointer (some ⟨g3, 0, none⟩)] rfl (end_bad g3 so sc l q _ kg3 HBS2 hl hq) ?_
  intro w7 G
  replace kg1 := G.has kg1 (by omega)
  replace kg2 := G.has kg2 (by omega)
  replace GG := GG.gr G bg3
  refine then_p ?_
  show Leaves Try.prog Try.f25 _ _ [⟨.fn (.func 45) #[.pointer (some ⟨g1, 0, none⟩), .pointer (some ⟨g2, 0, none⟩)], #[]⟩] (.panicking (thrown 4)) _
  refine leaves_cons (f := 45) (args := #[.pointer (some ⟨g1, 0, none⟩), .pointer (some ⟨g2, 0, none⟩)]) (by simp) (by simp [go_sem]) ?_
  refine (catch_panicking g1 g2 _ _ 4 _ (cell_one kg1) (frozen_one kg1) (cell_one kg2) (frozen_one kg2) (by omega) (by omega)).mono ?_
  rintro e u' w'' ⟨rfl, rfl, rfl⟩
  have S1 := stored_setCell .nilIface kg1
  replace kg2 := S1.has (by omega) kg2
  replace GG := GG.store S1 bg1
  have S2 := stored_setCell (.int .i64 ((4 : Nat) : Int)) kg2
  replace GG := (GG.store S2 bg2).drew
  have k1 := S2.has (show g1 ≠ g2 by omega) S1.new
  refine ⟨_, results_cc Try.results25 _ _ g1 g2 _ _ 23 47 rfl rfl k1 S2.new (na48 _) (na38 _), GG, ?_⟩
  simp only [decE, hB, hq, cond_true]
set_option maxRecDepth 100000 in
set_option maxHeartbeats 4000000 in
theorem read_OK (so : Option Addr) (sc : Nat) (l : List Nat) (w : World) (H : NC w .u8 so sc l) (hl : l.length ≤ 140737488355000) (a : Nat × Fr × FD) (q : Nat) (hB : rdB l 0 = .ok (a, q)) (hq : decide (((q : Nat) : Int) < ((l.length : Nat) : Int)) = false) : Calls Try.prog 25 #[.slice so l.length sc] w (ReadP w l) := by
  refine s_enterD Try.func25 rfl Try.ntmps25 [.slice so l.length sc] [.slice so l.length sc, undef, undef, undef, undef, undef, undef, undef, undef, undef, undef, undef, undef, undef] rfl ?_
  have GG := Gro.refl w
  refine wp_seq (wp_region_lit ?_)
  refine s_alloc 2 rfl rfl 23 rfl _ (Try.zeroValue23) _ rfl ?_
  intro w1 g1 G eg1 kg1
  have bg1 := size_base GG eg1
  replace GG := GG.trans G
  clear G eg1
  refine s_alloc 3 rfl rfl 47 rfl _ (Try.zeroValue47) _ rfl ?_
  intro w2 g2 G eg2 kg2
  have bg2 := size_base GG eg2
  have dg1g2 := lt_new kg1 eg2
  replace kg1 := G.has kg1
  replace GG := GG.trans G
  clear G eg2
  refine wpList_nil (then_n (wp_seq (wp_region_lit (sv 5 (.func (.func 45) #[] #[.pointer (some ⟨g1, 0, none⟩), .pointer (some ⟨g2, 0, none⟩)]) (by kernel_rfl) ?_))))
  simp only [z0, z1]
  refine s_defer rfl rfl ⟨.fn (.func 45) #[.pointer (some ⟨g1, 0, none⟩), .pointer (some ⟨g2, 0, none⟩)], #[]⟩ (by kernel_rfl) ?_
  refine wpList_nil (then_n (wp_seq (wp_region_lit (mv 6 (.slice so l.length sc) (sv 7 (.agg (c123 ⟨so, l.length, sc⟩ 0)) (run_bd 117 _ rfl [(0, .slice so l.length sc)] rfl _ (by kernel_rfl)) ?_)))))
  refine s_box 8 rfl rfl 117 _ rfl _ rfl (c123 ⟨so, l.length, sc⟩ 0) rfl ?_
  intro w3 g3 G eg3 kg3
  have bg3 := size_base GG eg3
  have dg1g3 := lt_new kg1 eg3
  have dg2g3 := lt_new kg2 eg3
  replace kg1 := G.has kg1
  replace kg2 := G.has kg2
  replace GG := GG.trans G
  clear G eg3
  simp only [z0, z1]
  refine mv 4 (.pointer (some ⟨g3, 0, none⟩)) (wpList_nil (then_n (wp_seq (wp_region_lit (mv 9 (.pointer (some ⟨g3, 0, none⟩)) ?_)))))
  simp only [z0, z1]
  have HBS : BS g3 _ so sc l := ⟨H.gro GG, fun ad ha h0 hx => by have := H.lt ad ha h0; omega⟩
  have HC := rdBody g3 so sc l 0 _ kg3 HBS hl
  rw [hB] at HC
  have dkg1 := lt_of_heap kg1
  have dkg2 := lt_of_heap kg2
  have dkg3 := lt_of_heap kg3
  have szw := GG.size
  refine s_callx 10 rfl rfl _ 46 Try.call46 rfl rfl _ rfl [.pointer (some ⟨g3, 0, none⟩)] rfl (rd_ok HC) (fun _ _ ⟨_, he, _⟩ => ⟨_, he⟩) ?_
  rintro v w4 ⟨_, he, ⟨s1, s2, s3, s4, hv, HO, hk1, hk2⟩, G, kn⟩
  cases he
  replace kg1 := G.has kg1 (by omega)
  replace kg2 := G.has kg2 (by omega)
  replace GG := GG.gr G bg3
  replace kg3 := kn
  obtain ⟨tb, vb, hbb⟩ := bodyV_if a.1 hk1 hk2 { a.2.1 with tr := s1, ids := s2, val := s3, tx := s4 }
  rw [hbb] at hv
  subst hv
  clear G HC kn
  refine s_store rfl rfl 23 _ _ rfl g1 0 rfl (.iface tb (vb)) rfl 23 _ kg1 #[.iface tb (vb)] rfl (by kernel_rfl) (Nat.le_of_ble_eq_true rfl) (by kernel_rfl) #[.iface tb (vb)] (by kernel_rfl) ?_
  intro w6 S
  replace kg2 := S.has (by omega) kg2
  replace kg3 := S.has (by omega) kg3
  replace GG := GG.store S bg1
  replace kg1 := S.new
  replace HO := HO.apart S (by omega)
  clear S
  refine wpList_nil (then_n (wp_seq (wp_region_lit (mv 11 (.pointer (some ⟨g3, 0, none⟩)) ?_))))
  simp only [z0, z1]
  have HBS2 : BS g3 _ so sc l := ⟨H.gro GG, fun ad ha h0 hx => by have := H.lt ad ha h0; omega⟩
  refine s_callv 12 rfl rfl _ 47 Try.call47 rfl rfl _ rfl [.pointer (some ⟨g3, 0, none⟩)] rfl (end_ok g3 so sc l q _ kg3 HBS2 hl hq) ?_
  rintro w7 ⟨G, kn⟩
  replace kg1 := G.has kg1 (by omega)
  replace kg2 := G.has kg2 (by omega)
  replace HO := HO.gror G (by omega)
  replace GG := GG.gr G bg3
  replace kg3 := kn
  clear G kn
  refine wpList_nil (then_n (wp_seq (wp_region_lit (sv 13 (.iface tb (vb)) (run_ldc 23 _ rfl g1 0 rfl 23 _ kg1 (na48 _) _ rfl) ?_))))
  refine s_store rfl rfl 23 _ _ rfl g1 0 rfl (.iface tb (vb)) rfl 23 _ kg1 #[.iface tb (vb)] rfl (by kernel_rfl) (Nat.le_of_ble_eq_true rfl) (by kernel_rfl) #[.iface tb (vb)] (by kernel_rfl) ?_
  intro w9 S
  replace kg2 := S.has (by omega) kg2
  replace kg3 := S.has (by omega) kg3
  replace GG := GG.store S bg1
  replace kg1 := S.new
  replace HO := HO.apart S (by omega)
  clear S
  refine s_store rfl rfl 47 _ _ rfl g2 0 rfl (.int .i64 0) rfl 47 _ kg2 #[.int .i64 0] rfl (by kernel_rfl) (Nat.le_of_ble_eq_true rfl) (by kernel_rfl) #[.int .i64 0] (by kernel_rfl) ?_
  intro w11 S
  replace kg1 := S.has (by omega) kg1
  replace kg3 := S.has (by omega) kg3
  replace GG := GG.store S bg2
  replace kg2 := S.new
  replace HO := HO.apart S (by omega)
  clear S
  refine wpList_nil (then_n (wp_ret ?_))
  show Leaves Try.prog Try.f25 _ _ [⟨.fn (.func 45) #[.pointer (some ⟨g1, 0, none⟩), .pointer (some ⟨g2, 0, none⟩)], #[]⟩] .returning _
  refine leaves_cons (f := 45) (args := #[.pointer (some ⟨g1, 0, none⟩), .pointer (some ⟨g2, 0, none⟩)]) (by simp) (by simp [go_sem]) ?_
  refine (catch_idle _ _ _).mono ?_
  rintro e u' w'' ⟨rfl, rfl, rfl⟩
  refine ⟨_, results_cc Try.results25 _ _ g1 g2 _ _ 23 47 rfl rfl kg1 kg2 (na48 _) (na38 _), GG, ?_⟩
  simp only [decE, hB, hq, cond_false]
  exact ⟨.iface tb vb, rfl, s1, s2, s3, s4, hbb.symm, HO.mono szw, hk1, hk2⟩
theorem read_any (so : Option Addr) (sc : Nat) (l : List Nat) (w : World) (H : NC w .u8 so sc l) (hl : l.length ≤ 140737488355000) : Calls Try.prog 25 #[.slice so l.length sc] w (ReadP w l) := by
  cases hB : rdB l 0 with
  | error x => exact read_E1 so sc l w H hl x hB
  | ok p =>
    obtain ⟨a, q⟩ := p
    cases hq : decide (((q : Nat) : Int) < ((l.length : Nat) : Int))
    · exact read_OK so sc l w H hl a q hB hq
    · exact read_E2 so sc l w H hl a q hB hq
end Go.Proofs.Ythmcnlmphikicab
