/- The law of a table without room. -/
import Derived.Test.YtkjnefgenffhcaaBZ6
import Derived.Test.YtkjnefgenffhcaaBT7
import Derived.Test.YtkjnefgenffhcaaBLaw11
namespace Go.Proofs.Ytkjnefgenffhcaa
open Classical
open Go.RowKit Go.Maps
/-- What holds in such a region: which ran is told by R. -/
structure WrI (w0 : World) (b : Nat) (L1 L2 : List En) (e0 al stx BB : Nat) (E : Ed) (ptrs : Nat → Value) (R : Nat → Bool) (x : World) : Prop where
  g : GroS [b] w0 x
  t1 : R e0 = false → TM x b L1
  t2 : R e0 = true → TM x b L2
  sx : R stx = true → R e0 = true
  bx : R stx = true → R al = true ∧ ∃ g ao n, ptrs al = .pointer (some ⟨g, 0, none⟩) ∧ BB ≤ g ∧ x.heap[g]? = some (.cells (edA ao n E.mine E.full) 41 (0, 0)) ∧ OutP x BB E.out ao n
theorem upd_ne {R : Nat → Bool} {i j : Nat} (h : i ≠ j) : upd R i j = R j := by
  unfold upd
  have : (j == i) = false := by simpa using Ne.symm h
  rw [this, Bool.false_or]
theorem upd_self (R : Nat → Bool) (i : Nat) : upd R i i = true := by simp [upd]
section
variable {w0 : World} {b : Nat} {L1 L2 : List En} {e0 al stx BB : Nat} {E : Ed} {ptrs : Nat → Value} {R : Nat → Bool} {a x : World}
theorem WrI.gro (h : WrI w0 b L1 L2 e0 al stx BB E ptrs R a) (i : Nat) (h1 : i ≠ e0) (h2 : i ≠ stx) (hi : R i = false) (G : Gro a x) (v : Value) : WrI w0 b L1 L2 e0 al stx BB E (vset ptrs i v) (upd R i) x := by
  refine ⟨h.g.tg G, fun k => (h.t1 (by rwa [upd_ne h1] at k)).gro G, fun k => (h.t2 (by rwa [upd_ne h1] at k)).gro G, fun k => by rw [upd_ne h1]; exact h.sx (by rwa [upd_ne h2] at k), fun k => ?_⟩
  rw [upd_ne h2] at k
  obtain ⟨h3, g, ao, n, p1, p2, p3, p4⟩ := h.bx k
  have hia : i ≠ al := fun e => by rw [e, h3] at hi; cases hi
  refine ⟨by rw [upd_ne hia]; exact h3, g, ao, n, ?_, p2, G.has p3, p4.gro G⟩
  unfold vset
  rw [if_neg (Ne.symm hia)]
  exact p1
theorem WrI.call (h : WrI w0 b L1 L2 e0 al stx BB E ptrs R a) (hi : R e0 = false) (hne : e0 ≠ stx) (HT : TM x b L2) (G : GroS [b] a x) (v : Value) : WrI w0 b L1 L2 e0 al stx BB E (vset ptrs e0 v) (upd R e0) x :=
  ⟨h.g.trans G, fun k => (by rw [upd_self] at k; cases k), fun _ => HT, fun _ => upd_self R e0, fun k => (by rw [upd_ne hne] at k; have := h.sx k; rw [hi] at this; cases this)⟩
theorem WrI.store (h : WrI w0 b L1 L2 e0 al stx BB E ptrs R a) (hne : stx ≠ e0) (hna : stx ≠ al) (ha : R al = true) (hc : R e0 = true) {g n : Nat} {ao : Option Addr} {c : Array Value} (p1 : ptrs al = .pointer (some ⟨g, 0, none⟩)) (p2 : BB ≤ g) (hw : w0.heap.size ≤ g) (kg : a.heap[g]? = some (.cells c 41 (0, 0))) (St : Stored a x g (.cells (edA ao n E.mine E.full) 41 (0, 0))) (HO : OutP a BB E.out ao n) (v : Value) : WrI w0 b L1 L2 e0 al stx BB E (vset ptrs stx v) (upd R stx) x := by
  refine ⟨h.g.st St (.inl hw), fun k => ?_, fun k => ?_, fun _ => by rw [upd_ne hne]; exact hc, fun _ => ⟨by rw [upd_ne hna]; exact ha, g, ao, n, ?_, p2, St.new, HO.st St kg (by decide)⟩⟩
  · rw [upd_ne hne] at k
    exact (h.t1 k).st St ((h.t1 k).nec kg).symm
  · rw [upd_ne hne] at k
    exact (h.t2 k).st St ((h.t2 k).nec kg).symm
  · unfold vset
    rw [if_neg (Ne.symm hna)]
    exact p1
theorem WrI.start (HT : TM w0 b L1) (ptrs : Nat → Value) : WrI w0 b L1 L2 e0 al stx BB E ptrs (fun _ => false) w0 := ⟨GroS.refl _ _, fun _ => HT, fun k => (by cases k), fun k => (by cases k), fun k => (by cases k)⟩
end
theorem run_ext0 {o : Oper} {A : Act} (x : Operand) (i : Nat) (ho : o.op = .extract x i) (u v : Value) (hx : A.eval x = .tuple #[u, v]) (w : World) (hi : i = 0 := by rfl) : (execOp A.eval o).run Try.prog w = .ok (.value u) w := by
  subst hi
  unfold execOp
  simp only [ho, hx]
  rfl
theorem run_ext1 {o : Oper} {A : Act} (x : Operand) (i : Nat) (ho : o.op = .extract x i) (u v : Value) (hx : A.eval x = .tuple #[u, v]) (w : World) (hi : i = 1 := by rfl) : (execOp A.eval o).run Try.prog w = .ok (.value v) w := by
  subst hi
  unfold execOp
  simp only [ho, hx]
  rfl
theorem new1 (w : World) : Calls Try.prog 23 #[.int .i64 1] w (NewP w 1) := by
  have h := new_any 1 w
  rwa [show rmF 1 = 1 from by decide] at h
theorem add_eq (w : World) (t b room : Nat) (L : List En) (kt : w.heap[t]? = some (.cells (tbA room b) 99 (0, 0))) (HT : TM w b L) (x : En) (hx : x.ok) (c : Int) (L2 : List En) (hc : addC room L x = c) (hL : addL room L x = L2) : Calls Try.prog 24 #[.pointer (some ⟨t, 0, none⟩), .agg (enA x)] w (fun e w' => e = .returned (.int .i64 c) ∧ TM w' b L2 ∧ GroS [b] w w') := by
  subst hc hL
  exact add_any w t b room L kt HT x hx
def xF (q : Pa) : En := ⟨q, i1 1, i1 2, 1, 2⟩
theorem xF_ok {q : Pa} (h : q.ok) : (xF q).ok := ⟨h, (show i1 1 < top by decide), (show i1 2 < top by decide), (⟨by decide, by decide⟩ : I64 1), (⟨by decide, by decide⟩ : I64 2)⟩
theorem xF_c (q : Pa) : addC 1 [] (xF q) = 0 := by
  have h : rgt (xF q) = true := by kernel_rfl
  unfold addC
  rw [if_pos h]
  rfl
theorem xF_l (q : Pa) : addL 1 [] (xF q) = [xF q] := by unfold addL; rw [if_pos (xF_c q)]; rfl
/-- A table of one that is full. -/
theorem full_c {p q : Pa} (hn : p ≠ q) {x : En} (hx : x.p = p) (hr : rgt x = true) : addC 1 [xF q] x = 5 := by
  have hh : hasL [xF q] x.p = false := by
    rw [Bool.eq_false_iff]
    intro h
    obtain ⟨y, hy, e⟩ := hasL_iff.1 h
    rw [List.mem_singleton] at hy
    subst hy
    exact hn (hx.symm.trans e.symm)
  unfold addC
  rw [if_pos hr, hh]
  rfl
theorem take2 {way : List Int} (h2 : 2 ≤ way.length) : way.take 2 = [way.getD 0 0, way.getD 1 0] := by
  match way, h2 with
  | x :: y :: r, _ => rfl
theorem rgt_lo {p : Pa} {n : Int} (h1 : 1 ≤ n) (h5 : n ≤ 5) {a b : Int} (hab : (a = -1 ∧ b = n) ∨ (a = 0 ∧ b = -1)) : rgt ⟨p, i1 1, i1 2, a, b⟩ = true := by
  rcases hab with ⟨ha, hb⟩ | ⟨ha, hb⟩
  · have h : b = 1 ∨ b = 2 ∨ b = 3 ∨ b = 4 ∨ b = 5 := by omega
    clear hb
    subst ha
    rcases h with rfl | rfl | rfl | rfl | rfl <;> (show rgt ⟨p, i1 1, i1 2, _, _⟩ = true; exact rfl)
  · subst ha hb
    kernel_rfl
def o6 : List Bool := [true, true, true, true, true, true]
section
variable {p q : Pa} {way : List Int}
theorem full_ok (h2 : 2 ≤ way.length) (h0 : way.getD 0 0 = 0) (h1 : 1 ≤ way.getD 1 0) (h5 : way.getD 1 0 ≤ 5) : lead 0 (way.take 2) = true ∧ isO o6 ((way.take 2).getD 1 0) = true := by
  rw [take2 h2, h0]
  have h : way.getD 1 0 = 1 ∨ way.getD 1 0 = 2 ∨ way.getD 1 0 = 3 ∨ way.getD 1 0 = 4 ∨ way.getD 1 0 = 5 := by omega
  rcases h with e | e | e | e | e <;> rw [e] <;> exact ⟨by decide, by decide⟩
theorem full_st (hn : p ≠ q) (h2 : 2 ≤ way.length) (h0 : way.getD 0 0 = 0) (h1 : 1 ≤ way.getD 1 0) (h5 : way.getD 1 0 ≤ 5) : stE 1 [xF q] 0 (i1 1) p (i1 2) (way.take 2) o6 = ⟨none, false, true⟩ ∧ stC 1 [xF q] 0 (i1 1) p (i1 2) (way.take 2) o6 = 5 ∧ stL 1 [xF q] 0 (i1 1) p (i1 2) (way.take 2) o6 = [xF q] := by
  obtain ⟨hl, ho⟩ := full_ok h2 h0 h1 h5
  have hw : (way.take 2).getD 1 0 = way.getD 1 0 := by rw [take2 h2]; rfl
  have hc : addC 1 [xF q] (xS (i1 1) p (i1 2) (way.take 2)) = 5 := full_c hn rfl (by unfold xS; rw [hw]; exact rgt_lo h1 h5 (.inl ⟨rfl, rfl⟩))
  have hst := st_full (room := 1) (L := [xF q]) (p := p) (o := o6) (N := 0) (b := i1 2) (ID := i1 1) ⟨hl, by decide⟩ ho (by rw [hc]; decide)
  rw [hc] at hst
  exact ⟨hst.1, hst.2.1, hst.2.2.trans (addL_no hc (by decide))⟩
theorem full_tk (hn : p ≠ q) (h2 : 2 ≤ way.length) (h0 : way.getD 0 0 = 0) (h1 : 1 ≤ way.getD 1 0) (h5 : way.getD 1 0 ≤ 5) : tkE 1 [xF q] (way.getD 1 0) (i1 2) 0 (mSet p (i1 1) (i1 2) (way.take 2)) o6 = edNo p 0 true ∧ tkL 1 [xF q] (way.getD 1 0) (i1 2) 0 (mSet p (i1 1) (i1 2) (way.take 2)) o6 = [xF q] := by
  have hc : addC 1 [xF q] (xT 0 (mSet p (i1 1) (i1 2) (way.take 2)) (-1)) = 5 := full_c hn rfl (rgt_lo h1 h5 (.inr ⟨rfl, rfl⟩))
  have hq : plc (way.take 2) (way.getD 1 0) = ((1 : Nat) : Int) := by
    rw [take2 h2]
    refine plc_at (show 1 < 2 by decide) rfl fun i hi e => ?_
    have : i = 0 := by omega
    subst this
    have e' : way.getD 0 0 = way.getD 1 0 := e
    omega
  have hnd : (way.take 2).Nodup := by
    rw [take2 h2]
    refine List.nodup_cons.2 ⟨?_, List.nodup_cons.2 ⟨by simp, List.nodup_nil⟩⟩
    rw [List.mem_singleton]
    omega
  have hf := tk_for (M := mSet p (i1 1) (i1 2) (way.take 2)) (N := way.getD 1 0) (fr := 0) rfl hnd hq (Nat.le_refl _) (by show (way.take 2).getD 0 0 = 0; rw [take2 h2]; exact h0)
  have hen := tk_end (room := 1) (L := [xF q]) (ID := i1 2) (o := o6) hf hq (by show ¬ 1 + 1 < (way.take 2).length; rw [List.length_take]; omega)
  have e1 := enE_full (room := 1) (L := [xF q]) (fr := 0) (M := mSet p (i1 1) (i1 2) (way.take 2)) (ID := i1 2) rfl (by rw [hc]; decide)
  have e2 := enL_yes (room := 1) (L := [xF q]) (fr := 0) (M := mSet p (i1 1) (i1 2) (way.take 2)) (ID := i1 2) rfl
  rw [hc] at e1
  exact ⟨hen.1.trans e1, (hen.2.trans e2).trans (addL_no hc (by decide))⟩
end
set_option maxRecDepth 100000 in
set_option maxHeartbeats 4000000 in
theorem setupFull_any (w : World) (p q : Pa) (hp : p.ok) (hq : q.ok) (ao : Option Addr) (cap : Nat) (way : List Int) (HI : RC w ao cap way) : Calls Try.prog 7 #[.agg (paA p), .agg (paA q), .slice ao way.length cap] w (fun e w' => e = .returned (.bool true) ∧ Gro w w') := by
  refine s_enter Try.func7 rfl Try.ntmps7 [.agg (paA p), .agg (paA q), .slice ao way.length cap] [.agg (paA p), .agg (paA q), .slice ao way.length cap, undef, undef, undef, undef, undef, undef, undef, undef, undef, undef, undef, undef, undef, undef, undef, undef, undef, undef, undef, undef, undef, undef, undef, undef, undef, undef, undef, undef, undef, undef, undef, undef, undef, undef, undef, undef, undef, undef, undef, undef, undef, undef, undef, undef, undef, undef, undef, undef, undef, undef, undef, undef, undef, undef, undef, undef, undef, undef, undef, undef, undef, undef, undef, undef, undef, undef, undef, undef, undef, undef, undef, undef, undef, undef, undef, undef, undef, undef, undef, undef, undef, undef, undef, undef, undef, undef, undef, undef, undef, undef, undef, undef, undef, undef, undef, undef, undef, undef, undef, undef, undef, undef, undef, undef, undef, undef, undef, undef, undef, undef, undef, undef, undef, undef, undef, undef] rfl ?_
  have GG := Gro.refl w
  refine wp_seq ?_
  refine wp_region_lit ?_
  refine s_box 3 rfl rfl 31 _ rfl _ rfl (paA p) rfl ?_
  intro w1 g1 G eg1 kg1
  have bg1 := size_base GG eg1
  have dHIg1 := HI.ne eg1
  replace HI := HI.gro G
  replace GG := GG.trans G
  clear G
  clear eg1
  refine nr ?_; intro U h; simp only [z0, z1] at h; subst h
  refine s_box 4 rfl rfl 31 _ rfl _ rfl (paA q) rfl ?_
  intro w2 g2 G eg2 kg2
  have bg2 := size_base GG eg2
  have dg1g2 := lt_new kg1 eg2
  have dHIg2 := HI.ne eg2
  replace kg1 := G.has kg1
  replace HI := HI.gro G
  replace GG := GG.trans G
  clear G
  clear eg2
  refine nr ?_; intro U h; simp only [z0, z1] at h; subst h
  refine s_val 6 rfl rfl (.bool false) (rfl) ?_
  refine nr ?_; intro U h; simp only [z0, z1] at h; subst h
  refine wpList_nil ?_
  refine then_n ?_
  refine wp_seq ?_
  refine wp_seq ?_
  refine wp_region_opq ?_
  intro OPS hY
  have y3 := hY 3 15 rfl
  have y8 := hY 8 20 rfl
  have y14 := hY 14 26 rfl
  have y20 := hY 20 32 rfl
  have y26 := hY 26 38 rfl
  clear hY
  refine s_val 12 rfl rfl (.agg (paA p)) (ldP0 _ rfl g1 rfl (kg1)) ?_
  refine nr ?_; intro U h; simp only [z0, z1] at h; subst h
  refine s_val 13 rfl rfl (.agg (paA q)) (ldP0 _ rfl g2 rfl (kg2)) ?_
  refine nr ?_; intro U h; simp only [z0, z1] at h; subst h
  cases hpq : decide (p = q)
  · refine s_val 14 rfl rfl (.bool false) (run_eqP _ _ _ rfl _ _ rfl rfl hp hq false hpq) ?_
    refine nr ?_; intro U h; simp only [z0, z1] at h; subst h
    refine s_val 15 rfl rfl (.bool false) (rfl) ?_
    refine nr ?_; intro U h; simp only [z0, z1] at h; subst h
    refine s_gvalY 16 rfl rfl y3 rfl (.slice ao way.length cap) (rfl) ?_
    refine nr ?_; intro U h; simp only [z0, z1] at h; subst h
    refine s_gvalY 17 rfl rfl y3 rfl (.int .i64 ((way.length : Nat) : Int)) (run_len Try.underlying32 _ rfl _ _ _ rfl _) ?_
    refine nr ?_; intro U h; simp only [z0, z1] at h; subst h
    cases h2 : decide (((way.length : Nat) : Int) < 2)
    · have h2b : 2 ≤ way.length := by have := of_decide_eq_false h2; omega
      refine s_gvalY 18 rfl rfl y3 rfl (.bool false) (run_lssT 3 _ _ _ rfl ((way.length : Nat) : Int) 2 rfl rfl false h2 _) ?_
      refine nr ?_; intro U h; simp only [z0, z1] at h; subst h
      refine s_val 19 rfl rfl (.bool false) (rfl) ?_
      refine nr ?_; intro U h; simp only [z0, z1] at h; subst h
      refine s_val 20 rfl rfl (.bool false) (rfl) ?_
      refine nr ?_; intro U h; simp only [z0, z1] at h; subst h
      refine s_gvalY 21 rfl rfl y8 rfl (.slice ao way.length cap) (rfl) ?_
      refine nr ?_; intro U h; simp only [z0, z1] at h; subst h
      refine s_gvalY 22 rfl rfl y8 rfl (.pointer (pA ao 0)) (run_ixI (HI) _ _ rfl rfl 0 rfl (by omega)) ?_
      refine nr ?_; intro U h; simp only [z0, z1] at h; subst h
      refine s_gvalY 23 rfl rfl y8 rfl (.int .i64 (way.getD 0 0)) (run_ldI (HI) _ rfl 0 rfl (by omega)) ?_
      refine nr ?_; intro U h; simp only [z0, z1] at h; subst h
      cases h0 : decide (way.getD 0 0 = 0)
      · refine s_gvalY 24 rfl rfl y8 rfl (.bool true) (run_neq_k 3 .i64 _ _ _ rfl Try.underlying3 (way.getD 0 0) 0 rfl rfl true h0 _) ?_
        refine nr ?_; intro U h; simp only [z0, z1] at h; subst h
        refine s_val 25 rfl rfl (.bool true) (rfl) ?_
        refine nr ?_; intro U h; simp only [z0, z1] at h; subst h
        refine s_val 26 rfl rfl (.bool true) (rfl) ?_
        refine nr ?_; intro U h; simp only [z0, z1] at h; subst h
        refine s_skipY 27 rfl rfl y14 rfl ?_
        refine nr ?_; intro U h; simp only [z0, z1] at h; subst h
        refine s_skipY 28 rfl rfl y14 rfl ?_
        refine nr ?_; intro U h; simp only [z0, z1] at h; subst h
        refine s_skipY 29 rfl rfl y14 rfl ?_
        refine nr ?_; intro U h; simp only [z0, z1] at h; subst h
        refine s_skipY 30 rfl rfl y14 rfl ?_
        refine nr ?_; intro U h; simp only [z0, z1] at h; subst h
        refine s_val 31 rfl rfl (.bool true) (rfl) ?_
        refine nr ?_; intro U h; simp only [z0, z1] at h; subst h
        refine s_val 32 rfl rfl (.bool true) (rfl) ?_
        refine nr ?_; intro U h; simp only [z0, z1] at h; subst h
        refine s_skipY 33 rfl rfl y20 rfl ?_
        refine nr ?_; intro U h; simp only [z0, z1] at h; subst h
        refine s_skipY 34 rfl rfl y20 rfl ?_
        refine nr ?_; intro U h; simp only [z0, z1] at h; subst h
        refine s_skipY 35 rfl rfl y20 rfl ?_
        refine nr ?_; intro U h; simp only [z0, z1] at h; subst h
        refine s_skipY 36 rfl rfl y20 rfl ?_
        refine nr ?_; intro U h; simp only [z0, z1] at h; subst h
        refine s_val 37 rfl rfl (.bool true) (rfl) ?_
        refine nr ?_; intro U h; simp only [z0, z1] at h; subst h
        refine s_val 38 rfl rfl (.bool true) (rfl) ?_
        refine nr ?_; intro U h; simp only [z0, z1] at h; subst h
        refine s_skipY 39 rfl rfl y26 rfl ?_
        refine nr ?_; intro U h; simp only [z0, z1] at h; subst h
        refine s_skipY 40 rfl rfl y26 rfl ?_
        refine nr ?_; intro U h; simp only [z0, z1] at h; subst h
        refine s_val 41 rfl rfl (.bool true) (rfl) ?_
        refine nr ?_; intro U h; simp only [z0, z1] at h; subst h
        refine wpList_nil ?_
        refine then_n ?_
        refine wp_cond_true rfl ?_
        refine wp_seq ?_
        refine wp_region_lit ?_
        refine s_callv 42 rfl rfl _ 11 Try.call11 rfl rfl _ rfl [] rfl (fixed_any _) ?_
        intro w3 G
        replace kg1 := G.has kg1
        replace kg2 := G.has kg2
        replace HI := HI.gro G
        replace GG := GG.trans G
        clear G
        refine nr ?_; intro U h; simp only [z0, z1] at h; subst h
        refine s_val 6 rfl rfl (.bool true) (rfl) ?_
        refine nr ?_; intro U h; simp only [z0, z1] at h; subst h
        refine wpList_nil ?_
        refine then_n ?_
        refine wp_ret ?_
        refine then_r ?_
        refine bodyPost_ret (results_tmp Try.results7 _ _ _) rfl ?_
        exact ⟨rfl, GG⟩
      · have h0b := of_decide_eq_true h0
        refine s_gvalY 24 rfl rfl y8 rfl (.bool false) (run_neq_k 3 .i64 _ _ _ rfl Try.underlying3 (way.getD 0 0) 0 rfl rfl false h0 _) ?_
        refine nr ?_; intro U h; simp only [z0, z1] at h; subst h
        refine s_val 25 rfl rfl (.bool false) (rfl) ?_
        refine nr ?_; intro U h; simp only [z0, z1] at h; subst h
        refine s_val 26 rfl rfl (.bool false) (rfl) ?_
        refine nr ?_; intro U h; simp only [z0, z1] at h; subst h
        refine s_gvalY 27 rfl rfl y14 rfl (.slice ao way.length cap) (rfl) ?_
        refine nr ?_; intro U h; simp only [z0, z1] at h; subst h
        refine s_gvalY 28 rfl rfl y14 rfl (.pointer (pA ao 1)) (run_ixI (HI) _ _ rfl rfl 1 rfl (by omega)) ?_
        refine nr ?_; intro U h; simp only [z0, z1] at h; subst h
        refine s_gvalY 29 rfl rfl y14 rfl (.int .i64 (way.getD 1 0)) (run_ldI (HI) _ rfl 1 rfl (by omega)) ?_
        refine nr ?_; intro U h; simp only [z0, z1] at h; subst h
        cases h1 : decide ((way.getD 1 0) < 1)
        · have h1b : 1 ≤ (way.getD 1 0) := by have := of_decide_eq_false h1; omega
          refine s_gvalY 30 rfl rfl y14 rfl (.bool false) (run_lssT 3 _ _ _ rfl (way.getD 1 0) 1 rfl rfl false h1 _) ?_
          refine nr ?_; intro U h; simp only [z0, z1] at h; subst h
          refine s_val 31 rfl rfl (.bool false) (rfl) ?_
          refine nr ?_; intro U h; simp only [z0, z1] at h; subst h
          refine s_val 32 rfl rfl (.bool false) (rfl) ?_
          refine nr ?_; intro U h; simp only [z0, z1] at h; subst h
          refine s_gvalY 33 rfl rfl y20 rfl (.slice ao way.length cap) (rfl) ?_
          refine nr ?_; intro U h; simp only [z0, z1] at h; subst h
          refine s_gvalY 34 rfl rfl y20 rfl (.pointer (pA ao 1)) (run_ixI (HI) _ _ rfl rfl 1 rfl (by omega)) ?_
          refine nr ?_; intro U h; simp only [z0, z1] at h; subst h
          refine s_gvalY 35 rfl rfl y20 rfl (.int .i64 (way.getD 1 0)) (run_ldI (HI) _ rfl 1 rfl (by omega)) ?_
          refine nr ?_; intro U h; simp only [z0, z1] at h; subst h
          cases h5 : decide ((5 : Int) < (way.getD 1 0))
          · have h5b : (way.getD 1 0) ≤ 5 := by have := of_decide_eq_false h5; omega
            refine s_gvalY 36 rfl rfl y20 rfl (.bool false) (run_gtrT 3 _ _ _ rfl (way.getD 1 0) 5 rfl rfl false h5 _) ?_
            refine nr ?_; intro U h; simp only [z0, z1] at h; subst h
            refine s_val 37 rfl rfl (.bool false) (rfl) ?_
            refine nr ?_; intro U h; simp only [z0, z1] at h; subst h
            refine s_val 38 rfl rfl (.bool false) (rfl) ?_
            refine nr ?_; intro U h; simp only [z0, z1] at h; subst h
            refine s_gcallvY 39 rfl rfl y26 rfl _ 11 Try.call11 rfl rfl _ rfl [] rfl (fixed_any _) ?_
            intro w3 G
            replace kg1 := G.has kg1
            replace kg2 := G.has kg2
            replace HI := HI.gro G
            replace GG := GG.trans G
            clear G
            refine nr ?_; intro U h; simp only [z0, z1] at h; subst h
            refine s_gvalY 40 rfl rfl y26 rfl (.bool false) (run_nt _ _ rfl true rfl) ?_
            refine nr ?_; intro U h; simp only [z0, z1] at h; subst h
            refine s_val 41 rfl rfl (.bool false) (rfl) ?_
            refine nr ?_; intro U h; simp only [z0, z1] at h; subst h
            refine wpList_nil ?_
            refine then_n ?_
            refine wp_cond_false rfl ?_
            refine wp_skip ?_
            refine then_n ?_
            refine wp_seq ?_
            refine wp_region_lit ?_
            refine s_bsl 43 rfl rfl 27 6 _ rfl [(0, .bool true), (1, .bool true), (2, .bool true), (3, .bool true), (4, .bool true), (5, .bool true)] rfl (([true, true, true, true, true, true] : List Bool).flatMap kB.E).toArray 4 (by kernel_rfl) ?_
            intro w4 q1 G eq1 kq1
            have dHB1g1 := ne_blk (n := (([true, true, true, true, true, true] : List Bool).flatMap kB.E).length) (lt_new kg1 eq1)
            have dHB1g2 := ne_blk (n := (([true, true, true, true, true, true] : List Bool).flatMap kB.E).length) (lt_new kg2 eq1)
            replace kg1 := G.has kg1
            replace kg2 := G.has kg2
            replace HI := HI.gro G
            replace GG := GG.trans G
            clear G
            have HB1 : RK kB _ (some ⟨q1, 0, none⟩) 6 [true, true, true, true, true, true] := RK.blk kq1 (fun _ _ => trivial) (Nat.le_refl _)
            clear eq1 kq1
            refine nr ?_; intro U h; simp only [z0, z1] at h; subst h
            refine s_val 7 rfl rfl (.slice (some ⟨q1, 0, none⟩) 6 6) (rfl) ?_
            refine nr ?_; intro U h; simp only [z0, z1] at h; subst h
            refine wpList_nil ?_
            refine then_n ?_
            refine wp_seq ?_
            refine wp_region_lit ?_
            refine s_callx 44 rfl rfl _ 23 Try.call23 rfl rfl _ rfl [.int .i64 1] rfl (new1 _) (by rintro _ _ ⟨_, _, he, _⟩; exact ⟨_, he⟩) ?_
            rintro v w5 ⟨t, b, he, G, kt, HTt, h1t, h2t⟩
            cases he
            have bt := Nat.le_trans GG.size h1t
            have bb := Nat.le_trans GG.size h2t
            clear h1t h2t
            replace kg1 := G.has kg1
            replace kg2 := G.has kg2
            replace HI := HI.gro G
            replace HB1 := HB1.gro G
            replace GG := GG.trans G
            clear G
            refine nr ?_; intro U h; simp only [z0, z1] at h; subst h
            refine s_val 8 rfl rfl (.pointer (some ⟨t, 0, none⟩)) (rfl) ?_
            refine nr ?_; intro U h; simp only [z0, z1] at h; subst h
            refine wpList_nil ?_
            refine then_n ?_
            refine wp_seq ?_
            refine wp_seq ?_
            refine wp_region_lit ?_
            refine s_val 45 rfl rfl (.pointer (some ⟨t, 0, none⟩)) (rfl) ?_
            refine nr ?_; intro U h; simp only [z0, z1] at h; subst h
            refine s_val 46 rfl rfl (.agg (paA q)) (ldP0 _ rfl g2 rfl (kg2)) ?_
            refine nr ?_; intro U h; simp only [z0, z1] at h; subst h
            refine s_val 47 rfl rfl (.agg (idA (i1 1))) (run_bd 24 _ rfl [(0, .int .u8 1)] rfl _ (by kernel_rfl)) ?_
            refine nr ?_; intro U h; simp only [z0, z1] at h; subst h
            refine s_val 48 rfl rfl (.agg (idA (i1 2))) (run_bd 24 _ rfl [(0, .int .u8 2)] rfl _ (by kernel_rfl)) ?_
            refine nr ?_; intro U h; simp only [z0, z1] at h; subst h
            refine s_val 49 rfl rfl (.agg (enA (xF q))) (run_bd 73 _ rfl [(0, .agg (paA q)), (1, .agg (idA (i1 1))), (2, .agg (idA (i1 2))), (3, .int .i64 1), (4, .int .i64 2)] rfl _ (bdE5 _ _ _ _ _ _)) ?_
            refine nr ?_; intro U h; simp only [z0, z1] at h; subst h
            refine s_callx 50 rfl rfl _ 24 Try.call24 rfl rfl _ rfl [.pointer (some ⟨t, 0, none⟩), .agg (enA (xF q))] rfl (add_eq _ t b 1 [] kt HTt (xF q) (xF_ok hq) 0 [xF q] (xF_c q) (xF_l q)) (by rintro _ _ ⟨he, _⟩; exact ⟨_, he⟩) ?_
            rintro v w6 ⟨he, HT2, G2⟩
            cases he
            replace kg1 := G2.has kg1 (by simpa using HTt.nec kg1)
            replace kg2 := G2.has kg2 (by simpa using HTt.nec kg2)
            replace kt := G2.has kt (by simpa using HTt.nec kt)
            replace HI := HI.mapw HTt G2
            replace HB1 := HB1.mapw HTt G2
            replace GG := G2.gro GG (by simpa using bb)
            clear HTt G2
            have HTt := HT2
            clear HT2
            refine nr ?_; intro U h; simp only [z0, z1] at h; subst h
            refine s_val 51 rfl rfl (.bool false) (run_neq_k 42 .i64 _ _ _ rfl Try.underlying42 0 0 rfl rfl false (by decide) _) ?_
            refine nr ?_; intro U h; simp only [z0, z1] at h; subst h
            refine wpList_nil ?_
            refine then_n ?_
            refine wp_cond_false rfl ?_
            refine wp_skip ?_
            refine then_n ?_
            refine wp_seq ?_
            have hst := full_st (p := p) (q := q) (of_decide_eq_false hpq) h2b h0b h1b h5b
            have htk := full_tk (p := p) (q := q) (of_decide_eq_false hpq) h2b h0b h1b h5b
            have hI2 : ∀ x ∈ way.take 2, I64t x := fun x hx => HI.all x (List.mem_of_mem_take hx)
            have hl2 : (way.take 2).length ≤ 17592186044416 := by rw [List.length_take]; omega
            have mok : (mSet p (i1 1) (i1 2) (way.take 2)).ok := ⟨hp, (show i1 1 < top by decide), (show i1 2 < top by decide)⟩
            obtain ⟨BB, hBB⟩ : ∃ B, w6.heap.size = B := ⟨_, rfl⟩
            refine wp_region_pi (A := ?Ax1) (WrI w6.drew b [xF q] [xF q] 8 12 13 BB ⟨none, false, true⟩) 14 [(0, 53), (1, 54), (2, 55), (3, 56), (4, 57), (5, 58), (6, 59), (7, 60), (8, 61), (9, 52), (10, 62), (11, 63), (12, 9)] [.val (.pointer (some ⟨t, 0, none⟩)), .val (.agg (idA (i1 1))), .val (.agg (seA 0 (i1 1))), .val (.agg (paA p)), .val (.agg (idA (i1 2))), .val (.slice ao way.length cap), .val (.slice ao (way.take 2).length cap), .val (.slice (some ⟨q1, 0, none⟩) 6 6), outC BB ⟨none, false, true⟩ 5, outC BB ⟨none, false, true⟩ 5, outZ BB ⟨none, false, true⟩, .val (.int .i64 5), boxZ BB 41 (edA none 0 false false), .val undef] [(13, 12)] [] follows (by kernel_rfl) rfl (by kernel_rfl) (by decide) (WrI.start (HTt.gro (Gro.refl _).drew)) ?hAx1 (opsI_g (fun _ _ _ _ v h hi g => h.gro 0 (by decide) (by decide) hi g v) ?o0x1 (opsI_g (fun _ _ _ _ v h hi g => h.gro 1 (by decide) (by decide) hi g v) ?o1x1 (opsI_g (fun _ _ _ _ v h hi g => h.gro 2 (by decide) (by decide) hi g v) ?o2x1 (opsI_g (fun _ _ _ _ v h hi g => h.gro 3 (by decide) (by decide) hi g v) ?o3x1 (opsI_g (fun _ _ _ _ v h hi g => h.gro 4 (by decide) (by decide) hi g v) ?o4x1 (opsI_g (fun _ _ _ _ v h hi g => h.gro 5 (by decide) (by decide) hi g v) ?o5x1 (opsI_g (fun _ _ _ _ v h hi g => h.gro 6 (by decide) (by decide) hi g v) ?o6x1 (opsI_g (fun _ _ _ _ v h hi g => h.gro 7 (by decide) (by decide) hi g v) ?o7x1 (opsI_w ?o8x1 (opsI_g (fun _ _ _ _ v h hi g => h.gro 9 (by decide) (by decide) hi g v) ?o9x1 (opsI_g (fun _ _ _ _ v h hi g => h.gro 10 (by decide) (by decide) hi g v) ?o10x1 (opsI_g (fun _ _ _ _ v h hi g => h.gro 11 (by decide) (by decide) hi g v) ?o11x1 (opsI_g (fun _ _ _ _ v h hi g => h.gro 12 (by decide) (by decide) hi g v) ?o12x1 (opsI_w ?o13x1 opsI_nil)))))))))))))) ?restx1
            case hAx1 =>
              intro ptrs
              simp only [full, foldSlots, filledE, postE, List.foldl_cons, List.foldl_nil, List.getD_cons_zero, List.getD_cons_succ, fill_val, fill_outC, fill_outZ, fill_boxZ, List.set_cons_zero, List.set_cons_succ]
              exact rfl
            case o0x1 => exact fun _ _ _ _ _ _ _ _ => opE_move (v := .pointer (some ⟨t, 0, none⟩)) _ rfl rfl rfl
            case o1x1 => exact fun _ _ _ _ _ _ _ _ => opE_value (v := .agg (idA (i1 1))) rfl (run_bd 24 _ rfl [(0, .int .u8 1)] rfl _ (by kernel_rfl))
            case o2x1 => exact fun _ _ _ _ _ _ _ _ => opE_value (v := .agg (seA 0 (i1 1))) rfl (run_bd 26 _ rfl [(0, .int .i64 0), (1, .agg (idA (i1 1)))] rfl _ (bdS2 _ _ _))
            case o3x1 => exact fun _ _ _ hw _ _ _ _ => opE_value (v := .agg (paA p)) rfl (ldP0 _ rfl g1 rfl (hw.g.has kg1 (by simpa using HTt.nec kg1)))
            case o4x1 => exact fun _ _ _ _ _ _ _ _ => opE_value (v := .agg (idA (i1 2))) rfl (run_bd 24 _ rfl [(0, .int .u8 2)] rfl _ (by kernel_rfl))
            case o5x1 => exact fun _ _ _ _ _ _ _ _ => opE_move (v := .slice ao way.length cap) _ rfl rfl rfl
            case o6x1 => exact fun _ _ _ hw _ _ _ _ => opE_value (v := .slice ao (way.take 2).length cap) rfl (run_takeI ((HI.gro (Gro.refl _).drew).mapw (HTt.gro (Gro.refl _).drew) hw.g) _ _ rfl 2 rfl rfl (by omega))
            case o7x1 => exact fun _ _ _ _ _ _ _ _ => opE_move (v := .slice (some ⟨q1, 0, none⟩) 6 6) _ rfl rfl rfl
            case o8x1 =>
              intro R9 ptrs x hw hi _ _ _
              have HT9 := hw.t1 hi
              refine opX_call (outC BB ⟨none, false, true⟩ 5) rfl _ 9 Try.call9 rfl rfl _ rfl [.pointer (some ⟨t, 0, none⟩), .agg (seA 0 (i1 1)), .agg (paA p), .agg (idA (i1 2)), .slice ao (way.take 2).length cap, .slice (some ⟨q1, 0, none⟩) 6 6] rfl ((start_eq _ t b 1 [xF q] (hw.g.has kt (by simpa using HTt.nec kt)) HT9 0 (i1 1) (by decide) p hp (i1 2) (by decide) ao cap (way.take 2) (((HI.gro (Gro.refl _).drew).mapw (HTt.gro (Gro.refl _).drew) hw.g).take 2 h2b) (some ⟨q1, 0, none⟩) 6 o6 ((HB1.gro (Gro.refl _).drew).mapw (HTt.gro (Gro.refl _).drew) hw.g) ⟨none, false, true⟩ 5 [xF q] hst.1 hst.2.1 hst.2.2).mono ?_)
              rintro e w' ⟨ao, n, he, HO, HT2, G2⟩
              refine ⟨_, he, ⟨fun v => hw.call hi (by decide) HT2 G2 v, StM.valsX [0, 1, 2, 3, 4, 5, 6, 7, 11] [12] (by kernel_rfl) ⟨⟨_, rfl⟩, ⟨_, rfl⟩, ⟨_, rfl⟩, ⟨_, rfl⟩, ⟨_, rfl⟩, ⟨_, rfl⟩, ⟨_, rfl⟩, ⟨_, rfl⟩, ⟨_, rfl⟩, trivial⟩ (fun j hj v hp => ?_)⟩, ao, n, rfl, HO.mono (Nat.le_trans (Nat.le_of_eq hBB.symm) hw.g.size)⟩
              rw [List.mem_singleton] at hj
              subst hj
              obtain ⟨g, h1, h2, h3⟩ := hp
              exact ⟨g, h1, h2, G2.has h3 (by simpa using HT9.nec h3)⟩
            case o9x1 =>
              intro R9 ptrs x hw _ _ _ hE
              obtain ⟨⟨ao, n, h9, o9⟩, _⟩ := hE
              exact opE_new (outC BB ⟨none, false, true⟩ 5) rfl (v := ptrs 8) rfl (Gro.refl _) ⟨ao, n, h9, o9⟩
            case o10x1 =>
              intro R9 ptrs x hw _ _ _ hE
              obtain ⟨⟨ao, n, h9, o9⟩, _⟩ := hE
              exact opE_new (outZ BB ⟨none, false, true⟩) rfl (run_ext0 _ _ rfl _ _ (by exact h9) _) (Gro.refl _) ⟨ao, n, rfl, o9⟩
            case o11x1 =>
              intro R9 ptrs x hw _ _ _ hE
              obtain ⟨⟨ao, n, h9, o9⟩, _⟩ := hE
              exact opE_value (v := .int .i64 5) rfl (run_ext1 _ _ rfl _ _ (by exact h9) _)
            case o12x1 => exact fun _ _ x hw _ _ _ _ => opE_new (boxZ BB 41 (edA none 0 false false)) rfl (run_alloc_op 41 rfl _ zvD) (gro_alloc _ _) ⟨_, rfl, Nat.le_trans (Nat.le_of_eq hBB.symm) hw.g.size, heap_alloc_new _ _⟩
            case o13x1 =>
              intro R9 ptrs x hw _ he _ hE
              obtain ⟨⟨gq, pq, bq, kq⟩, ⟨ao, n, hv, HO9⟩, _, _, _, _, _, _⟩ := hE
              refine opX_store (.val undef) rfl 41 _ _ rfl gq 0 pq (.agg (edA ao n (⟨none, false, true⟩ : Ed).mine (⟨none, false, true⟩ : Ed).full)) hv 41 _ kq (edA ao n (⟨none, false, true⟩ : Ed).mine (⟨none, false, true⟩ : Ed).full) rfl (siD' _ _ _ _) (Nat.le_refl 3) (oneD _ _ _ _) (edA ao n (⟨none, false, true⟩ : Ed).mine (⟨none, false, true⟩ : Ed).full) (splice_whole _ _ rfl) ?_
              intro w' St
              refine ⟨⟨fun v => hw.store (by decide) (by decide) (he 12 (by kernel_rfl)) (he 8 (by kernel_rfl)) pq bq (Nat.le_trans (Nat.le_of_eq hBB) bq) kq St HO9 v, StM.valsX [0, 1, 2, 3, 4, 5, 6, 7, 11] [8, 9, 10] (by kernel_rfl) ⟨⟨_, rfl⟩, ⟨_, rfl⟩, ⟨_, rfl⟩, ⟨_, rfl⟩, ⟨_, rfl⟩, ⟨_, rfl⟩, ⟨_, rfl⟩, ⟨_, rfl⟩, ⟨_, rfl⟩, trivial⟩ (fun j hj v hp => ?_)⟩, rfl⟩
              simp only [List.mem_cons, List.not_mem_nil, or_false] at hj
              rcases hj with rfl | rfl | rfl <;> (obtain ⟨ao3, n3, h3, HO3⟩ := hp; exact ⟨ao3, n3, h3, HO3.st St kq (by decide)⟩)
            intro ptrs w7 hI hxE
            simp only [List.drop_succ_cons, List.drop_zero]
            obtain ⟨_, gX, ao4, n4, hx2, bgX, kgX, HO4⟩ := hI.bx rfl
            simp only [hx2]
            clear hx2 hxE
            have HT2 := hI.t2 rfl
            have G2 := hI.g
            clear hI
            obtain ⟨rfl, rfl⟩ := HO4
            have dg1gX : g1 < gX := Nat.lt_of_lt_of_le (hBB ▸ lt_of_heap kg1) bgX
            have dg2gX : g2 < gX := Nat.lt_of_lt_of_le (hBB ▸ lt_of_heap kg2) bgX
            have dtgX : t < gX := Nat.lt_of_lt_of_le (hBB ▸ lt_of_heap kt) bgX
            have dHIgX := HI.neG (g := gX) (Nat.le_trans (Nat.le_of_eq hBB) bgX)
            have dHB1gX := HB1.neG (g := gX) (Nat.le_trans (Nat.le_of_eq hBB) bgX)
            have dHTtgX := HTt.neG (g := gX) (Nat.le_trans (Nat.le_of_eq hBB) bgX)
            replace bgX := Nat.le_trans (Nat.le_trans GG.size (Nat.le_of_eq hBB)) bgX
            clear hBB
            replace kg1 := G2.has kg1 (by simpa using HTt.nec kg1)
            replace kg2 := G2.has kg2 (by simpa using HTt.nec kg2)
            replace kt := G2.has kt (by simpa using HTt.nec kt)
            replace HI := (HI.gro (Gro.refl _).drew).mapw (HTt.gro (Gro.refl _).drew) G2
            replace HB1 := (HB1.gro (Gro.refl _).drew).mapw (HTt.gro (Gro.refl _).drew) G2
            replace GG := G2.gro GG.drew (by simpa using bb)
            clear HTt G2
            have HTt := HT2
            clear HT2
            refine s_val 10 rfl rfl (.int .i64 5) (rfl) ?_
            refine nr ?_; intro U h; simp only [z0, z1] at h; subst h
            refine wpList_nil ?_
            refine then_n ?_
            refine wp_seq ?_
            obtain ⟨BB, hBB⟩ : ∃ B, w7.heap.size = B := ⟨_, rfl⟩
            refine wp_region_pi (A := ?Ax2) (WrI w7.drew b [xF q] [xF q] 13 14 99 BB (edNo p 0 true)) 15 [(0, 64), (1, 65), (2, 66), (3, 67), (4, 68), (5, 69), (6, 70), (7, 71), (8, 72), (9, 73), (10, 74), (11, 75), (12, 76), (13, 77), (14, 11)] [.val (.pointer (some ⟨t, 0, none⟩)), .val (.slice ao way.length cap), .val (.pointer (pA ao 1)), .val (.int .i64 (way.getD 1 0)), .val (.agg (idA (i1 2))), .val (.agg (seA (way.getD 1 0) (i1 2))), .val (.agg (paA p)), .val (.agg (idA (i1 1))), .val (.agg (idA (i1 2))), .val (.slice ao way.length cap), .val (.slice ao (way.take 2).length cap), .val (.agg (frA (frY (mSet p (i1 1) (i1 2) (way.take 2)) ao cap gN))), .val (.slice (some ⟨q1, 0, none⟩) 6 6), outZ BB (edNo p 0 true), boxZ BB 41 (edA none 0 false false)] [] [13, 14] follows (by kernel_rfl) rfl (by kernel_rfl) (by decide) (WrI.start (HTt.gro (Gro.refl _).drew)) ?hAx2 (opsI_g (fun _ _ _ _ v h hi g => h.gro 0 (by decide) (by decide) hi g v) ?o0x2 (opsI_g (fun _ _ _ _ v h hi g => h.gro 1 (by decide) (by decide) hi g v) ?o1x2 (opsI_g (fun _ _ _ _ v h hi g => h.gro 2 (by decide) (by decide) hi g v) ?o2x2 (opsI_g (fun _ _ _ _ v h hi g => h.gro 3 (by decide) (by decide) hi g v) ?o3x2 (opsI_g (fun _ _ _ _ v h hi g => h.gro 4 (by decide) (by decide) hi g v) ?o4x2 (opsI_g (fun _ _ _ _ v h hi g => h.gro 5 (by decide) (by decide) hi g v) ?o5x2 (opsI_g (fun _ _ _ _ v h hi g => h.gro 6 (by decide) (by decide) hi g v) ?o6x2 (opsI_g (fun _ _ _ _ v h hi g => h.gro 7 (by decide) (by decide) hi g v) ?o7x2 (opsI_g (fun _ _ _ _ v h hi g => h.gro 8 (by decide) (by decide) hi g v) ?o8x2 (opsI_g (fun _ _ _ _ v h hi g => h.gro 9 (by decide) (by decide) hi g v) ?o9x2 (opsI_g (fun _ _ _ _ v h hi g => h.gro 10 (by decide) (by decide) hi g v) ?o10x2 (opsI_g (fun _ _ _ _ v h hi g => h.gro 11 (by decide) (by decide) hi g v) ?o11x2 (opsI_g (fun _ _ _ _ v h hi g => h.gro 12 (by decide) (by decide) hi g v) ?o12x2 (opsI_w ?o13x2 (opsI_g (fun _ _ _ _ v h hi g => h.gro 14 (by decide) (by decide) hi g v) ?o14x2 opsI_nil))))))))))))))) ?restx2
            case hAx2 =>
              intro ptrs
              simp only [full, foldSlots, filledE, postE, List.foldl_cons, List.foldl_nil, List.getD_cons_zero, List.getD_cons_succ, fill_val, fill_outZ, fill_boxZ, List.set_cons_zero, List.set_cons_succ]
              exact rfl
            case o0x2 => exact fun _ _ _ _ _ _ _ _ => opE_move (v := .pointer (some ⟨t, 0, none⟩)) _ rfl rfl rfl
            case o1x2 => exact fun _ _ _ _ _ _ _ _ => opE_move (v := .slice ao way.length cap) _ rfl rfl rfl
            case o2x2 => exact fun _ _ _ hw _ _ _ _ => opE_value (v := .pointer (pA ao 1)) rfl (run_ixI ((HI.gro (Gro.refl _).drew).mapw (HTt.gro (Gro.refl _).drew) hw.g) _ _ rfl rfl 1 rfl (by omega))
            case o3x2 => exact fun _ _ _ hw _ _ _ _ => opE_value (v := .int .i64 (way.getD 1 0)) rfl (run_ldI ((HI.gro (Gro.refl _).drew).mapw (HTt.gro (Gro.refl _).drew) hw.g) _ rfl 1 rfl (by omega))
            case o4x2 => exact fun _ _ _ _ _ _ _ _ => opE_value (v := .agg (idA (i1 2))) rfl (run_bd 24 _ rfl [(0, .int .u8 2)] rfl _ (by kernel_rfl))
            case o5x2 => exact fun _ _ _ _ _ _ _ _ => opE_value (v := .agg (seA (way.getD 1 0) (i1 2))) rfl (run_bd 26 _ rfl [(0, .int .i64 (way.getD 1 0)), (1, .agg (idA (i1 2)))] rfl _ (bdS2 _ _ _))
            case o6x2 => exact fun _ _ _ hw _ _ _ _ => opE_value (v := .agg (paA p)) rfl (ldP0 _ rfl g1 rfl (hw.g.has kg1 (by simpa using HTt.nec kg1)))
            case o7x2 => exact fun _ _ _ _ _ _ _ _ => opE_value (v := .agg (idA (i1 1))) rfl (run_bd 24 _ rfl [(0, .int .u8 1)] rfl _ (by kernel_rfl))
            case o8x2 => exact fun _ _ _ _ _ _ _ _ => opE_value (v := .agg (idA (i1 2))) rfl (run_bd 24 _ rfl [(0, .int .u8 2)] rfl _ (by kernel_rfl))
            case o9x2 => exact fun _ _ _ _ _ _ _ _ => opE_move (v := .slice ao way.length cap) _ rfl rfl rfl
            case o10x2 => exact fun _ _ _ hw _ _ _ _ => opE_value (v := .slice ao (way.take 2).length cap) rfl (run_takeI ((HI.gro (Gro.refl _).drew).mapw (HTt.gro (Gro.refl _).drew) hw.g) _ _ rfl 2 rfl rfl (by omega))
            case o11x2 => exact fun _ _ _ _ _ _ _ _ => opE_value (v := .agg (frA (frY (mSet p (i1 1) (i1 2) (way.take 2)) ao cap gN))) rfl (run_bd 64 _ rfl [(0, .int .i64 4), (1, .agg (paA p)), (3, .agg (idA (i1 1))), (4, .agg (idA (i1 2))), (8, .slice ao (way.take 2).length cap)] rfl _ (bdF4 _ _ _ _ _ _ _))
            case o12x2 => exact fun _ _ _ _ _ _ _ _ => opE_move (v := .slice (some ⟨q1, 0, none⟩) 6 6) _ rfl rfl rfl
            case o13x2 =>
              intro R9 ptrs x hw hi _ _ _
              have HT9 := hw.t1 hi
              refine opX_call (outZ BB (edNo p 0 true)) rfl _ 16 Try.call16 rfl rfl _ rfl [.pointer (some ⟨t, 0, none⟩), .agg (seA (way.getD 1 0) (i1 2)), .int .i64 0, .agg (frA (frY (mSet p (i1 1) (i1 2) (way.take 2)) ao cap gN)), .slice (some ⟨q1, 0, none⟩) 6 6] rfl ((take_eq _ t b 1 [xF q] (hw.g.has kt (by simpa using HTt.nec kt)) HT9 (way.getD 1 0) (i1 2) (by decide) 0 ⟨by decide, by decide⟩ (mSet p (i1 1) (i1 2) (way.take 2)) mok ao cap gN (dM (mSet p (i1 1) (i1 2) (way.take 2))) (RC.frw (M := mSet p (i1 1) (i1 2) (way.take 2)) (((HI.gro (Gro.refl _).drew).mapw (HTt.gro (Gro.refl _).drew) hw.g).take 2 h2b)) rfl hI2 hl2 (frs_of (M := mSet p (i1 1) (i1 2) (way.take 2)) (Nat.le_trans hl2 (by decide))) (some ⟨q1, 0, none⟩) 6 o6 ((HB1.gro (Gro.refl _).drew).mapw (HTt.gro (Gro.refl _).drew) hw.g) (edNo p 0 true) [xF q] htk.1 htk.2).mono ?_)
              rintro e w' ⟨ao, n, he, HO, HT2, G2⟩
              refine ⟨_, he, ⟨fun v => hw.call hi (by decide) HT2 G2 v, StM.valsX [0, 1, 2, 3, 4, 5, 6, 7, 8, 9, 10, 11, 12] [14] (by kernel_rfl) ⟨⟨_, rfl⟩, ⟨_, rfl⟩, ⟨_, rfl⟩, ⟨_, rfl⟩, ⟨_, rfl⟩, ⟨_, rfl⟩, ⟨_, rfl⟩, ⟨_, rfl⟩, ⟨_, rfl⟩, ⟨_, rfl⟩, ⟨_, rfl⟩, ⟨_, rfl⟩, ⟨_, rfl⟩, trivial⟩ (fun j hj v hp => ?_)⟩, ao, n, rfl, HO.mono (Nat.le_trans (Nat.le_of_eq hBB.symm) hw.g.size)⟩
              rw [List.mem_singleton] at hj
              subst hj
              obtain ⟨g, h1, h2, h3⟩ := hp
              exact ⟨g, h1, h2, G2.has h3 (by simpa using HT9.nec h3)⟩
            case o14x2 => exact fun _ _ x hw _ _ _ _ => opE_new (boxZ BB 41 (edA none 0 false false)) rfl (run_alloc_op 41 rfl _ zvD) (gro_alloc _ _) ⟨_, rfl, Nat.le_trans (Nat.le_of_eq hBB.symm) hw.g.size, heap_alloc_new _ _⟩
            intro ptrs w8 hI hxE
            simp only [List.drop_succ_cons, List.drop_zero]
            obtain ⟨⟨ao5, n5, hx1, HO5⟩, ⟨gY, hx2, bgY, kgY⟩, _⟩ := hxE
            simp only [hx1, hx2]
            clear hx1 hx2
            have HT2 := hI.t2 rfl
            have G2 := hI.g
            clear hI
            obtain ⟨q5, qa5, qc5, qs5, qt5, qu5, rfl, rfl, kq5, bq5, HQ5⟩ := HO5
            have nq5gY : q5 ≠ gY := fun e => ne_cells kq5 kgY (by decide) (by simp [e])
            have dg1gY : g1 < gY := Nat.lt_of_lt_of_le (hBB ▸ lt_of_heap kg1) bgY
            have dg1q5 : g1 < q5 := Nat.lt_of_lt_of_le (hBB ▸ lt_of_heap kg1) bq5
            have dg2gY : g2 < gY := Nat.lt_of_lt_of_le (hBB ▸ lt_of_heap kg2) bgY
            have dg2q5 : g2 < q5 := Nat.lt_of_lt_of_le (hBB ▸ lt_of_heap kg2) bq5
            have dtgY : t < gY := Nat.lt_of_lt_of_le (hBB ▸ lt_of_heap kt) bgY
            have dtq5 : t < q5 := Nat.lt_of_lt_of_le (hBB ▸ lt_of_heap kt) bq5
            have dgXgY : gX < gY := Nat.lt_of_lt_of_le (hBB ▸ lt_of_heap kgX) bgY
            have dgXq5 : gX < q5 := Nat.lt_of_lt_of_le (hBB ▸ lt_of_heap kgX) bq5
            have dHIgY := HI.neG (g := gY) (Nat.le_trans (Nat.le_of_eq hBB) bgY)
            have dHB1gY := HB1.neG (g := gY) (Nat.le_trans (Nat.le_of_eq hBB) bgY)
            have dHTtgY := HTt.neG (g := gY) (Nat.le_trans (Nat.le_of_eq hBB) bgY)
            replace bgY := Nat.le_trans (Nat.le_trans GG.size (Nat.le_of_eq hBB)) bgY
            replace bq5 := Nat.le_trans (Nat.le_trans GG.size (Nat.le_of_eq hBB)) bq5
            replace HQ5 := HQ5.mono (Nat.le_trans GG.size (Nat.le_of_eq hBB))
            clear hBB
            replace kg1 := G2.has kg1 (by simpa using HTt.nec kg1)
            replace kg2 := G2.has kg2 (by simpa using HTt.nec kg2)
            replace kt := G2.has kt (by simpa using HTt.nec kt)
            replace kgX := G2.has kgX (by simpa using HTt.nec kgX)
            replace HI := (HI.gro (Gro.refl _).drew).mapw (HTt.gro (Gro.refl _).drew) G2
            replace HB1 := (HB1.gro (Gro.refl _).drew).mapw (HTt.gro (Gro.refl _).drew) G2
            replace GG := G2.gro GG.drew (by simpa using bb)
            clear HTt G2
            have HTt := HT2
            clear HT2
            refine s_store rfl rfl 41 _ _ rfl gY 0 rfl (.agg (edA (some ⟨q5, 0, none⟩) 1 false true)) rfl 41 _ kgY (edA (some ⟨q5, 0, none⟩) 1 false true) rfl (siD' _ _ _ _) (Nat.le_refl _) (oneD _ _ _ _) (edA (some ⟨q5, 0, none⟩) 1 false true) (splice_whole _ _ (rfl)) ?_
            intro w9 St
            have kS := kgY
            replace kg1 := St.has (by omega) kg1
            replace kg2 := St.has (by omega) kg2
            replace kt := St.has (by omega) kt
            replace kgX := St.has (by omega) kgX
            replace kq5 := St.has (by omega) kq5
            replace HI := HI.st St dHIgY
            replace HB1 := HB1.st St dHB1gY
            replace HTt := HTt.st St dHTtgY
            replace HQ5 := HQ5.st St kS (by decide)
            replace GG := GG.store St bgY
            replace kgY := St.new
            clear St
            refine wpList_nil ?_
            refine then_n ?_
            refine wp_seq ?_
            refine wp_region_opq ?_
            intro OPS hY
            have y2 := hY 2 80 rfl
            have y7 := hY 7 85 rfl
            have y13 := hY 13 91 rfl
            have y17 := hY 17 95 rfl
            have y21 := hY 21 99 rfl
            have y27 := hY 27 105 rfl
            have y36 := hY 36 114 rfl
            clear hY
            refine s_val 78 rfl rfl (.pointer (some ⟨gX, 2, none⟩)) (run_fld 41 _ 2 rfl gX 0 rfl 2 (by kernel_rfl)) ?_
            refine nr ?_; intro U h; simp only [z0, z1] at h; subst h
            refine s_val 79 rfl rfl (.bool true) (ldD_f _ rfl gX rfl (kgX)) ?_
            refine nr ?_; intro U h; simp only [z0, z1] at h; subst h
            refine s_val 80 rfl rfl (.bool true) (rfl) ?_
            refine nr ?_; intro U h; simp only [z0, z1] at h; subst h
            refine s_gvalY 81 rfl rfl y2 rfl (.pointer (some ⟨gX, 1, none⟩)) (run_fld 41 _ 1 rfl gX 0 rfl 1 (by kernel_rfl)) ?_
            refine nr ?_; intro U h; simp only [z0, z1] at h; subst h
            refine s_gvalY 82 rfl rfl y2 rfl (.bool false) (ldD_m _ rfl gX rfl (kgX)) ?_
            refine nr ?_; intro U h; simp only [z0, z1] at h; subst h
            refine s_gvalY 83 rfl rfl y2 rfl (.bool true) (run_nt _ _ rfl false rfl) ?_
            refine nr ?_; intro U h; simp only [z0, z1] at h; subst h
            refine s_val 84 rfl rfl (.bool true) (rfl) ?_
            refine nr ?_; intro U h; simp only [z0, z1] at h; subst h
            refine s_val 85 rfl rfl (.bool true) (rfl) ?_
            refine nr ?_; intro U h; simp only [z0, z1] at h; subst h
            refine s_gvalY 86 rfl rfl y7 rfl (.pointer (some ⟨gX, 0, none⟩)) (run_fld 41 _ 0 rfl gX 0 rfl 0 (by kernel_rfl)) ?_
            refine nr ?_; intro U h; simp only [z0, z1] at h; subst h
            refine s_gvalY 87 rfl rfl y7 rfl (.slice none 0 0) (ldD_o _ rfl gX rfl (kgX)) ?_
            refine nr ?_; intro U h; simp only [z0, z1] at h; subst h
            refine s_gvalY 88 rfl rfl y7 rfl (.int .i64 0) (run_len Try.underlying39 _ rfl _ _ _ rfl _) ?_
            refine nr ?_; intro U h; simp only [z0, z1] at h; subst h
            refine s_gvalY 89 rfl rfl y7 rfl (.bool true) (run_eq_k 3 .i64 _ _ _ rfl Try.underlying3 0 0 rfl rfl true (by decide) _) ?_
            refine nr ?_; intro U h; simp only [z0, z1] at h; subst h
            refine s_val 90 rfl rfl (.bool true) (rfl) ?_
            refine nr ?_; intro U h; simp only [z0, z1] at h; subst h
            refine s_val 91 rfl rfl (.bool true) (rfl) ?_
            refine nr ?_; intro U h; simp only [z0, z1] at h; subst h
            refine s_gvalY 92 rfl rfl y13 rfl (.int .i64 5) (rfl) ?_
            refine nr ?_; intro U h; simp only [z0, z1] at h; subst h
            refine s_gvalY 93 rfl rfl y13 rfl (.bool true) (run_eq_k 42 .i64 _ _ _ rfl Try.underlying42 5 5 rfl rfl true (by decide) _) ?_
            refine nr ?_; intro U h; simp only [z0, z1] at h; subst h
            refine s_val 94 rfl rfl (.bool true) (rfl) ?_
            refine nr ?_; intro U h; simp only [z0, z1] at h; subst h
            refine s_val 95 rfl rfl (.bool true) (rfl) ?_
            refine nr ?_; intro U h; simp only [z0, z1] at h; subst h
            refine s_gvalY 96 rfl rfl y17 rfl (.pointer (some ⟨gY, 2, none⟩)) (run_fld 41 _ 2 rfl gY 0 rfl 2 (by kernel_rfl)) ?_
            refine nr ?_; intro U h; simp only [z0, z1] at h; subst h
            refine s_gvalY 97 rfl rfl y17 rfl (.bool true) (ldD_f _ rfl gY rfl (kgY)) ?_
            refine nr ?_; intro U h; simp only [z0, z1] at h; subst h
            refine s_val 98 rfl rfl (.bool true) (rfl) ?_
            refine nr ?_; intro U h; simp only [z0, z1] at h; subst h
            refine s_val 99 rfl rfl (.bool true) (rfl) ?_
            refine nr ?_; intro U h; simp only [z0, z1] at h; subst h
            refine s_gvalY 100 rfl rfl y21 rfl (.pointer (some ⟨gY, 0, none⟩)) (run_fld 41 _ 0 rfl gY 0 rfl 0 (by kernel_rfl)) ?_
            refine nr ?_; intro U h; simp only [z0, z1] at h; subst h
            refine s_gvalY 101 rfl rfl y21 rfl (.slice (some ⟨q5, 0, none⟩) 1 1) (ldD_o _ rfl gY rfl (kgY)) ?_
            refine nr ?_; intro U h; simp only [z0, z1] at h; subst h
            refine s_gvalY 102 rfl rfl y21 rfl (.int .i64 1) (run_len Try.underlying39 _ rfl _ _ _ rfl _) ?_
            refine nr ?_; intro U h; simp only [z0, z1] at h; subst h
            refine s_gvalY 103 rfl rfl y21 rfl (.bool true) (run_eq_k 3 .i64 _ _ _ rfl Try.underlying3 1 1 rfl rfl true (by decide) _) ?_
            refine nr ?_; intro U h; simp only [z0, z1] at h; subst h
            refine s_val 104 rfl rfl (.bool true) (rfl) ?_
            refine nr ?_; intro U h; simp only [z0, z1] at h; subst h
            refine s_val 105 rfl rfl (.bool true) (rfl) ?_
            refine nr ?_; intro U h; simp only [z0, z1] at h; subst h
            refine s_gvalY 106 rfl rfl y27 rfl (.pointer (some ⟨gY, 0, none⟩)) (run_fld 41 _ 0 rfl gY 0 rfl 0 (by kernel_rfl)) ?_
            refine nr ?_; intro U h; simp only [z0, z1] at h; subst h
            refine s_gvalY 107 rfl rfl y27 rfl (.slice (some ⟨q5, 0, none⟩) 1 1) (ldD_o _ rfl gY rfl (kgY)) ?_
            refine nr ?_; intro U h; simp only [z0, z1] at h; subst h
            refine s_gvalY 108 rfl rfl y27 rfl (.pointer (some ⟨q5, 0, none⟩)) (run_ixH q5 _ _ rfl rfl rfl) ?_
            refine nr ?_; intro U h; simp only [z0, z1] at h; subst h
            refine s_gvalY 109 rfl rfl y27 rfl (.pointer (some ⟨q5, 1, none⟩)) (run_fld 71 _ 1 rfl q5 0 rfl 1 (by kernel_rfl)) ?_
            refine nr ?_; intro U h; simp only [z0, z1] at h; subst h
            refine s_gvalY 110 rfl rfl y27 rfl (.pointer (some ⟨q5, 1, none⟩)) (run_fld 64 _ 0 rfl q5 1 rfl 1 (by kernel_rfl)) ?_
            refine nr ?_; intro U h; simp only [z0, z1] at h; subst h
            refine s_gvalY 111 rfl rfl y27 rfl (.int .i64 5) (ldH_k _ rfl q5 rfl (kq5)) ?_
            refine nr ?_; intro U h; simp only [z0, z1] at h; subst h
            refine s_gvalY 112 rfl rfl y27 rfl (.bool true) (run_eq_k 3 .i64 _ _ _ rfl Try.underlying3 5 5 rfl rfl true (by decide) _) ?_
            refine nr ?_; intro U h; simp only [z0, z1] at h; subst h
            refine s_val 113 rfl rfl (.bool true) (rfl) ?_
            refine nr ?_; intro U h; simp only [z0, z1] at h; subst h
            refine s_val 114 rfl rfl (.bool true) (rfl) ?_
            refine nr ?_; intro U h; simp only [z0, z1] at h; subst h
            refine s_gvalY 115 rfl rfl y36 rfl (.pointer (some ⟨t, 0, none⟩)) (rfl) ?_
            refine nr ?_; intro U h; simp only [z0, z1] at h; subst h
            refine s_gcallvY 116 rfl rfl y36 rfl _ 20 Try.call20 rfl rfl _ rfl [.pointer (some ⟨t, 0, none⟩)] rfl (len_any _ t b 1 [xF q] (kt) (HTt)) ?_
            intro w10 G
            replace kg1 := G.has kg1
            replace kg2 := G.has kg2
            replace kt := G.has kt
            replace kgX := G.has kgX
            replace kq5 := G.has kq5
            replace kgY := G.has kgY
            replace HI := HI.gro G
            replace HB1 := HB1.gro G
            replace HTt := HTt.gro G
            replace HQ5 := HQ5.gro G
            replace GG := GG.trans G
            clear G
            refine nr ?_; intro U h; simp only [z0, z1] at h; subst h
            refine s_gvalY 117 rfl rfl y36 rfl (.bool true) (run_eq_k 3 .i64 _ _ _ rfl Try.underlying3 1 1 rfl rfl true (by decide) _) ?_
            refine nr ?_; intro U h; simp only [z0, z1] at h; subst h
            refine s_val 118 rfl rfl (.bool true) (rfl) ?_
            refine nr ?_; intro U h; simp only [z0, z1] at h; subst h
            refine s_val 6 rfl rfl (.bool true) (rfl) ?_
            refine nr ?_; intro U h; simp only [z0, z1] at h; subst h
            refine wpList_nil ?_
            refine then_n ?_
            refine wp_ret ?_
            refine bodyPost_ret (results_tmp Try.results7 _ _ _) rfl ?_
            exact ⟨rfl, GG⟩
          · refine s_gvalY 36 rfl rfl y20 rfl (.bool true) (run_gtrT 3 _ _ _ rfl (way.getD 1 0) 5 rfl rfl true h5 _) ?_
            refine nr ?_; intro U h; simp only [z0, z1] at h; subst h
            refine s_val 37 rfl rfl (.bool true) (rfl) ?_
            refine nr ?_; intro U h; simp only [z0, z1] at h; subst h
            refine s_val 38 rfl rfl (.bool true) (rfl) ?_
            refine nr ?_; intro U h; simp only [z0, z1] at h; subst h
            refine s_skipY 39 rfl rfl y26 rfl ?_
            refine nr ?_; intro U h; simp only [z0, z1] at h; subst h
            refine s_skipY 40 rfl rfl y26 rfl ?_
            refine nr ?_; intro U h; simp only [z0, z1] at h; subst h
            refine s_val 41 rfl rfl (.bool true) (rfl) ?_
            refine nr ?_; intro U h; simp only [z0, z1] at h; subst h
            refine wpList_nil ?_
            refine then_n ?_
            refine wp_cond_true rfl ?_
            refine wp_seq ?_
            refine wp_region_lit ?_
            refine s_callv 42 rfl rfl _ 11 Try.call11 rfl rfl _ rfl [] rfl (fixed_any _) ?_
            intro w3 G
            replace kg1 := G.has kg1
            replace kg2 := G.has kg2
            replace HI := HI.gro G
            replace GG := GG.trans G
            clear G
            refine nr ?_; intro U h; simp only [z0, z1] at h; subst h
            refine s_val 6 rfl rfl (.bool true) (rfl) ?_
            refine nr ?_; intro U h; simp only [z0, z1] at h; subst h
            refine wpList_nil ?_
            refine then_n ?_
            refine wp_ret ?_
            refine then_r ?_
            refine bodyPost_ret (results_tmp Try.results7 _ _ _) rfl ?_
            exact ⟨rfl, GG⟩
        · refine s_gvalY 30 rfl rfl y14 rfl (.bool true) (run_lssT 3 _ _ _ rfl (way.getD 1 0) 1 rfl rfl true h1 _) ?_
          refine nr ?_; intro U h; simp only [z0, z1] at h; subst h
          refine s_val 31 rfl rfl (.bool true) (rfl) ?_
          refine nr ?_; intro U h; simp only [z0, z1] at h; subst h
          refine s_val 32 rfl rfl (.bool true) (rfl) ?_
          refine nr ?_; intro U h; simp only [z0, z1] at h; subst h
          refine s_skipY 33 rfl rfl y20 rfl ?_
          refine nr ?_; intro U h; simp only [z0, z1] at h; subst h
          refine s_skipY 34 rfl rfl y20 rfl ?_
          refine nr ?_; intro U h; simp only [z0, z1] at h; subst h
          refine s_skipY 35 rfl rfl y20 rfl ?_
          refine nr ?_; intro U h; simp only [z0, z1] at h; subst h
          refine s_skipY 36 rfl rfl y20 rfl ?_
          refine nr ?_; intro U h; simp only [z0, z1] at h; subst h
          refine s_val 37 rfl rfl (.bool true) (rfl) ?_
          refine nr ?_; intro U h; simp only [z0, z1] at h; subst h
          refine s_val 38 rfl rfl (.bool true) (rfl) ?_
          refine nr ?_; intro U h; simp only [z0, z1] at h; subst h
          refine s_skipY 39 rfl rfl y26 rfl ?_
          refine nr ?_; intro U h; simp only [z0, z1] at h; subst h
          refine s_skipY 40 rfl rfl y26 rfl ?_
          refine nr ?_; intro U h; simp only [z0, z1] at h; subst h
          refine s_val 41 rfl rfl (.bool true) (rfl) ?_
          refine nr ?_; intro U h; simp only [z0, z1] at h; subst h
          refine wpList_nil ?_
          refine then_n ?_
          refine wp_cond_true rfl ?_
          refine wp_seq ?_
          refine wp_region_lit ?_
          refine s_callv 42 rfl rfl _ 11 Try.call11 rfl rfl _ rfl [] rfl (fixed_any _) ?_
          intro w3 G
          replace kg1 := G.has kg1
          replace kg2 := G.has kg2
          replace HI := HI.gro G
          replace GG := GG.trans G
          clear G
          refine nr ?_; intro U h; simp only [z0, z1] at h; subst h
          refine s_val 6 rfl rfl (.bool true) (rfl) ?_
          refine nr ?_; intro U h; simp only [z0, z1] at h; subst h
          refine wpList_nil ?_
          refine then_n ?_
          refine wp_ret ?_
          refine then_r ?_
          refine bodyPost_ret (results_tmp Try.results7 _ _ _) rfl ?_
          exact ⟨rfl, GG⟩
    · refine s_gvalY 18 rfl rfl y3 rfl (.bool true) (run_lssT 3 _ _ _ rfl ((way.length : Nat) : Int) 2 rfl rfl true h2 _) ?_
      refine nr ?_; intro U h; simp only [z0, z1] at h; subst h
      refine s_val 19 rfl rfl (.bool true) (rfl) ?_
      refine nr ?_; intro U h; simp only [z0, z1] at h; subst h
      refine s_val 20 rfl rfl (.bool true) (rfl) ?_
      refine nr ?_; intro U h; simp only [z0, z1] at h; subst h
      refine s_skipY 21 rfl rfl y8 rfl ?_
      refine nr ?_; intro U h; simp only [z0, z1] at h; subst h
      refine s_skipY 22 rfl rfl y8 rfl ?_
      refine nr ?_; intro U h; simp only [z0, z1] at h; subst h
      refine s_skipY 23 rfl rfl y8 rfl ?_
      refine nr ?_; intro U h; simp only [z0, z1] at h; subst h
      refine s_skipY 24 rfl rfl y8 rfl ?_
      refine nr ?_; intro U h; simp only [z0, z1] at h; subst h
      refine s_val 25 rfl rfl (.bool true) (rfl) ?_
      refine nr ?_; intro U h; simp only [z0, z1] at h; subst h
      refine s_val 26 rfl rfl (.bool true) (rfl) ?_
      refine nr ?_; intro U h; simp only [z0, z1] at h; subst h
      refine s_skipY 27 rfl rfl y14 rfl ?_
      refine nr ?_; intro U h; simp only [z0, z1] at h; subst h
      refine s_skipY 28 rfl rfl y14 rfl ?_
      refine nr ?_; intro U h; simp only [z0, z1] at h; subst h
      refine s_skipY 29 rfl rfl y14 rfl ?_
      refine nr ?_; intro U h; simp only [z0, z1] at h; subst h
      refine s_skipY 30 rfl rfl y14 rfl ?_
      refine nr ?_; intro U h; simp only [z0, z1] at h; subst h
      refine s_val 31 rfl rfl (.bool true) (rfl) ?_
      refine nr ?_; intro U h; simp only [z0, z1] at h; subst h
      refine s_val 32 rfl rfl (.bool true) (rfl) ?_
      refine nr ?_; intro U h; simp only [z0, z1] at h; subst h
      refine s_skipY 33 rfl rfl y20 rfl ?_
      refine nr ?_; intro U h; simp only [z0, z1] at h; subst h
      refine s_skipY 34 rfl rfl y20 rfl ?_
      refine nr ?_; intro U h; simp only [z0, z1] at h; subst h
      refine s_skipY 35 rfl rfl y20 rfl ?_
      refine nr ?_; intro U h; simp only [z0, z1] at h; subst h
      refine s_skipY 36 rfl rfl y20 rfl ?_
      refine nr ?_; intro U h; simp only [z0, z1] at h; subst h
      refine s_val 37 rfl rfl (.bool true) (rfl) ?_
      refine nr ?_; intro U h; simp only [z0, z1] at h; subst h
      refine s_val 38 rfl rfl (.bool true) (rfl) ?_
      refine nr ?_; intro U h; simp only [z0, z1] at h; subst h
      refine s_skipY 39 rfl rfl y26 rfl ?_
      refine nr ?_; intro U h; simp only [z0, z1] at h; subst h
      refine s_skipY 40 rfl rfl y26 rfl ?_
      refine nr ?_; intro U h; simp only [z0, z1] at h; subst h
      refine s_val 41 rfl rfl (.bool true) (rfl) ?_
      refine nr ?_; intro U h; simp only [z0, z1] at h; subst h
      refine wpList_nil ?_
      refine then_n ?_
      refine wp_cond_true rfl ?_
      refine wp_seq ?_
      refine wp_region_lit ?_
      refine s_callv 42 rfl rfl _ 11 Try.call11 rfl rfl _ rfl [] rfl (fixed_any _) ?_
      intro w3 G
      replace kg1 := G.has kg1
      replace kg2 := G.has kg2
      replace HI := HI.gro G
      replace GG := GG.trans G
      clear G
      refine nr ?_; intro U h; simp only [z0, z1] at h; subst h
      refine s_val 6 rfl rfl (.bool true) (rfl) ?_
      refine nr ?_; intro U h; simp only [z0, z1] at h; subst h
      refine wpList_nil ?_
      refine then_n ?_
      refine wp_ret ?_
      refine then_r ?_
      refine bodyPost_ret (results_tmp Try.results7 _ _ _) rfl ?_
      exact ⟨rfl, GG⟩
  · refine s_val 14 rfl rfl (.bool true) (run_eqP _ _ _ rfl _ _ rfl rfl hp hq true hpq) ?_
    refine nr ?_; intro U h; simp only [z0, z1] at h; subst h
    refine s_val 15 rfl rfl (.bool true) (rfl) ?_
    refine nr ?_; intro U h; simp only [z0, z1] at h; subst h
    refine s_skipY 16 rfl rfl y3 rfl ?_
    refine nr ?_; intro U h; simp only [z0, z1] at h; subst h
    refine s_skipY 17 rfl rfl y3 rfl ?_
    refine nr ?_; intro U h; simp only [z0, z1] at h; subst h
    refine s_skipY 18 rfl rfl y3 rfl ?_
    refine nr ?_; intro U h; simp only [z0, z1] at h; subst h
    refine s_val 19 rfl rfl (.bool true) (rfl) ?_
    refine nr ?_; intro U h; simp only [z0, z1] at h; subst h
    refine s_val 20 rfl rfl (.bool true) (rfl) ?_
    refine nr ?_; intro U h; simp only [z0, z1] at h; subst h
    refine s_skipY 21 rfl rfl y8 rfl ?_
    refine nr ?_; intro U h; simp only [z0, z1] at h; subst h
    refine s_skipY 22 rfl rfl y8 rfl ?_
    refine nr ?_; intro U h; simp only [z0, z1] at h; subst h
    refine s_skipY 23 rfl rfl y8 rfl ?_
    refine nr ?_; intro U h; simp only [z0, z1] at h; subst h
    refine s_skipY 24 rfl rfl y8 rfl ?_
    refine nr ?_; intro U h; simp only [z0, z1] at h; subst h
    refine s_val 25 rfl rfl (.bool true) (rfl) ?_
    refine nr ?_; intro U h; simp only [z0, z1] at h; subst h
    refine s_val 26 rfl rfl (.bool true) (rfl) ?_
    refine nr ?_; intro U h; simp only [z0, z1] at h; subst h
    refine s_skipY 27 rfl rfl y14 rfl ?_
    refine nr ?_; intro U h; simp only [z0, z1] at h; subst h
    refine s_skipY 28 rfl rfl y14 rfl ?_
    refine nr ?_; intro U h; simp only [z0, z1] at h; subst h
    refine s_skipY 29 rfl rfl y14 rfl ?_
    refine nr ?_; intro U h; simp only [z0, z1] at h; subst h
    refine s_skipY 30 rfl rfl y14 rfl ?_
    refine nr ?_; intro U h; simp only [z0, z1] at h; subst h
    refine s_val 31 rfl rfl (.bool true) (rfl) ?_
    refine nr ?_; intro U h; simp only [z0, z1] at h; subst h
    refine s_val 32 rfl rfl (.bool true) (rfl) ?_
    refine nr ?_; intro U h; simp only [z0, z1] at h; subst h
    refine s_skipY 33 rfl rfl y20 rfl ?_
    refine nr ?_; intro U h; simp only [z0, z1] at h; subst h
    refine s_skipY 34 rfl rfl y20 rfl ?_
    refine nr ?_; intro U h; simp only [z0, z1] at h; subst h
    refine s_skipY 35 rfl rfl y20 rfl ?_
    refine nr ?_; intro U h; simp only [z0, z1] at h; subst h
    refine s_skipY 36 rfl rfl y20 rfl ?_
    refine nr ?_; intro U h; simp only [z0, z1] at h; subst h
    refine s_val 37 rfl rfl (.bool true) (rfl) ?_
    refine nr ?_; intro U h; simp only [z0, z1] at h; subst h
    refine s_val 38 rfl rfl (.bool true) (rfl) ?_
    refine nr ?_; intro U h; simp only [z0, z1] at h; subst h
    refine s_skipY 39 rfl rfl y26 rfl ?_
    refine nr ?_; intro U h; simp only [z0, z1] at h; subst h
    refine s_skipY 40 rfl rfl y26 rfl ?_
    refine nr ?_; intro U h; simp only [z0, z1] at h; subst h
    refine s_val 41 rfl rfl (.bool true) (rfl) ?_
    refine nr ?_; intro U h; simp only [z0, z1] at h; subst h
    refine wpList_nil ?_
    refine then_n ?_
    refine wp_cond_true rfl ?_
    refine wp_seq ?_
    refine wp_region_lit ?_
    refine s_callv 42 rfl rfl _ 11 Try.call11 rfl rfl _ rfl [] rfl (fixed_any _) ?_
    intro w3 G
    replace kg1 := G.has kg1
    replace kg2 := G.has kg2
    replace HI := HI.gro G
    replace GG := GG.trans G
    clear G
    refine nr ?_; intro U h; simp only [z0, z1] at h; subst h
    refine s_val 6 rfl rfl (.bool true) (rfl) ?_
    refine nr ?_; intro U h; simp only [z0, z1] at h; subst h
    refine wpList_nil ?_
    refine then_n ?_
    refine wp_ret ?_
    refine then_r ?_
    refine bodyPost_ret (results_tmp Try.results7 _ _ _) rfl ?_
    exact ⟨rfl, GG⟩
end Go.Proofs.Ytkjnefgenffhcaa
