/- Windows: what lies in memory, and each call of the program's. -/
import Derived.Test.YtlfanecaglbomaaEA2
namespace Go.Proofs.Ytlfanecaglbomaa
set_option maxRecDepth 100000
set_option maxHeartbeats 4000000
open Go.RowKit
def c121 (x0 : Int) (x1 : Sl) (x2 : Int) : Array Value := #[iK x0, .slice x1.ao x1.n x1.cap, iK x2]
theorem na30 (w : World) : (isAgg 30).run Try.prog w = .ok false w := by kernel_rfl
section
variable {P : Program} {o : Oper} {A : Act}
theorem jF (t : TypeId) (x y : Operand) (t2 : TypeId) (ho : o.op = .binOp .add t x y t2) (a b r : Int) (hx : A.eval x = iK a) (hy : A.eval y = iK b) (hr : a + b = r) (h1 : -9223372036854775808 ≤ r) (h2 : r < 9223372036854775808) (w : World) : (execOp A.eval o).run P w = .ok (.value (iK r)) w := by
  subst hr
  refine jV .add t x y t2 ho _ _ _ hx hy (by simp [eqGuard]) ?_
  simp [go_sem]
  exact uo _ h1 h2
theorem zm (t : TypeId) (x y : Operand) (t2 : TypeId) (ho : o.op = .binOp .sub t x y t2) (a b r : Int) (hx : A.eval x = iK a) (hy : A.eval y = iK b) (hr : a - b = r) (h1 : -9223372036854775808 ≤ r) (h2 : r < 9223372036854775808) (w : World) : (execOp A.eval o).run P w = .ok (.value (iK r)) w := by
  subst hr
  refine jV .sub t x y t2 ho _ _ _ hx hy (by simp [eqGuard]) ?_
  simp [go_sem]
  exact uo _ h1 h2
end
theorem Kept.refl (M : Nat) (ao : Option Addr) : Kept M ao ao := fun _ h => .inl h
theorem Kept.mono {M M' : Nat} {ao ao2 : Option Addr} (h : Kept M ao ao2) (hm : M' ≤ M) : Kept M' ao ao2 := fun k hk => (h k hk).imp id fun h => by omega
theorem Kept.cut (M : Nat) (ao : Option Addr) (c i j : Nat) : Kept M ao (if c = i then ao else ao.map (·.add j)) := fun k hk => by
  obtain ⟨ad, h1, h2⟩ := mem_blk.1 hk
  by_cases hc : c = i
  · rw [if_pos hc] at h1
    exact .inl (mem_blk.2 ⟨ad, h1, h2⟩)
  · rw [if_neg hc] at h1
    cases ao with
    | none => cases h1
    | some a =>
      cases h1
      rw [zV] at h2
      exact .inl (mem_blk.2 ⟨a, rfl, h2⟩)
theorem OY.st {w w' : World} {e : TypeId} {sz B : Nat} {ao : Option Addr} {cap n : Nat} {cs : List Value} (h : OY w e sz B ao cap n cs) {g : Nat} {x : Obj} (S : Stored w w' g x) (hg : g ∉ blk ao) : OY w' e sz B ao cap n cs :=
  h.gros (S := [g]) ((GroS.refl [g] w).st S (.inr (by simp))) (fun k hk => by simp; exact fun e => hg (e ▸ hk))
structure WX (t : TypeId) (cs : Array Value) (w : World) (p B : Nat) (ao : Option Addr) (cap : Nat) (q : List RV) : Prop where
  box : w.heap[p]? = some (.cells cs t (0, 0))
  row : OY w 36 1 B ao cap q.length (q.map RV.v)
  fr : ∀ x ∈ q, OB w 5 .u8 B x.ao x.cap x.l
  base : B ≤ p
  sm : ∀ x ∈ q, x.l.length ≤ 140737488355000
  ty : t ≠ 36 ∧ t ≠ 5
section
variable {t : TypeId} {cs : Array Value} {w w' : World} {p B : Nat} {ao : Option Addr} {cap : Nat} {q : List RV}
theorem WX.ne (H : WX t cs w p B ao cap q) : p ∉ blk ao := H.row.ne H.box H.ty.1
theorem WX.lt (H : WX t cs w p B ao cap q) : p < w.heap.size := jm H.box
theorem WX.bl (H : WX t cs w p B ao cap q) : B ≤ w.heap.size := Nat.le_trans H.base (Nat.le_of_lt H.lt)
theorem WX.gros {S : List Nat} (H : WX t cs w p B ao cap q) (G : GroS S w w') (hp : p ∉ S) (hr : ∀ k ∈ blk ao, k ∉ S) (hf : ∀ x ∈ q, ∀ ad, x.ao = some ad → ad.block ∉ S) : WX t cs w' p B ao cap q :=
  ⟨G.has H.box hp, H.row.gros G hr, fun x hx => (H.fr x hx).gros G (hf x hx), H.base, H.sm, H.ty⟩
theorem WX.gro (H : WX t cs w p B ao cap q) (G : Gro w w') : WX t cs w' p B ao cap q := H.gros (S := []) (.of G) (by simp) (fun _ _ => by simp) (fun _ _ _ _ => by simp)
theorem WX.f5 (H : WX t cs w p B ao cap q) {S : List Nat} (hS : ∀ k ∈ S, ∃ c t', w.heap[k]? = some (.cells c t' (0, 0)) ∧ t' ≠ 5) : ∀ x ∈ q, ∀ ad, x.ao = some ad → ad.block ∉ S := fun x hx ad ha hm => by
  obtain ⟨cur, hc⟩ := (H.fr x hx).blk5 ha
  obtain ⟨c, t', h1, h2⟩ := hS _ hm
  exact jy h1 hc h2 rfl
theorem WX.own (H : WX t cs w p B ao cap q) : ∀ k ∈ p :: blk ao, ∃ c t', w.heap[k]? = some (.cells c t' (0, 0)) ∧ t' ≠ 5 := fun k hk => by
  rcases List.mem_cons.1 hk with rfl | hk
  · exact ⟨_, _, H.box, H.ty.2⟩
  · obtain ⟨_, cur, hc⟩ := H.row.at k hk
    exact ⟨_, _, hc, by decide⟩
theorem WX.at (H : WX t cs w p B ao cap q) {j : Nat} {x : RV} (hx : q[j]? = some x) : ∃ ad, ao = some ad ∧ w.cell? (ad.add j) = some (.slice x.ao x.l.length x.cap) := by
  have hj := (List.getElem?_eq_some_iff.1 hx).1
  obtain ⟨ad, ha⟩ := H.row.xc.some (by omega)
  exact ⟨ad, ha, H.row.xc.cell ad ha j _ (by rw [List.getElem?_map, hx]; rfl)⟩
theorem WX.new (hp : w.heap[p]? = some (.cells cs t (0, 0))) (hB : B ≤ p) (ht : t ≠ 36 ∧ t ≠ 5) : WX t cs w p B none 0 [] :=
  ⟨hp, OY.nil _ _ _ _, (fun _ h => by cases h), hB, (fun _ h => by cases h), ht⟩
end
theorem rY : RowT Try.prog 30 36 1 24 (.slice none 0 0) := ⟨Try.underlying30, ym (by kernel_rfl), rfl, by decide⟩
def AF (M g : Nat) (w : World) (r : List (Nat × List Nat)) : Prop := ∀ x ∈ r, (M ≤ x.1 ∧ x.1 ≠ g) ∧ w.heap[x.1]? = some (.cells (bv x.2) 5 (0, 0)) ∧ ∀ y ∈ x.2, y < 256
theorem AF.gro {M g : Nat} {w w' : World} {r : List (Nat × List Nat)} (h : AF M g w r) (G : Gro w w') : AF M g w' r := fun x hx => ⟨(h x hx).1, G.has (h x hx).2.1, (h x hx).2.2⟩
theorem AF.st {M g : Nat} {w w' : World} {r : List (Nat × List Nat)} {o : Obj} (h : AF M g w r) (St : Stored w w' g o) : AF M g w' r := fun x hx => ⟨(h x hx).1, St.has (h x hx).1.2 (h x hx).2.1, (h x hx).2.2⟩
def rv (x : Nat × List Nat) : Value := .slice (some ⟨x.1, 0, none⟩) x.2.length x.2.length
structure AL (w : World) (M g : Nat) (r : List (Nat × List Nat)) : Prop where
  base : M ≤ g
  row : w.heap[g]? = some (.cells (r.map rv).toArray 36 (0, 0))
  fr : ∀ x ∈ r, M ≤ x.1 ∧ w.heap[x.1]? = some (.cells (bv x.2) 5 (0, 0)) ∧ ∀ y ∈ x.2, y < 256
theorem AL.gro {w w' : World} {M g : Nat} {r : List (Nat × List Nat)} (h : AL w M g r) (G : Gro w w') : AL w' M g r := ⟨h.base, G.has h.row, fun x hx => ⟨(h.fr x hx).1, G.has (h.fr x hx).2.1, (h.fr x hx).2.2⟩⟩
theorem AL.at {w : World} {M g : Nat} {r : List (Nat × List Nat)} (h : AL w M g r) {j : Nat} {x : Nat × List Nat} (hx : r[j]? = some x) : w.cell? ⟨g, j, none⟩ = some (rv x) := by
  rw [cell_of_row w g j _ 36 _ h.row]
  simp [hx]
theorem Ja {o : Oper} {A : Act} (x y : Operand) (ho : o.op = .indexAddr 30 x y) (g n cap j : Nat) (hx : A.eval x = .slice (some ⟨g, 0, none⟩) n cap) (hy : A.eval y = iK (j : Int)) (hj : j < n) (w : World) :
    (execOp A.eval o).run Try.prog w = .ok (.value (pK g j)) w := by
  rw [vd x y ho ⟨g, 0, none⟩ n cap j hx hy hj w, zA, Nat.zero_add]
theorem uX (a : List Value) (z v : Value) (m j : Nat) (hj : a.length = j) (hm : j < m) : splice (a ++ List.replicate (m - j) z).toArray j #[v] = (a ++ [v] ++ List.replicate (m - (j + 1)) z).toArray := by
  subst hj
  obtain ⟨k, rfl⟩ : ∃ k, m = a.length + k + 1 := ⟨m - a.length - 1, by omega⟩
  have e1 : a.length + k + 1 - a.length = k + 1 := by omega
  have e2 : a.length + k + 1 - (a.length + 1) = k := by omega
  rw [e1, e2]
  simp [splice, List.replicate_succ]
section
variable {P : Program} {ops : Array Oper} {rest : List Oper} {o : Oper} {T : List Value} {ds : List Deferred} {w : World} {Q : Exit → Act → World → Prop}
theorem Yz {t e : TypeId} {b : Nat} {z : Value} (TT : RowT P t e 1 b z) (hz1 : z.cells = #[z]) (dst : Nat) (hd : o.dst = some dst) (hgd : o.guard = none) (x y : Operand) (ho : o.op = .makeSlice t x y) (n : Nat) (hx : (⟨T.toArray, ds⟩ : Act).eval x = iK (n : Int)) (hy : (⟨T.toArray, ds⟩ : Act).eval y = iK (n : Int)) (hb : b * n ≤ 281474976710656) (hm : n ≤ maxLen)
    (h : ∀ w' g, Gro w w' → w.heap.size = g → w'.heap[g]? = some (.cells (List.replicate n z).toArray e (0, 0)) → wpList P ops Q rest ⟨(T.set dst (.slice (some ⟨g, 0, none⟩) n n)).toArray, ds⟩ w') : wpList P ops Q (o :: rest) ⟨T.toArray, ds⟩ w := by
  obtain ⟨i, hi, hz, hsz, hby⟩ := TT.info
  refine wpList_make_full w hgd x y t ho w.heap.size e i z 1 TT.und hi hz hsz .i64 .i64 _ _ n hx hy rfl rfl (by rw [hby]; exact hb) hm (Nat.le_refl _) ?_
  intro w' h1 h2
  rw [hd, zg]
  rcases h1.2 with ⟨h3, _⟩ | ⟨g, c, cur, h3, _, h4, _, _, h5, h6⟩
  · cases h3
  · injection h3 with e1 e2 e3
    injection e1 with e1
    injection e1 with e1
    subst e1 e3
    refine h w' _ ⟨h2.os, h2.tape, h2.output, h2.size, fun k hk => h2.block k hk (by simp)⟩ rfl ?_
    have : cur = (List.replicate n z).toArray := by
      apply Array.toList_inj.1
      rw [hz1, Nat.mul_one, toList_madeCells_one, List.take_of_length_le (by simp; omega)] at h6
      rw [h6]
    rw [← this]
    exact h4
end
def cpE (M : Nat) (l : List Nat) : PostE := PostE.ex (fun v x => ∃ g, v = .slice (some ⟨g, 0, none⟩) l.length l.length ∧ M ≤ g ∧ x.heap[g]? = some (.cells (bv l) 5 (0, 0))) (fun _ _ _ G ⟨g, h1, h2, h3⟩ => ⟨g, h1, h2, G.has h3⟩)
theorem YT (M : Nat) (l : List Nat) (v : Value) : (cpE M l).fill v = v := rfl
def bsE (M : Nat) (l : List Nat) : PostE := PostE.ex (fun v x => ∃ (y : RV) (h : Nat), v = .slice (some ⟨h, 0, none⟩) 1 1 ∧ M ≤ h ∧ y.l = l ∧ OB x 5 .u8 M y.ao y.cap y.l ∧ x.heap[h]? = some (.cells #[y.v] 36 (0, 0))) (fun _ _ _ G ⟨y, h, h1, h2, h3, h4, h5⟩ => ⟨y, h, h1, h2, h3, h4.gro G, G.has h5⟩)
theorem YU (M : Nat) (l : List Nat) (v : Value) : (bsE M l).fill v = v := rfl
def ptE (M B : Nat) (ro : Option Addr) (q : List RV) (l : List Nat) : PostE := PostE.ex (fun v x => ∃ ao2 cap2 y, v = .slice ao2 (q ++ [y]).length cap2 ∧ y.l = l ∧ OB x 5 .u8 M y.ao y.cap y.l ∧ OY x 36 1 B ao2 cap2 (q ++ [y]).length ((q ++ [y]).map RV.v) ∧ Kept M ro ao2) (fun _ _ _ G ⟨a, c, y, h1, h2, h3, h4, h5⟩ => ⟨a, c, y, h1, h2, h3.gro G, h4.gro G, h5⟩)
theorem YR (M B : Nat) (ro : Option Addr) (q : List RV) (l : List Nat) (v : Value) : (ptE M B ro q l).fill v = v := rfl
theorem zN {M : Nat} {w : World} {e : TypeId} {sz B : Nat} {ao : Option Addr} {cap n : Nat} {cs : List Value} (h : OY w e sz B ao cap n cs) (hM : w.heap.size = M) {g : Nat} (hg : M ≤ g) : g ∉ blk ao := fun hm => by
  have := h.lt g hm
  omega
theorem ob_av {M : Nat} {w a b : World} {e : TypeId} {sz B : Nat} {ao : Option Addr} {cap n : Nat} {cs : List Value} (h : OY w e sz B ao cap n cs) (hM : w.heap.size = M) (G : GroS (blk ao) a b) {ao' : Option Addr} {cap' : Nat} {l : List Nat} (H : OB a 5 .u8 M ao' cap' l) : OB b 5 .u8 M ao' cap' l :=
  H.gros G fun ad ha => zN h hM (H.ge ad ha).1
theorem YF {ops : Array Oper} {o : Oper} {A : Act} {x : World} (s y : Operand) (hw : Region.wanted o (yielded ops A.tmps) = true) (ho : o.op = .call { callee := .builtin .append, args := #[s, y], argTypes := #[30, 30] })
    {w : World} {B M : Nat} {ro : Option Addr} {rc : Nat} {q : List RV} (hr : OY w 36 1 B ro rc q.length (q.map RV.v)) (hM : w.heap.size = M) (hB : B ≤ M) (hq : q.length ≤ 100000) (G : Gro w x) (hs : A.eval s = .slice ro q.length rc) {l : List Nat} {v : Value} (hy : A.eval y = v) (hb : (bsE M l).p v x) :
    OpX Try.prog ops (fun z => GroS (blk ro) x z) (ptE M B ro q l) o A x := by
  obtain ⟨z, h, rfl, h1, h2, h3, h4⟩ := hb
  have hsz := G.size
  refine vO rY _ hw s y ho hs (hr.gro G) hy (xc_one h4 rfl) (by omega) (by decide) (by omega) ?_
  intro ao2 cap2 w' g1 g2 g3
  have e1 : q.length + 1 = (q ++ [z]).length := by simp
  have e2 : q.map RV.v ++ [z.v] = (q ++ [z]).map RV.v := by simp
  rw [e1, e2] at g1
  rw [e1]
  exact ⟨ao2, cap2, z, rfl, h2, ob_av hr hM g2 h3, g1, g3.mono (by omega)⟩
theorem vV (w : World) (ao : Option Addr) (cap : Nat) (l : List Nat) (H : NC w .u8 ao cap l) (hl : l.length ≤ 140737488355000) : Calls Try.prog 51 #[.slice ao l.length cap] w fun e w' => ∃ g, e = .returned (.slice (some ⟨g, 0, none⟩) l.length l.length) ∧ Gro w w' ∧ w.heap.size ≤ g ∧ w'.heap[g]? = some (.cells (bv l) 5 (0, 0)) := by
  refine jT Try.func51 rfl Try.ntmps51 [.slice ao l.length cap] [.slice ao l.length cap, undef, undef, undef, undef, undef, undef, undef, undef, undef, undef] rfl ?_
  have GG := Gro.refl w
  refine wp_seq (wp_region_lit (mv 2 (.slice none 0 0) (wpList_nil (ja (wp_seq (wp_region_lit (mv 4 (.slice ao l.length cap) (sv 5 (iK ((l.length : Nat) : Int)) (jG Try.underlying36 _ rfl _ _ _ rfl _) ?_))))))))
  refine nr ?_; intro U h; simp only [z0, z1] at h; subst h
  refine s_make bT 6 rfl rfl _ _ rfl l.length rfl rfl (by omega) (by simp only [maxLen]; omega) ?_
  intro w1 g1 G eg1 kg1
  have bg1 := jh GG eg1
  replace GG := GG.trans G
  clear G eg1
  refine mv 3 (.slice (some ⟨g1, 0, none⟩) l.length l.length) (wpList_nil (ja (wp_seq (wp_region_lit (mv 7 (.slice (some ⟨g1, 0, none⟩) l.length l.length) (mv 8 (.slice ao l.length cap) ?_))))))
  refine nr ?_; intro U h; simp only [z0, z1] at h; subst h
  refine s_copy bT 9 rfl rfl _ _ rfl g1 0 l.length l.length rfl kg1 rfl (rfl) (H.gro GG) (List.take_of_length_le (Nat.le_refl _)) (by rw [Zx]; omega) ?_
  intro w2 St
  replace GG := GG.store St bg1
  replace kg1 := St.new
  clear St
  rw [wr_all (by rw [Zx])] at kg1
  refine wpList_nil (ja (wp_seq (wp_region_lit (mv 10 (.slice (some ⟨g1, 0, none⟩) l.length l.length) (mv 2 (.slice (some ⟨g1, 0, none⟩) l.length l.length) (wpList_nil (ja (wp_ret ?_))))))))
  refine bodyPost_ret (results_tmp Try.results51 _ _ _) rfl ?_
  exact ⟨g1, rfl, GG, bg1, kg1⟩
theorem yT (w : World) : Calls Try.prog 34 #[] w fun e w' => ∃ p, e = .returned (pK p 0) ∧ Gro w w' ∧ w.heap.size ≤ p ∧ WX 121 (c121 0 Sl.nil 0) w' p w.heap.size none 0 [] := by
  refine jT Try.func34 rfl Try.ntmps34 [] [undef, undef, undef] rfl ?_
  have GG := Gro.refl w
  refine wp_seq (wp_region_lit (mv 0 (.pointer none) ?_))
  refine nr ?_; intro U h; simp only [z0] at h; subst h
  refine wpList_nil (ja (wp_seq (wp_region_lit (sv 1 (.agg (c121 0 Sl.nil 0)) (jA 121 _ rfl [] rfl _ (by kernel_rfl)) ?_))))
  refine jE 2 rfl rfl 121 _ rfl _ rfl (c121 0 Sl.nil 0) rfl ?_
  intro w1 g1 G eg1 kg1
  have bg1 := jh GG eg1
  replace GG := GG.trans G
  clear G eg1
  refine mv 0 (pK g1 0) ?_
  refine nr ?_; intro U h; simp only [z0, z1] at h; subst h
  refine wpList_nil (ja (wp_ret ?_))
  refine bodyPost_ret (results_tmp Try.results34 _ _ _) rfl ?_
  exact ⟨g1, rfl, GG, bg1, WX.new kg1 bg1 (by decide)⟩
theorem yi (w : World) (p B : Nat) (ro : Option Addr) (rc : Nat) (q : List RV) (k c : Nat) (H : WX 121 (c121 ((k + q.length : Nat) : Int) ⟨ro, q.length, rc⟩ ((c : Nat) : Int)) w p B ro rc q) (hk : k + q.length ≤ 100000) (_hc : c ≤ 100000) : Calls Try.prog 52 #[pK p 0] w fun e w' => e = .returned (iK ((k + 1 : Nat) : Int)) ∧ Gro w w' := by
  refine jT Try.func52 rfl Try.ntmps52 [pK p 0] [pK p 0, undef, undef, undef, undef, undef, undef, undef, undef, undef, undef, undef, undef, undef] rfl ?_
  have GG := Gro.refl w
  have kp := H.box
  have hpl := H.lt
  have hBl := H.bl
  refine wp_seq (wp_region_lit (mv 2 (iK 0) (wpList_nil (ja (wp_seq ?_)))))
  refine jw (A := ?Ax1) 9 [(0, 3), (1, 4), (2, 5), (3, 6), (4, 7), (5, 8), (6, 9), (7, 10), (8, 11)] [.val (pK p 0), .val (pK p 0), .val (pK p 0), .val (iK ((k + q.length : Nat) : Int)), .val (pK p 0), .val (pK p 0), .val (pK p 1), .val (.slice ro q.length rc), .val (iK ((q.length : Nat) : Int))] follows (by kernel_rfl) rfl ?hAx1 (jd ?o0x1 (jd ?o1x1 (jd ?o2x1 (jd ?o3x1 (jd ?o4x1 (jd ?o5x1 (jd ?o6x1 (jd ?o7x1 (jd ?o8x1 jM))))))))) ?restx1
  case hAx1 =>
    intro ptrs
    simp only [full, foldSlots, filledE, postE, List.foldl_cons, List.foldl_nil, List.getD_cons_zero, List.getD_cons_succ, ju, List.set_cons_zero, List.set_cons_succ]
    exact rfl
  case o0x1 => exact fun _ _ _ _ => jj (v := pK p 0) _ rfl rfl rfl
  case o1x1 => exact fun _ _ hw _ => jb (v := pK p 0) rfl (jl _ rfl _ rfl)
  case o2x1 => exact fun _ _ hw _ => jb (v := pK p 0) rfl (jc 121 _ 0 rfl _ _ rfl _)
  case o3x1 => exact fun _ _ hw _ => jb (v := iK ((k + q.length : Nat) : Int)) rfl (je 2 _ rfl p 0 rfl 121 _ (hw.has kp) (na2 _) _ rfl)
  case o4x1 => exact fun _ _ _ _ => jj (v := pK p 0) _ rfl rfl rfl
  case o5x1 => exact fun _ _ hw _ => jb (v := pK p 0) rfl (jl _ rfl _ rfl)
  case o6x1 => exact fun _ _ hw _ => jb (v := pK p 1) rfl (jc 121 _ 1 rfl _ _ rfl _)
  case o7x1 => exact fun _ _ hw _ => jb (v := .slice ro q.length rc) rfl (je 30 _ rfl p 1 rfl 121 _ (hw.has kp) (na30 _) _ rfl)
  case o8x1 => exact fun _ _ hw _ => jb (v := iK ((q.length : Nat) : Int)) rfl (jG Try.underlying30 _ rfl _ _ _ rfl _)
  intro ptrs w1 GD hxE
  simp only [List.drop_succ_cons, List.drop_zero]
  replace kp := GD.has kp
  replace GG := GG.drew.trans GD
  clear GD
  refine sv 12 (iK ((k : Nat) : Int)) (zm 2 _ _ _ rfl ((k + q.length : Nat) : Int) ((q.length : Nat) : Int) ((k : Nat) : Int) rfl rfl (by omega) (by omega) (by omega) _) (sv 13 (iK ((k + 1 : Nat) : Int)) (jF 2 _ _ _ rfl ((k : Nat) : Int) 1 ((k + 1 : Nat) : Int) rfl rfl (by omega) (by omega) (by omega) _) (mv 2 (iK ((k + 1 : Nat) : Int)) (wpList_nil (ja (wp_ret ?_)))))
  refine bodyPost_ret (results_tmp Try.results52 _ _ _) rfl ?_
  exact ⟨rfl, GG⟩
theorem YQ (w : World) (p B : Nat) (ro : Option Addr) (rc : Nat) (q : List RV) (k c : Nat) (H : WX 121 (c121 ((k + q.length : Nat) : Int) ⟨ro, q.length, rc⟩ ((c : Nat) : Int)) w p B ro rc q) (_hk : k + q.length ≤ 100000) (_hc : c ≤ 100000) : Calls Try.prog 49 #[pK p 0] w fun e w' => e = .returned (iK ((c : Nat) : Int)) ∧ Gro w w' := by
  refine jT Try.func49 rfl Try.ntmps49 [pK p 0] [pK p 0, undef, undef, undef, undef, undef, undef, undef, undef] rfl ?_
  have GG := Gro.refl w
  have kp := H.box
  have hpl := H.lt
  have hBl := H.bl
  refine wp_seq (wp_region_lit (mv 2 (iK 0) (wpList_nil (ja (wp_seq (wp_seq (wp_region_lit (mv 3 (pK p 0) (sv 4 (vFa) (ze 95 _ _ _ rfl _ rfl rfl Try.underlying95 _) (wpList_nil (ja (wp_cond_false rfl (wp_skip (ja (wp_seq ?_)))))))))))))))
  refine wp_region_lit (mv 5 (pK p 0) (sv 6 (pK p 0) (jl _ rfl _ rfl) (sv 7 (pK p 2) (jc 121 _ 2 rfl _ _ rfl _) (sv 8 (iK ((c : Nat) : Int)) (je 2 _ rfl p 2 rfl 121 _ kp (na2 _) _ rfl) (mv 2 (iK ((c : Nat) : Int)) ?_)))))
  refine wpList_nil (ja (wp_ret ?_))
  refine bodyPost_ret (results_tmp Try.results49 _ _ _) rfl ?_
  exact ⟨rfl, GG⟩
theorem YW (w : World) (p B : Nat) (ro : Option Addr) (rc : Nat) (q : List RV) (k c : Nat) (H : WX 121 (c121 ((k + q.length : Nat) : Int) ⟨ro, q.length, rc⟩ ((c : Nat) : Int)) w p B ro rc q) (_hk : k + q.length ≤ 100000) (hc : c ≤ 100000) (i : Int) (hi : i ≠ ((c : Nat) : Int) + 1) : Calls Try.prog 59 #[pK p 0, iK i] w fun e w' => e = .returned (vFa) ∧ Gro w w' := by
  refine jq Try.func59 rfl Try.ntmps59 [pK p 0, iK i] ?_
  intro U h; simp only [List.length_cons, List.length_nil, List.cons_append, List.nil_append, Nat.reduceAdd, Nat.reduceSub, List.reduceReplicate] at h; subst h
  have GG := Gro.refl w
  have kp := H.box
  have hpl := H.lt
  have hBl := H.bl
  refine wp_seq (wp_region_lit (mv 4 (vFa) (wpList_nil (ja (wp_seq (wp_seq ?_))))))
  refine jr ?_
  intro OPS hY
  have y2 := hY 2 7 rfl
  clear hY
  refine mv 5 (pK p 0) (sv 6 (vFa) (ze 95 _ _ _ rfl _ rfl rfl Try.underlying95 _) (mv 7 (vFa) (jn 8 rfl rfl y2 rfl (iK i) (rfl) (jn 9 rfl rfl y2 rfl (pK p 0) (rfl) ?_))))
  refine jn 10 rfl rfl y2 rfl (pK p 0) (jl _ rfl _ rfl) (jn 11 rfl rfl y2 rfl (pK p 2) (jc 121 _ 2 rfl _ _ rfl _) (jn 12 rfl rfl y2 rfl (iK ((c : Nat) : Int)) (je 2 _ rfl p 2 rfl 121 _ kp (na2 _) _ rfl) ?_))
  refine nr ?_; intro U h; simp only [z0, z1] at h; subst h
  refine jn 13 rfl rfl y2 rfl (iK ((c + 1 : Nat) : Int)) (jF 2 _ _ _ rfl ((c : Nat) : Int) 1 ((c + 1 : Nat) : Int) rfl rfl (by omega) (by omega) (by omega) _) (jn 14 rfl rfl y2 rfl (vTr) (zG 2 .i64 _ _ _ rfl Try.underlying2 i ((c + 1 : Nat) : Int) rfl rfl true (decide_eq_false (by omega)) _) (mv 15 (vTr) (wpList_nil (ja (wp_cond_true rfl (wp_seq (wp_region_lit (mv 4 (vFa) (wpList_nil (ja (wp_ret (jL ?_))))))))))))
  refine bodyPost_ret (results_tmp Try.results59 _ _ _) rfl ?_
  exact ⟨rfl, GG⟩
theorem YV (w : World) (p B : Nat) (ro : Option Addr) (rc : Nat) (q : List RV) (k c : Nat) (H : WX 121 (c121 ((k + q.length : Nat) : Int) ⟨ro, q.length, rc⟩ ((c : Nat) : Int)) w p B ro rc q) (_hk : k + q.length ≤ 100000) (hc : c ≤ 100000) (i : Int) (hi : i = ((c : Nat) : Int) + 1) : Calls Try.prog 59 #[pK p 0, iK i] w fun e w' => e = .returned (vTr) ∧ GroS [p] w w' ∧ WX 121 (c121 ((k + q.length : Nat) : Int) ⟨ro, q.length, rc⟩ ((c + 1 : Nat) : Int)) w' p B ro rc q := by
  refine jq Try.func59 rfl Try.ntmps59 [pK p 0, iK i] ?_
  intro U h; simp only [List.length_cons, List.length_nil, List.cons_append, List.nil_append, Nat.reduceAdd, Nat.reduceSub, List.reduceReplicate] at h; subst h
  have GG := GroS.refl [p] w
  have kp := H.box
  have hpl := H.lt
  have hBl := H.bl
  refine wp_seq (wp_region_lit (mv 4 (vFa) (wpList_nil (ja (wp_seq (wp_seq ?_))))))
  refine jr ?_
  intro OPS hY
  have y2 := hY 2 7 rfl
  clear hY
  refine mv 5 (pK p 0) (sv 6 (vFa) (ze 95 _ _ _ rfl _ rfl rfl Try.underlying95 _) (mv 7 (vFa) (jn 8 rfl rfl y2 rfl (iK i) (rfl) (jn 9 rfl rfl y2 rfl (pK p 0) (rfl) ?_))))
  refine jn 10 rfl rfl y2 rfl (pK p 0) (jl _ rfl _ rfl) (jn 11 rfl rfl y2 rfl (pK p 2) (jc 121 _ 2 rfl _ _ rfl _) (jn 12 rfl rfl y2 rfl (iK ((c : Nat) : Int)) (je 2 _ rfl p 2 rfl 121 _ kp (na2 _) _ rfl) ?_))
  refine nr ?_; intro U h; simp only [z0, z1] at h; subst h
  refine jn 13 rfl rfl y2 rfl (iK ((c + 1 : Nat) : Int)) (jF 2 _ _ _ rfl ((c : Nat) : Int) 1 ((c + 1 : Nat) : Int) rfl rfl (by omega) (by omega) (by omega) _) (jn 14 rfl rfl y2 rfl (vFa) (zG 2 .i64 _ _ _ rfl Try.underlying2 i ((c + 1 : Nat) : Int) rfl rfl false (decide_eq_true (by omega)) _) (mv 15 (vFa) (wpList_nil (ja (wp_cond_false rfl (wp_skip (ja (wp_seq (wp_region_lit (mv 16 (pK p 0) (sv 17 (pK p 0) (jl _ rfl _ rfl) ?_)))))))))))
  refine sv 18 (pK p 2) (jc 121 _ 2 rfl _ _ rfl _) (sv 19 (iK ((c : Nat) : Int)) (je 2 _ rfl p 2 rfl 121 _ kp (na2 _) _ rfl) (sv 20 (iK ((c + 1 : Nat) : Int)) (jF 2 _ _ _ rfl ((c : Nat) : Int) 1 ((c + 1 : Nat) : Int) rfl rfl (by omega) (by omega) (by omega) _) (sv 21 (pK p 0) (jl _ rfl _ rfl) ?_)))
  refine nr ?_; intro U h; simp only [z0, z1] at h; subst h
  refine sv 22 (pK p 2) (jc 121 _ 2 rfl _ _ rfl _) ?_
  refine jo rfl rfl 2 _ _ rfl p 2 rfl (iK ((c + 1 : Nat) : Int)) rfl 121 _ kp #[iK ((c + 1 : Nat) : Int)] rfl (by kernel_rfl) (nlB rfl) (by kernel_rfl) (c121 ((k + q.length : Nat) : Int) ⟨ro, q.length, rc⟩ ((c + 1 : Nat) : Int)) (by kernel_rfl) ?_
  intro w2 St
  replace GG := GG.st St (.inr (by simp))
  replace kp := St.new
  clear St
  refine wpList_nil (ja (wp_seq (wp_region_lit (mv 4 (vTr) (wpList_nil (ja (wp_ret ?_)))))))
  refine bodyPost_ret (results_tmp Try.results59 _ _ _) rfl ?_
  refine ⟨rfl, GG, ⟨kp, H.row.gros GG (fun k hk hm => by rw [List.mem_singleton.1 hm] at hk; exact H.ne hk), fun x hx => (H.fr x hx).gros GG (fun ad ha hm => H.f5 H.own x hx ad ha (by rw [List.mem_singleton.1 hm]; exact List.mem_cons_self)), H.base, H.sm, H.ty⟩⟩
def SendP (w : World) (p B : Nat) (ro : Option Addr) (q : List RV) (k c : Nat) (l : List Nat) (e : Ending) (w' : World) : Prop :=
  ∃ ao2 cap2 y, e = .returned (.tuple #[iK ((k + (q ++ [y]).length : Nat) : Int), iK 0]) ∧ y.l = l ∧ GroS (p :: blk ro) w w' ∧ WX 121 (c121 ((k + (q ++ [y]).length : Nat) : Int) ⟨ao2, (q ++ [y]).length, cap2⟩ ((c : Nat) : Int)) w' p B ao2 cap2 (q ++ [y]) ∧ OB w' 5 .u8 w.heap.size y.ao y.cap y.l ∧ Kept w.heap.size ro ao2
theorem Yy (w : World) (p B : Nat) (ro : Option Addr) (rc : Nat) (q : List RV) (k c : Nat) (H : WX 121 (c121 ((k + q.length : Nat) : Int) ⟨ro, q.length, rc⟩ ((c : Nat) : Int)) w p B ro rc q) (hk : k + q.length ≤ 100000) (_hc : c ≤ 100000) (ao : Option Addr) (cap : Nat) (l : List Nat) (HB : NC w .u8 ao cap l) (hne : ∀ ad, ao = some ad → 0 < l.length → ad.block ∉ blk ro) (hl : l.length ≤ 140737488355000) : Calls Try.prog 40 #[pK p 0, .slice ao l.length cap] w (SendP w p B ro q k c l) := by
  refine jq Try.func40 rfl Try.ntmps40 [pK p 0, .slice ao l.length cap] ?_
  intro U h; simp only [List.length_cons, List.length_nil, List.cons_append, List.nil_append, Nat.reduceAdd, Nat.reduceSub, List.reduceReplicate] at h; subst h
  have GG := GroS.refl (p :: blk ro) w
  have kp := H.box
  have hpl := H.lt
  have hBl := H.bl
  refine wp_seq (wp_region_lit (mv 4 (iK 0) (mv 5 (iK 0) (wpList_nil (ja (wp_seq (wp_seq (wp_region_lit (mv 6 (pK p 0) (sv 7 (vFa) (ze 95 _ _ _ rfl _ rfl rfl Try.underlying95 _) (wpList_nil (ja (wp_cond_false rfl (wp_skip (ja ?_)))))))))))))))
  refine wp_seq ?_
  refine zd (A := ?Ag2) (blk ro) 9 [(0, 8), (1, 9), (2, 10), (3, 11), (4, 12), (5, 13), (6, 14), (7, 15), (8, 16)] [.val (pK p 0), .val (pK p 0), .val (pK p 0), .val (pK p 1), .val (.slice ro q.length rc), .val (.slice ao l.length cap), cpE w.heap.size l, bsE w.heap.size l, ptE w.heap.size B ro q l] 8 follows (by kernel_rfl) rfl (by decide) (fun j hj hne v a b _ hb hp => match j, hj, hne, hp with | 0, _, _, hp => hp | 1, _, _, hp => hp | 2, _, _, hp => hp | 3, _, _, hp => hp | 4, _, _, hp => hp | 5, _, _, hp => hp | 6, _, _, hp => Exists.elim hp fun g hp => ⟨g, hp.1, hp.2.1, hb.has hp.2.2 (zN H.row rfl hp.2.1)⟩ | 7, _, _, hp => Exists.elim hp fun y hp => Exists.elim hp fun h hp => ⟨y, h, hp.1, hp.2.1, hp.2.2.1, ob_av H.row rfl hb hp.2.2.2.1, hb.has hp.2.2.2.2 (zN H.row rfl hp.2.1)⟩ | 8, _, hne, _ => absurd rfl hne | m + 9, hj, _, _ => absurd hj (by omega)) ?hAg2 (jp (by decide) ?o0g2 (jp (by decide) ?o1g2 (jp (by decide) ?o2g2 (jp (by decide) ?o3g2 (jp (by decide) ?o4g2 (jp (by decide) ?o5g2 (jp (by decide) ?o6g2 (jp (by decide) ?o7g2 (zW ?o8g2 zy))))))))) ?restg2
  case hAg2 =>
    intro ptrs
    simp only [full, foldSlots, filledE, postE, List.foldl_cons, List.foldl_nil, List.getD_cons_zero, List.getD_cons_succ, ju, YT, YU, YR,  List.set_cons_zero, List.set_cons_succ]
    exact rfl
  case o0g2 => exact fun _ _ _ _ => jj (v := pK p 0) _ rfl rfl rfl
  case o1g2 => exact fun _ _ _ _ => jj (v := pK p 0) _ rfl rfl rfl
  case o2g2 => exact fun _ _ hw _ => jb (v := pK p 0) rfl (jl _ rfl _ rfl)
  case o3g2 => exact fun _ _ hw _ => jb (v := pK p 1) rfl (jc 121 _ 1 rfl _ _ rfl _)
  case o4g2 => exact fun _ _ hw _ => jb (v := .slice ro q.length rc) rfl (je 30 _ rfl p 1 rfl 121 _ (hw.has kp (H.ne)) (na30 _) _ rfl)
  case o5g2 => exact fun _ _ _ _ => jj (v := .slice ao l.length cap) _ rfl rfl rfl
  case o6g2 => exact fun _ x hw _ => zK (cpE w.heap.size l) rfl _ 51 Try.call51 rfl rfl _ rfl [.slice ao l.length cap] rfl ((vV _ ao cap l (hw.nc (HB.gro (Gro.refl _).drew) hne) hl).mono fun e w' ⟨g, he, hg, hz, hk⟩ => ⟨_, he, hg, g, rfl, Nat.le_trans hw.size hz, hk⟩)
  case o7g2 =>
    intro ptrs x hw hE
    obtain ⟨⟨g, hg, h1, h2⟩, _⟩ := hE
    refine za _ rfl (zp 30 1 _ rfl [(0, .slice (some ⟨g, 0, none⟩) l.length l.length)] (by exact congrArg (fun v => [(0, v)]) hg) (by kernel_rfl)) (jR _ _) ⟨⟨some ⟨g, 0, none⟩, l.length, l⟩, x.heap.size, rfl, hw.size, rfl, ?_, heap_alloc_new _ _⟩
    exact (ob_all h2 h1 HB.lt256 (by simp only [maxLen]; omega)).gro (jR _ _)
  case o8g2 =>
    intro ptrs x hw hE
    exact YF (v := ptrs 7) _ _ rfl rfl H.row rfl hBl (by omega) ((Gro.refl _).drew.trans hw) rfl rfl hE.1
  intro ptrs w1 GS hxE
  simp only [List.drop_succ_cons, List.drop_zero]
  obtain ⟨_, _, ⟨ao2, cap2, y, hv, hyl, HY, HR, hkp⟩, _⟩ := hxE
  simp only [hv]
  have HF : ∀ x ∈ q, OB _ 5 .u8 B x.ao x.cap x.l := fun x hx => (H.fr x hx).gros (S := blk ro) ((GroS.refl _ w).drew.trans GS) (fun ad ha hm => H.f5 H.own x hx ad ha (List.mem_cons_of_mem _ hm))
  replace kp := GS.has kp H.ne
  replace GG := GG.drew.trans (GS.mono (T := p :: blk ro) (fun x hx => List.mem_cons_of_mem _ hx))
  have hp2 : p ∉ blk ao2 := HR.ne kp (by decide)
  clear GS hv
  have hyp : ∀ ad, y.ao = some ad → ad.block ≠ p := fun ad ha e => by have := (HY.ge ad ha).1; omega
  have hle : (q ++ [y]).length = q.length + 1 := by simp
  refine sv 17 (pK p 0) (jl _ rfl _ rfl) (sv 18 (pK p 1) (jc 121 _ 1 rfl _ _ rfl _) ?_)
  refine jo rfl rfl 30 _ _ rfl p 1 rfl (.slice ao2 ((q ++ [y]).length) cap2) rfl 121 _ kp #[.slice ao2 ((q ++ [y]).length) cap2] rfl (by kernel_rfl) (nlB rfl) (by kernel_rfl) (c121 ((k + q.length : Nat) : Int) ⟨ao2, (q ++ [y]).length, cap2⟩ ((c : Nat) : Int)) (by kernel_rfl) ?_
  intro w3 St
  replace HR := HR.st St hp2
  replace HY := HY.apart St hyp
  replace HF := fun x hx => (HF x hx).apart St (fun ad ha e => by obtain ⟨cur, hc⟩ := (HF x hx).blk5 ha; exact jy hc kp (by decide) e)
  replace GG := GG.st St (.inr (by simp))
  replace kp := St.new
  clear St
  refine wpList_nil (ja (wp_seq (wp_region_lit (mv 19 (pK p 0) (sv 20 (pK p 0) (jl _ rfl _ rfl) (sv 21 (pK p 0) (jc 121 _ 0 rfl _ _ rfl _) ?_))))))
  refine nr ?_; intro U h; simp only [z0, z1] at h; subst h
  refine sv 22 (iK ((k + q.length : Nat) : Int)) (je 2 _ rfl p 0 rfl 121 _ kp (na2 _) _ rfl) (sv 23 (iK ((k + (q ++ [y]).length : Nat) : Int)) (jF 2 _ _ _ rfl ((k + q.length : Nat) : Int) 1 ((k + (q ++ [y]).length : Nat) : Int) rfl rfl (by omega) (by omega) (by omega) _) (sv 24 (pK p 0) (jl _ rfl _ rfl) (sv 25 (pK p 0) (jc 121 _ 0 rfl _ _ rfl _) ?_)))
  refine jo rfl rfl 2 _ _ rfl p 0 rfl (iK ((k + (q ++ [y]).length : Nat) : Int)) rfl 121 _ kp #[iK ((k + (q ++ [y]).length : Nat) : Int)] rfl (by kernel_rfl) (nlB rfl) (by kernel_rfl) (c121 ((k + (q ++ [y]).length : Nat) : Int) ⟨ao2, (q ++ [y]).length, cap2⟩ ((c : Nat) : Int)) (by kernel_rfl) ?_
  intro w5 St
  replace HR := HR.st St hp2
  replace HY := HY.apart St hyp
  replace HF := fun x hx => (HF x hx).apart St (fun ad ha e => by obtain ⟨cur, hc⟩ := (HF x hx).blk5 ha; exact jy hc kp (by decide) e)
  replace GG := GG.st St (.inr (by simp))
  replace kp := St.new
  clear St
  refine wpList_nil (ja (wp_seq (wp_region_lit (mv 26 (pK p 0) (sv 27 (pK p 0) (jl _ rfl _ rfl) (sv 28 (pK p 0) (jc 121 _ 0 rfl _ _ rfl _) (sv 29 (iK ((k + (q ++ [y]).length : Nat) : Int)) (je 2 _ rfl p 0 rfl 121 _ kp (na2 _) _ rfl) (mv 4 (iK ((k + (q ++ [y]).length : Nat) : Int)) ?_))))))))
  refine nr ?_; intro U h; simp only [z0, z1] at h; subst h
  refine mv 5 (iK 0) (wpList_nil (ja (wp_ret ?_)))
  refine bodyPost_ret (results_tmp2 Try.results40 _ _ _) rfl ?_
  refine ⟨ao2, cap2, y, rfl, hyl, GG, ⟨kp, HR, fun x hx => ?_, H.base, fun x hx => ?_, H.ty⟩, HY, hkp⟩
  rcases List.mem_append.1 hx with hx | hx
  exact HF x hx
  cases List.mem_singleton.1 hx
  exact HY.mono hBl
  rcases List.mem_append.1 hx with hx | hx
  exact H.sm x hx
  cases List.mem_singleton.1 hx
  rw [hyl]; exact hl
theorem Zb (w : World) (p B : Nat) (ro : Option Addr) (rc : Nat) (q : List RV) (k c : Nat) (H : WX 121 (c121 ((k + q.length : Nat) : Int) ⟨ro, q.length, rc⟩ ((c : Nat) : Int)) w p B ro rc q) (hk : k + q.length ≤ 100000) (hc : c ≤ 100000) : Calls Try.prog 37 #[pK p 0] w fun e w' => ∃ g r, e = .returned (.tuple #[iK ((k + 1 : Nat) : Int), .slice (some ⟨g, 0, none⟩) r.length r.length]) ∧ Gro w w' ∧ r.map (·.2) = q.map (·.l) ∧ AL w' w.heap.size g r := by
  refine jq Try.func37 rfl Try.ntmps37 [pK p 0] ?_
  intro U h; simp only [List.length_cons, List.length_nil, List.cons_append, List.nil_append, Nat.reduceAdd, Nat.reduceSub, List.reduceReplicate] at h; subst h
  have GG := Gro.refl w
  have kp := H.box
  have hpl := H.lt
  have hBl := H.bl
  refine wp_seq (wp_region_lit (mv 2 (iK 0) (mv 3 (.slice none 0 0) (wpList_nil (ja (wp_seq (wp_seq (wp_region_lit (mv 6 (pK p 0) (sv 7 (vFa) (ze 95 _ _ _ rfl _ rfl rfl Try.underlying95 _) (wpList_nil (ja (wp_cond_false rfl (wp_skip (ja ?_)))))))))))))))
  refine wp_seq (wp_region_lit (mv 8 (pK p 0) (sv 9 (pK p 0) (jl _ rfl _ rfl) (sv 10 (pK p 1) (jc 121 _ 1 rfl _ _ rfl _) (sv 11 (.slice ro q.length rc) (je 30 _ rfl p 1 rfl 121 _ kp (na30 _) _ rfl) (sv 12 (iK ((q.length : Nat) : Int)) (jG Try.underlying30 _ rfl _ _ _ rfl _) ?_))))))
  refine nr ?_; intro U h; simp only [z0, z1] at h; subst h
  refine Yz rY rfl 13 rfl rfl _ _ rfl q.length rfl rfl (by omega) (by simp only [maxLen]; omega) ?_
  intro w1 g G eg kg
  have bg := jh GG eg
  have dpg := jf kp eg
  clear eg
  replace kp := G.has kp
  replace GG := GG.trans G
  clear G
  refine mv 4 (.slice (some ⟨g, 0, none⟩) q.length q.length) (wpList_nil (ja (wp_seq (wp_seq (wp_region_lit (mv 14 (.slice (some ⟨g, 0, none⟩) q.length q.length) (sv 15 (iK ((q.length : Nat) : Int)) (jG Try.underlying30 _ rfl _ _ _ rfl _) (mv 16 (iK 0) (wpList_nil (ja (wp_block ?_)))))))))))
  refine zl (fun mz az wv => ∃ (j : Nat) (r : List (Nat × List Nat)) (us1 : Nat → Value), mz = q.length - j ∧ az = ⟨[pK p 0, undef, iK 0, .slice none 0 0, .slice (some ⟨g, 0, none⟩) q.length q.length, us1 0, pK p 0, vFa, pK p 0, pK p 0, pK p 1, .slice ro q.length rc, iK ((q.length : Nat) : Int), .slice (some ⟨g, 0, none⟩) q.length q.length, .slice (some ⟨g, 0, none⟩) q.length q.length, iK ((q.length : Nat) : Int), iK ((j : Nat) : Int), us1 1, us1 2, us1 3, us1 4, us1 5, us1 6, us1 7, us1 8, us1 9, us1 10, us1 11, us1 12, us1 13, us1 14, undef, undef, undef].toArray, []⟩ ∧ j ≤ q.length ∧ r.length = j ∧ r.map (·.2) = (q.map (·.l)).take j ∧ Gro w wv ∧ wv.heap[g]? = some (.cells ((r.map rv ++ List.replicate (q.length - j) (Value.slice none 0 0)).toArray) 36 (0, 0)) ∧ AF w.heap.size g wv r) ?_ _ ⟨0, [], usB [5, 17, 18, 19, 20, 21, 22, 23, 24, 25, 26, 27, 28, 29, 30] rfl rfl ⟨Nat.zero_le _, rfl, rfl, GG, (by simpa using kg), (fun x hx => by cases hx)⟩⟩
  clear GG
  rintro mz az wv ⟨j, r, us1, rfl, rfl, hj, hr, hrl, GG, kg, HA⟩
  clear kp
  have kp := GG.has H.box
  refine wp_seq (wp_region_lit ?_)
  obtain ⟨p1, hp1⟩ : ∃ p, decide (((j : Nat) : Int) < ((q.length : Nat) : Int)) = p := ⟨_, rfl⟩
  refine sv 17 (.bool p1) (jP 3 _ _ _ rfl ((j : Nat) : Int) ((q.length : Nat) : Int) rfl rfl p1 hp1 _) ?_
  refine nr ?_; intro U h; simp only [z0, z1] at h; subst h
  cases p1
  have hjn : j = q.length := by have := of_decide_eq_false hp1; omega
  refine wpList_nil (ja (wp_seq (wp_cond_false rfl (wp_exit (jZ (jZ (zZ (ja (wp_seq (wp_region_lit (mv 31 (pK p 0) ?_)))))))))))
  refine jC 32 rfl rfl _ 52 Try.call52 rfl rfl _ rfl [pK p 0] rfl (yi _ p B ro rc q k c (H.gro GG) hk hc) ?_
  intro w2 G
  replace kp := G.has kp
  replace kg := G.has kg
  replace HA := HA.gro G
  replace GG := GG.trans G
  clear G
  refine mv 33 (.slice (some ⟨g, 0, none⟩) q.length q.length) (mv 2 (iK ((k + 1 : Nat) : Int)) (mv 3 (.slice (some ⟨g, 0, none⟩) q.length q.length) (wpList_nil (ja (wp_ret ?_)))))
  refine bodyPost_ret (results_tmp2 Try.results37 _ _ _) rfl ?_
  subst hjn
  refine ⟨g, r, ?_, GG, ?_, bg, ?_, fun x hx => ⟨(HA x hx).1.1, (HA x hx).2⟩⟩
  rw [hr]
  rfl
  rw [hrl, List.take_of_length_le (by simp)]
  simpa using kg
  have hjn : j < q.length := by have := of_decide_eq_true hp1; omega
  obtain ⟨x, hx⟩ : ∃ x, q[j]? = some x := ⟨_, List.getElem?_eq_getElem hjn⟩
  have hxq := List.mem_of_getElem? hx
  have hx1 := H.sm x hxq
  obtain ⟨ad, hao, hcl⟩ := H.at hx
  have hgl := jm kg
  refine wpList_nil (ja (wp_seq (wp_cond_true rfl (wp_skip (ja (wp_seq (wp_block (wp_seq (wp_region_lit (mv 18 (iK ((j : Nat) : Int)) (mv 5 (iK ((j : Nat) : Int)) (wpList_nil (ja (wp_region_lit (mv 19 (.slice (some ⟨g, 0, none⟩) q.length q.length) ?_)))))))))))))))
  refine mv 20 (iK ((j : Nat) : Int)) ?_
  refine nr ?_; intro U h; simp only [z0, z1] at h; subst h
  refine mv 21 (pK p 0) (sv 22 (pK p 0) (jl _ rfl _ rfl) (sv 23 (pK p 1) (jc 121 _ 1 rfl _ _ rfl _) (sv 24 (.slice ro q.length rc) (je 30 _ rfl p 1 rfl 121 _ kp (na30 _) _ rfl) (mv 25 (iK ((j : Nat) : Int)) ?_))))
  refine sv 26 (.pointer (some (ad.add j))) (vd _ _ rfl ad q.length rc j (by exact congrArg (fun a => Value.slice a q.length rc) hao) rfl hjn _) (sv 27 (.slice x.ao x.l.length x.cap) (uZ _ rfl _ rfl _ _ (Yb GG hcl)) ?_)
  refine jt 28 rfl rfl _ 51 Try.call51 rfl rfl _ rfl [.slice x.ao x.l.length x.cap] rfl (vV _ x.ao x.cap x.l ((H.fr x hxq).gro GG).nc hx1) (fun _ _ ⟨_, he, _⟩ => ⟨_, he⟩) ?_
  rintro v w2 ⟨gc, he, G, bgc, kgc⟩
  cases he
  have hgc : gc ≠ g := by omega
  replace bgc := Nat.le_trans GG.size bgc
  replace kg := G.has kg
  replace HA := HA.gro G
  replace GG := GG.trans G
  clear G kp
  refine sv 29 (pK g j) (Ja _ _ rfl g q.length q.length j rfl rfl hjn _) ?_
  refine nr ?_; intro U h; simp only [z0, z1] at h; subst h
  refine jo rfl rfl 36 _ _ rfl g j rfl (.slice (some ⟨gc, 0, none⟩) x.l.length x.l.length) rfl 36 _ kg #[.slice (some ⟨gc, 0, none⟩) x.l.length x.l.length] rfl si36 (by simp; omega) (by kernel_rfl) _ (uX (r.map rv) _ _ q.length j (by simpa using hr) hjn) ?_
  intro w3 St
  replace GG := GG.store St bg
  replace kgc := St.has hgc kgc
  replace HA := HA.st St
  have kg2 := St.new
  clear St kg
  refine wpList_nil (jQ (ja (wp_region_lit (sv 30 (iK ((j + 1 : Nat) : Int)) (jF 3 _ _ _ rfl ((j : Nat) : Int) 1 ((j + 1 : Nat) : Int) rfl rfl (by omega) (by omega) (by omega) _) (mv 16 (iK ((j + 1 : Nat) : Int)) (wpList_nil (ja ?_)))))))
  refine ⟨_, (by omega : q.length - (j + 1) < q.length - j), j + 1, r ++ [(gc, x.l)], usB [5, 17, 18, 19, 20, 21, 22, 23, 24, 25, 26, 27, 28, 29, 30] rfl rfl ⟨hjn, (by simp [hr]), ?_, GG, (by simpa [rv] using kg2), ?_⟩⟩
  rw [List.map_append, hrl, List.take_add_one, List.getElem?_map, hx]; rfl
  intro y hy
  rcases List.mem_append.1 hy with hy | hy
  exact HA y hy
  cases List.mem_singleton.1 hy
  exact ⟨⟨bgc, hgc⟩, kgc, (H.fr x hxq).nc.lt256⟩
theorem Zw (w : World) (p B : Nat) (ro : Option Addr) (rc : Nat) (q : List RV) (k c : Nat) (H : WX 121 (c121 ((k + q.length : Nat) : Int) ⟨ro, q.length, rc⟩ ((c : Nat) : Int)) w p B ro rc q) (hk : k + q.length ≤ 100000) (hc : c ≤ 100000) (i : Int) (hi : i < ((k : Nat) : Int) + 1) : Calls Try.prog 60 #[pK p 0, iK i] w fun e w' => e = .returned (iK 0) ∧ Gro w w' := by
  refine jq Try.func60 rfl Try.ntmps60 [pK p 0, iK i] ?_
  intro U h; simp only [List.length_cons, List.length_nil, List.cons_append, List.nil_append, Nat.reduceAdd, Nat.reduceSub, List.reduceReplicate] at h; subst h
  have GG := Gro.refl w
  have kp := H.box
  have hpl := H.lt
  have hBl := H.bl
  refine wp_seq (wp_region_lit (mv 4 (iK 0) (wpList_nil (ja (wp_seq (wp_seq ?_))))))
  refine jr ?_
  intro OPS hY
  have y2 := hY 2 9 rfl
  have y8 := hY 8 15 rfl
  clear hY
  refine mv 7 (pK p 0) (sv 8 (vFa) (ze 95 _ _ _ rfl _ rfl rfl Try.underlying95 _) (mv 9 (vFa) (jn 10 rfl rfl y2 rfl (iK i) (rfl) (jn 11 rfl rfl y2 rfl (pK p 0) (rfl) ?_))))
  refine yF 12 rfl rfl y2 rfl _ 52 Try.call52 rfl rfl _ rfl [pK p 0] rfl (yi _ p B ro rc q k c (H.gro GG) hk hc) ?_
  intro w1 G
  replace kp := G.has kp
  replace GG := GG.trans G
  clear G
  refine jn 13 rfl rfl y2 rfl (vTr) (jP 2 _ _ _ rfl i ((k + 1 : Nat) : Int) rfl rfl true (by first | exact decide_eq_true (by omega) | exact decide_eq_false (by omega)) _) (mv 14 (vTr) ?_)
  refine nr ?_; intro U h; simp only [z0, z1] at h; subst h
  refine mv 15 (vTr) (jO 16 rfl rfl y8 rfl (jO 17 rfl rfl y8 rfl (jO 18 rfl rfl y8 rfl (jO 19 rfl rfl y8 rfl ?_))))
  refine jO 20 rfl rfl y8 rfl (jO 21 rfl rfl y8 rfl (mv 22 (vTr) (wpList_nil (ja (wp_cond_true rfl (wp_seq (wp_region_lit (mv 4 (iK 0) ?_))))))))
  refine nr ?_; intro U h; simp only [z0, z1] at h; subst h
  refine wpList_nil (ja (wp_ret (jL ?_)))
  refine bodyPost_ret (results_tmp Try.results60 _ _ _) rfl ?_
  exact ⟨rfl, GG⟩
theorem JP (w : World) (p B : Nat) (ro : Option Addr) (rc : Nat) (q : List RV) (k c : Nat) (H : WX 121 (c121 ((k + q.length : Nat) : Int) ⟨ro, q.length, rc⟩ ((c : Nat) : Int)) w p B ro rc q) (hk : k + q.length ≤ 100000) (hc : c ≤ 100000) (i : Int) (hi : ((k + q.length : Nat) : Int) < i) : Calls Try.prog 60 #[pK p 0, iK i] w fun e w' => e = .returned (iK 0) ∧ Gro w w' := by
  refine jq Try.func60 rfl Try.ntmps60 [pK p 0, iK i] ?_
  intro U h; simp only [List.length_cons, List.length_nil, List.cons_append, List.nil_append, Nat.reduceAdd, Nat.reduceSub, List.reduceReplicate] at h; subst h
  have GG := Gro.refl w
  have kp := H.box
  have hpl := H.lt
  have hBl := H.bl
  refine wp_seq (wp_region_lit (mv 4 (iK 0) (wpList_nil (ja (wp_seq (wp_seq ?_))))))
  refine jr ?_
  intro OPS hY
  have y2 := hY 2 9 rfl
  have y8 := hY 8 15 rfl
  clear hY
  refine mv 7 (pK p 0) (sv 8 (vFa) (ze 95 _ _ _ rfl _ rfl rfl Try.underlying95 _) (mv 9 (vFa) (jn 10 rfl rfl y2 rfl (iK i) (rfl) (jn 11 rfl rfl y2 rfl (pK p 0) (rfl) ?_))))
  refine yF 12 rfl rfl y2 rfl _ 52 Try.call52 rfl rfl _ rfl [pK p 0] rfl (yi _ p B ro rc q k c (H.gro GG) hk hc) ?_
  intro w1 G
  replace kp := G.has kp
  replace GG := GG.trans G
  clear G
  refine jn 13 rfl rfl y2 rfl (vFa) (jP 2 _ _ _ rfl i ((k + 1 : Nat) : Int) rfl rfl false (by first | exact decide_eq_true (by omega) | exact decide_eq_false (by omega)) _) (mv 14 (vFa) ?_)
  refine nr ?_; intro U h; simp only [z0, z1] at h; subst h
  refine mv 15 (vFa) (jn 16 rfl rfl y8 rfl (iK i) (rfl) (jn 17 rfl rfl y8 rfl (pK p 0) (rfl) (jn 18 rfl rfl y8 rfl (pK p 0) (jl _ rfl _ rfl) (jn 19 rfl rfl y8 rfl (pK p 0) (jc 121 _ 0 rfl _ _ rfl _) ?_))))
  refine jn 20 rfl rfl y8 rfl (iK ((k + q.length : Nat) : Int)) (je 2 _ rfl p 0 rfl 121 _ kp (na2 _) _ rfl) (jn 21 rfl rfl y8 rfl (vTr) (jD 2 _ _ _ rfl i ((k + q.length : Nat) : Int) rfl rfl true (by first | exact decide_eq_true (by omega) | exact decide_eq_false (by omega)) _) (mv 22 (vTr) (wpList_nil (ja (wp_cond_true rfl (wp_seq (wp_region_lit (mv 4 (iK 0) ?_))))))))
  refine nr ?_; intro U h; simp only [z0, z1] at h; subst h
  refine wpList_nil (ja (wp_ret (jL ?_)))
  refine bodyPost_ret (results_tmp Try.results60 _ _ _) rfl ?_
  exact ⟨rfl, GG⟩
theorem ZT (q : List RV) (j : Nat) (hj : j < q.length) : ((List.replicate j (Value.slice none 0 0) ++ (q.map RV.v).drop j)).set j (.slice none 0 0) = List.replicate (j + 1) (Value.slice none 0 0) ++ (q.map RV.v).drop (j + 1) := by
  rw [List.set_append_right _ _ (by simp), List.length_replicate, Nat.sub_self, List.replicate_succ', List.append_assoc]
  congr 1
  rw [List.drop_eq_getElem_cons (by simpa using hj)]
  rfl
theorem ZU (q : List RV) (j : Nat) (_hj : j ≤ q.length) : ((List.replicate j (Value.slice none 0 0) ++ (q.map RV.v).drop j)).drop (j * 1) = (q.drop j).map RV.v := by
  rw [Nat.mul_one, List.drop_left' (by simp), List.map_drop]
def AckP (w : World) (p B : Nat) (ro : Option Addr) (q : List RV) (k c m : Nat) (e : Ending) (w' : World) : Prop :=
  ∃ ao2 cap2, e = .returned (iK ((m : Nat) : Int)) ∧ GroS (p :: blk ro) w w' ∧ WX 121 (c121 ((k + m + (q.drop m).length : Nat) : Int) ⟨ao2, (q.drop m).length, cap2⟩ ((c : Nat) : Int)) w' p B ao2 cap2 (q.drop m) ∧ Kept w.heap.size ro ao2
theorem Yu (w : World) (p B : Nat) (ro : Option Addr) (rc : Nat) (q : List RV) (k c : Nat) (H : WX 121 (c121 ((k + q.length : Nat) : Int) ⟨ro, q.length, rc⟩ ((c : Nat) : Int)) w p B ro rc q) (hk : k + q.length ≤ 100000) (hc : c ≤ 100000) (i : Int) (m : Nat) (hm1 : 1 ≤ m) (hm : m ≤ q.length) (hi : i = ((k + m : Nat) : Int)) : Calls Try.prog 60 #[pK p 0, iK i] w (AckP w p B ro q k c m) := by
  refine jq Try.func60 rfl Try.ntmps60 [pK p 0, iK i] ?_
  intro U h; simp only [List.length_cons, List.length_nil, List.cons_append, List.nil_append, Nat.reduceAdd, Nat.reduceSub, List.reduceReplicate] at h; subst h
  have GG := GroS.refl (p :: blk ro) w
  have kp := H.box
  have hpl := H.lt
  have hBl := H.bl
  have HG := H
  refine wp_seq (wp_region_lit (mv 4 (iK 0) (wpList_nil (ja (wp_seq (wp_seq ?_))))))
  refine jr ?_
  intro OPS hY
  have y2 := hY 2 9 rfl
  have y8 := hY 8 15 rfl
  clear hY
  refine mv 7 (pK p 0) (sv 8 (vFa) (ze 95 _ _ _ rfl _ rfl rfl Try.underlying95 _) (mv 9 (vFa) (jn 10 rfl rfl y2 rfl (iK i) (rfl) (jn 11 rfl rfl y2 rfl (pK p 0) (rfl) ?_))))
  refine yF 12 rfl rfl y2 rfl _ 52 Try.call52 rfl rfl _ rfl [pK p 0] rfl (yi _ p B ro rc q k c HG hk hc) ?_
  intro w1 G
  replace kp := G.has kp
  replace HG := HG.gro G
  replace GG := GG.tg G
  clear G
  refine jn 13 rfl rfl y2 rfl (vFa) (jP 2 _ _ _ rfl i ((k + 1 : Nat) : Int) rfl rfl false (by first | exact decide_eq_true (by omega) | exact decide_eq_false (by omega)) _) (mv 14 (vFa) ?_)
  refine nr ?_; intro U h; simp only [z0, z1] at h; subst h
  refine mv 15 (vFa) (jn 16 rfl rfl y8 rfl (iK i) (rfl) (jn 17 rfl rfl y8 rfl (pK p 0) (rfl) (jn 18 rfl rfl y8 rfl (pK p 0) (jl _ rfl _ rfl) (jn 19 rfl rfl y8 rfl (pK p 0) (jc 121 _ 0 rfl _ _ rfl _) ?_))))
  refine jn 20 rfl rfl y8 rfl (iK ((k + q.length : Nat) : Int)) (je 2 _ rfl p 0 rfl 121 _ kp (na2 _) _ rfl) (jn 21 rfl rfl y8 rfl (vFa) (jD 2 _ _ _ rfl i ((k + q.length : Nat) : Int) rfl rfl false (by first | exact decide_eq_true (by omega) | exact decide_eq_false (by omega)) _) (mv 22 (vFa) (wpList_nil (ja (wp_cond_false rfl (wp_skip (ja (wp_seq (wp_region_lit (mv 23 (iK i) ?_))))))))))
  refine nr ?_; intro U h; simp only [z0, z1] at h; subst h
  refine mv 24 (pK p 0) ?_
  refine jC 25 rfl rfl _ 52 Try.call52 rfl rfl _ rfl [pK p 0] rfl (yi _ p B ro rc q k c HG hk hc) ?_
  intro w2 G
  replace kp := G.has kp
  replace HG := HG.gro G
  replace GG := GG.tg G
  clear G
  refine sv 26 (iK (((m : Nat) : Int) - 1)) (zm 2 _ _ _ rfl i ((k + 1 : Nat) : Int) (((m : Nat) : Int) - 1) rfl rfl (by omega) (by omega) (by omega) _) (sv 27 (iK ((m : Nat) : Int)) (jF 2 _ _ _ rfl (((m : Nat) : Int) - 1) 1 ((m : Nat) : Int) rfl rfl (by omega) (by omega) (by omega) _) (mv 5 (iK ((m : Nat) : Int)) (wpList_nil (ja (wp_seq (wp_seq (wp_region_lit (mv 28 (iK ((m : Nat) : Int)) (mv 29 (iK 0) ?_)))))))))
  refine wpList_nil (ja (wp_block ?_))
  refine zl (fun mz az wv => ∃ (j : Nat) (us1 : Nat → Value), mz = m - j ∧ az = ⟨[pK p 0, iK i, undef, undef, iK 0, iK ((m : Nat) : Int), us1 0, pK p 0, vFa, vFa, iK i, pK p 0, iK ((k + 1 : Nat) : Int), vFa, vFa, vFa, iK i, pK p 0, pK p 0, pK p 0, iK ((k + q.length : Nat) : Int), vFa, vFa, iK i, pK p 0, iK ((k + 1 : Nat) : Int), iK (((m : Nat) : Int) - 1), iK ((m : Nat) : Int), iK ((m : Nat) : Int), iK ((j : Nat) : Int), us1 1, us1 2, us1 3, us1 4, us1 5, us1 6, us1 7, us1 8, us1 9, undef, undef, undef, undef, undef, undef, undef, undef, undef, undef].toArray, []⟩ ∧ j ≤ m ∧ GroS (p :: blk ro) w wv ∧ wv.heap[p]? = some (.cells (c121 ((k + q.length : Nat) : Int) ⟨ro, q.length, rc⟩ ((c : Nat) : Int)) 121 (0, 0)) ∧ OY wv 36 1 B ro rc q.length ((List.replicate j (Value.slice none 0 0) ++ (q.map RV.v).drop j))) ?_ _ ⟨0, usB [6, 30, 31, 32, 33, 34, 35, 36, 37, 38] rfl rfl ⟨Nat.zero_le _, GG, kp, (by simpa using HG.row)⟩⟩
  clear kp GG
  rintro mz az wv ⟨j, us1, rfl, rfl, hj, GG, kp, HR⟩
  refine wp_seq (wp_region_lit ?_)
  obtain ⟨p1, hp1⟩ : ∃ p, decide (((j : Nat) : Int) < ((m : Nat) : Int)) = p := ⟨_, rfl⟩
  refine sv 30 (.bool p1) (jP 3 _ _ _ rfl ((j : Nat) : Int) ((m : Nat) : Int) rfl rfl p1 hp1 _) ?_
  refine nr ?_; intro U h; simp only [z0, z1] at h; subst h
  cases p1
  have hjn : j = m := by have := of_decide_eq_false hp1; omega
  refine wpList_nil (ja (wp_seq (wp_cond_false rfl (wp_exit (jZ (jZ (zZ (ja (wp_seq (wp_region_lit (mv 39 (pK p 0) (mv 40 (pK p 0) (sv 41 (pK p 0) (jl _ rfl _ rfl) (sv 42 (pK p 1) (jc 121 _ 1 rfl _ _ rfl _) (sv 43 (.slice ro q.length rc) (je 30 _ rfl p 1 rfl 121 _ kp (na30 _) _ rfl) ?_)))))))))))))))
  refine mv 44 (iK ((m : Nat) : Int)) (sv 45 (.slice (if rc = m then ro else ro.map (·.add (m * 1))) ((q.drop m).length) (rc - m)) ((yt rY _ _ rfl ro q.length rc m rfl rfl (by omega) _).trans (by rw [List.length_drop])) (sv 46 (pK p 0) (jl _ rfl _ rfl) (sv 47 (pK p 1) (jc 121 _ 1 rfl _ _ rfl _) ?_)))
  refine nr ?_; intro U h; simp only [z0, z1] at h; subst h
  have hjm := hjn.symm
  subst hjm
  have HD := HR.drop m (by omega)
  rw [ZU q m (by omega), ← List.length_drop] at HD
  clear HR
  refine jo rfl rfl 30 _ _ rfl p 1 rfl (.slice (if rc = m then ro else ro.map (·.add (m * 1))) ((q.drop m).length) (rc - m)) rfl 121 _ kp #[.slice (if rc = m then ro else ro.map (·.add (m * 1))) ((q.drop m).length) (rc - m)] rfl (by kernel_rfl) (nlB rfl) (by kernel_rfl) (c121 ((k + q.length : Nat) : Int) ⟨(if rc = m then ro else ro.map (·.add (m * 1))), (q.drop m).length, rc - m⟩ ((c : Nat) : Int)) (by kernel_rfl) ?_
  intro w4 St
  replace HD := HD.st St (fun h => (Kept.cut (p + 1) ro rc m (m * 1) _ h).elim H.ne (fun h2 => by omega))
  replace GG := GG.st St (.inr (by simp))
  replace kp := St.new
  clear St
  refine wpList_nil (ja (wp_seq (wp_region_lit (mv 48 (iK ((m : Nat) : Int)) (mv 4 (iK ((m : Nat) : Int)) (wpList_nil (ja (wp_ret ?_))))))))
  refine bodyPost_ret (results_tmp Try.results60 _ _ _) rfl ?_
  have hl2 : k + q.length = k + m + (q.drop m).length := by rw [List.length_drop]; omega
  rw [hl2] at kp
  refine ⟨_, _, rfl, GG, ⟨kp, HD, fun x hx => ?_, H.base, fun x hx => H.sm x (List.mem_of_mem_drop hx), H.ty⟩, Kept.cut _ _ _ _ _⟩
  exact (H.fr x (List.mem_of_mem_drop hx)).gros GG (H.f5 H.own x (List.mem_of_mem_drop hx))
  have hjn : j < m := by have := of_decide_eq_true hp1; omega
  obtain ⟨g, d, cur, hao, hgB, kg, hdj, hset⟩ := HR.set (j := j) (by omega) (.slice none 0 0) rfl
  refine wpList_nil (ja (wp_seq (wp_cond_true rfl (wp_skip (ja (wp_seq (wp_block (wp_seq (wp_region_lit (mv 31 (iK ((j : Nat) : Int)) (mv 6 (iK ((j : Nat) : Int)) (wpList_nil (ja (wp_region_lit (mv 32 (pK p 0) ?_)))))))))))))))
  refine sv 33 (pK p 0) (jl _ rfl _ rfl) (sv 34 (pK p 1) (jc 121 _ 1 rfl _ _ rfl _) (sv 35 (.slice ro q.length rc) (je 30 _ rfl p 1 rfl 121 _ kp (na30 _) _ rfl) (mv 36 (iK ((j : Nat) : Int)) ?_)))
  refine nr ?_; intro U h; simp only [z0, z1] at h; subst h
  refine sv 37 (.pointer (some ⟨g, d + j, none⟩)) ((vd _ _ rfl ⟨g, d, none⟩ q.length rc j (by exact congrArg (fun a => Value.slice a q.length rc) hao) rfl (by omega) _).trans (by rw [zA])) ?_
  refine jo rfl rfl 36 _ _ rfl g (d + j) rfl (.slice none 0 0) rfl 36 _ kg #[.slice none 0 0] rfl si36 (by simp only [List.size_toArray, List.length_cons, List.length_nil]; omega) (by kernel_rfl) _ rfl ?_
  intro w3 St
  have hgp : p ≠ g := fun e => jy kp kg (by decide) e
  replace kp := St.has hgp kp
  have HR2 := hset _ St
  replace GG := GG.st St (.inr (List.mem_cons_of_mem _ (mem_blk.2 ⟨_, hao, rfl⟩)))
  clear St HR kg hset
  refine wpList_nil (jQ (ja (wp_region_lit (sv 38 (iK ((j + 1 : Nat) : Int)) (jF 3 _ _ _ rfl ((j : Nat) : Int) 1 ((j + 1 : Nat) : Int) rfl rfl (by omega) (by omega) (by omega) _) (mv 29 (iK ((j + 1 : Nat) : Int)) (wpList_nil (ja ?_)))))))
  exact ⟨_, (by omega : m - (j + 1) < m - j), j + 1, usB [6, 30, 31, 32, 33, 34, 35, 36, 37, 38] rfl rfl ⟨hjn, GG, kp, (by rw [← ZT q j (by omega)]; exact HR2)⟩⟩
end Go.Proofs.Ytlfanecaglbomaa
