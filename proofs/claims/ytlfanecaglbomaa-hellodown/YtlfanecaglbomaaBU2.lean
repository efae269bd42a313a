/- Windows: what lies in memory, and each call of the program's. -/
import Derived.Test.YtlfanecaglbomaaBA2
namespace Go.Proofs.Ytlfanecaglbomaa
open Go.RowKit
def c121 (x0 : Int) (x1 : Sl) (x2 : Int) : Array Value := #[.int .i64 x0, .slice x1.ao x1.n x1.cap, .int .i64 x2]
theorem na30 (w : World) : (isAgg 30).run Try.prog w = .ok false w := by kernel_rfl
section
variable {P : Program} {o : Oper} {A : Act}
theorem run_addI (t : TypeId) (x y : Operand) (t2 : TypeId) (ho : o.op = .binOp .add t x y t2) (a b r : Int) (hx : A.eval x = .int .i64 a) (hy : A.eval y = .int .i64 b) (hr : a + b = r) (h1 : -9223372036854775808 ≤ r) (h2 : r < 9223372036854775808) (w : World) : (execOp A.eval o).run P w = .ok (.value (.int .i64 r)) w := by
  subst hr
  refine run_binop .add t x y t2 ho _ _ _ hx hy (by simp [eqGuard]) ?_
  simp [go_sem]
  exact wrap_in _ h1 h2
theorem run_subI (t : TypeId) (x y : Operand) (t2 : TypeId) (ho : o.op = .binOp .sub t x y t2) (a b r : Int) (hx : A.eval x = .int .i64 a) (hy : A.eval y = .int .i64 b) (hr : a - b = r) (h1 : -9223372036854775808 ≤ r) (h2 : r < 9223372036854775808) (w : World) : (execOp A.eval o).run P w = .ok (.value (.int .i64 r)) w := by
  subst hr
  refine run_binop .sub t x y t2 ho _ _ _ hx hy (by simp [eqGuard]) ?_
  simp [go_sem]
  exact wrap_in _ h1 h2
end
theorem Kept.refl (M : Nat) (ao : Option Addr) : Kept M ao ao := fun _ h => .inl h
theorem Kept.mono {M M' : Nat} {ao ao2 : Option Addr} (h : Kept M ao ao2) (hm : M' ≤ M) : Kept M' ao ao2 := fun k hk => (h k hk).imp id fun h => by omega
theorem Kept.cut (M : Nat) (ao : Option Addr) (c i j : Nat) : Kept M ao (if c = i then ao else ao.map (·.add j)) := fun k hk => by
  obtain ⟨ad, h1, h2⟩ := mem_blk.1 hk
  by_cases hc : c = i
  · rw [if_pos hc] at h1
    exact .inl (mem_blk.2 ⟨ad, h1, h2⟩)
  · rw [if_neg hc] at h1
    cases ao with
    | none => cases h1
    | some a =>
      cases h1
      rw [add_block] at h2
      exact .inl (mem_blk.2 ⟨a, rfl, h2⟩)
theorem OY.st {w w' : World} {e : TypeId} {sz B : Nat} {ao : Option Addr} {cap n : Nat} {cs : List Value} (h : OY w e sz B ao cap n cs) {g : Nat} {x : Obj} (S : Stored w w' g x) (hg : g ∉ blk ao) : OY w' e sz B ao cap n cs :=
  h.gros (S := [g]) ((GroS.refl [g] w).st S (.inr (by simp))) (fun k hk => by simp; exact fun e => hg (e ▸ hk))
/-- A window: its box, its row, its texts. -/
structure WX (t : TypeId) (cs : Array Value) (w : World) (p B : Nat) (ao : Option Addr) (cap : Nat) (q : List RV) : Prop where
  box : w.heap[p]? = some (.cells cs t (0, 0))
  row : OY w 36 1 B ao cap q.length (q.map RV.v)
  fr : ∀ x ∈ q, OB w 5 .u8 B x.ao x.cap x.l
  base : B ≤ p
  sm : ∀ x ∈ q, x.l.length ≤ 140737488355000
  ty : t ≠ 36 ∧ t ≠ 5
section
variable {t : TypeId} {cs : Array Value} {w w' : World} {p B : Nat} {ao : Option Addr} {cap : Nat} {q : List RV}
theorem WX.ne (H : WX t cs w p B ao cap q) : p ∉ blk ao := H.row.ne H.box H.ty.1
theorem WX.lt (H : WX t cs w p B ao cap q) : p < w.heap.size := lt_of_heap H.box
theorem WX.bl (H : WX t cs w p B ao cap q) : B ≤ w.heap.size := Nat.le_trans H.base (Nat.le_of_lt H.lt)
theorem WX.gros {S : List Nat} (H : WX t cs w p B ao cap q) (G : GroS S w w') (hp : p ∉ S) (hr : ∀ k ∈ blk ao, k ∉ S) (hf : ∀ x ∈ q, ∀ ad, x.ao = some ad → ad.block ∉ S) : WX t cs w' p B ao cap q :=
  ⟨G.has H.box hp, H.row.gros G hr, fun x hx => (H.fr x hx).gros G (hf x hx), H.base, H.sm, H.ty⟩
theorem WX.gro (H : WX t cs w p B ao cap q) (G : Gro w w') : WX t cs w' p B ao cap q := H.gros (S := []) (.of G) (by simp) (fun _ _ => by simp) (fun _ _ _ _ => by simp)
theorem WX.f5 (H : WX t cs w p B ao cap q) {S : List Nat} (hS : ∀ k ∈ S, ∃ c t', w.heap[k]? = some (.cells c t' (0, 0)) ∧ t' ≠ 5) : ∀ x ∈ q, ∀ ad, x.ao = some ad → ad.block ∉ S := fun x hx ad ha hm => by
  obtain ⟨cur, hc⟩ := (H.fr x hx).blk5 ha
  obtain ⟨c, t', h1, h2⟩ := hS _ hm
  exact ne_type h1 hc h2 rfl
theorem WX.own (H : WX t cs w p B ao cap q) : ∀ k ∈ p :: blk ao, ∃ c t', w.heap[k]? = some (.cells c t' (0, 0)) ∧ t' ≠ 5 := fun k hk => by
  rcases List.mem_cons.1 hk with rfl | hk
  · exact ⟨_, _, H.box, H.ty.2⟩
  · obtain ⟨_, cur, hc⟩ := H.row.at k hk
    exact ⟨_, _, hc, by decide⟩
theorem WX.at (H : WX t cs w p B ao cap q) {j : Nat} {x : RV} (hx : q[j]? = some x) : ∃ ad, ao = some ad ∧ w.cell? (ad.add j) = some (.slice x.ao x.l.length x.cap) := by
  have hj := (List.getElem?_eq_some_iff.1 hx).1
  obtain ⟨ad, ha⟩ := H.row.xc.some (by omega)
  exact ⟨ad, ha, H.row.xc.cell ad ha j _ (by rw [List.getElem?_map, hx]; rfl)⟩
theorem WX.new (hp : w.heap[p]? = some (.cells cs t (0, 0))) (hB : B ≤ p) (ht : t ≠ 36 ∧ t ≠ 5) : WX t cs w p B none 0 [] :=
  ⟨hp, OY.nil _ _ _ _, (fun _ h => by cases h), hB, (fun _ h => by cases h), ht⟩
end
theorem rY : RowT Try.prog 30 36 1 24 (.slice none 0 0) := ⟨Try.underlying30, info_of (by kernel_rfl), rfl, by decide⟩
/-- Rows of bytes that are new, and another block. -/
def AF (M g : Nat) (w : World) (r : List (Nat × List Nat)) : Prop := ∀ x ∈ r, (M ≤ x.1 ∧ x.1 ≠ g) ∧ w.heap[x.1]? = some (.cells (bv x.2) 5 (0, 0)) ∧ ∀ y ∈ x.2, y < 256
theorem AF.gro {M g : Nat} {w w' : World} {r : List (Nat × List Nat)} (h : AF M g w r) (G : Gro w w') : AF M g w' r := fun x hx => ⟨(h x hx).1, G.has (h x hx).2.1, (h x hx).2.2⟩
theorem AF.st {M g : Nat} {w w' : World} {r : List (Nat × List Nat)} {o : Obj} (h : AF M g w r) (St : Stored w w' g o) : AF M g w' r := fun x hx => ⟨(h x hx).1, St.has (h x hx).1.2 (h x hx).2.1, (h x hx).2.2⟩
def rv (x : Nat × List Nat) : Value := .slice (some ⟨x.1, 0, none⟩) x.2.length x.2.length
/-- What Waits tells: a row of rows, all of them new. -/
structure AL (w : World) (M g : Nat) (r : List (Nat × List Nat)) : Prop where
  base : M ≤ g
  row : w.heap[g]? = some (.cells (r.map rv).toArray 36 (0, 0))
  fr : ∀ x ∈ r, M ≤ x.1 ∧ w.heap[x.1]? = some (.cells (bv x.2) 5 (0, 0)) ∧ ∀ y ∈ x.2, y < 256
theorem AL.gro {w w' : World} {M g : Nat} {r : List (Nat × List Nat)} (h : AL w M g r) (G : Gro w w') : AL w' M g r := ⟨h.base, G.has h.row, fun x hx => ⟨(h.fr x hx).1, G.has (h.fr x hx).2.1, (h.fr x hx).2.2⟩⟩
theorem AL.at {w : World} {M g : Nat} {r : List (Nat × List Nat)} (h : AL w M g r) {j : Nat} {x : Nat × List Nat} (hx : r[j]? = some x) : w.cell? ⟨g, j, none⟩ = some (rv x) := by
  rw [cell_of_row w g j _ 36 _ h.row]
  simp [hx]
set_option maxRecDepth 100000 in
set_option maxHeartbeats 4000000 in
theorem new_any (w : World) : Calls Try.prog 34 #[] w fun e w' => ∃ p, e = .returned (.pointer (some ⟨p, 0, none⟩)) ∧ Gro w w' ∧ w.heap.size ≤ p ∧ WX 121 (c121 0 Sl.nil 0) w' p w.heap.size none 0 [] := by
  refine s_enter Try.func34 rfl Try.ntmps34 [] [undef, undef, undef] rfl ?_
  have GG := Gro.refl w
  refine wp_seq ?_
  refine wp_region_lit ?_
  refine s_val 0 rfl rfl (.pointer none) (rfl) ?_
  refine nr ?_; intro U h; simp only [z0] at h; subst h
  refine wpList_nil ?_
  refine then_n ?_
  refine wp_seq ?_
  refine wp_region_lit ?_
  refine s_val 1 rfl rfl (.agg (c121 0 Sl.nil 0)) (run_bd 121 _ rfl [] rfl _ (by kernel_rfl)) ?_
  refine nr ?_; intro U h; simp only [z0, z1] at h; subst h
  refine s_box 2 rfl rfl 121 _ rfl _ rfl (c121 0 Sl.nil 0) rfl ?_
  intro w1 g1 G eg1 kg1
  have bg1 := size_base GG eg1
  replace GG := GG.trans G
  clear G eg1
  refine nr ?_; intro U h; simp only [z0, z1] at h; subst h
  refine s_val 0 rfl rfl (.pointer (some ⟨g1, 0, none⟩)) (rfl) ?_
  refine nr ?_; intro U h; simp only [z0] at h; subst h
  refine wpList_nil ?_
  refine then_n ?_
  refine wp_ret ?_
  refine bodyPost_ret (results_tmp Try.results34 _ _ _) rfl ?_
  exact ⟨g1, rfl, GG, bg1, WX.new kg1 bg1 (by decide)⟩
set_option maxRecDepth 100000 in
set_option maxHeartbeats 4000000 in
theorem first_any (w : World) (p B : Nat) (ro : Option Addr) (rc : Nat) (q : List RV) (k c : Nat) (H : WX 121 (c121 ((k + q.length : Nat) : Int) ⟨ro, q.length, rc⟩ ((c : Nat) : Int)) w p B ro rc q) (hk : k + q.length ≤ 100000) (_hc : c ≤ 100000) : Calls Try.prog 52 #[.pointer (some ⟨p, 0, none⟩)] w fun e w' => e = .returned (.int .i64 ((k + 1 : Nat) : Int)) ∧ Gro w w' := by
  refine s_enter Try.func52 rfl Try.ntmps52 [.pointer (some ⟨p, 0, none⟩)] [.pointer (some ⟨p, 0, none⟩), undef, undef, undef, undef, undef, undef, undef, undef, undef, undef, undef, undef, undef] rfl ?_
  have GG := Gro.refl w
  have kp := H.box
  have hpl := H.lt
  have hBl := H.bl
  refine wp_seq ?_
  refine wp_region_lit ?_
  refine s_val 2 rfl rfl (.int .i64 0) (rfl) ?_
  refine nr ?_; intro U h; simp only [z0, z1] at h; subst h
  refine wpList_nil ?_
  refine then_n ?_
  refine wp_seq ?_
  refine wp_region_exA (A := ?Ax1) 9 [(0, 3), (1, 4), (2, 5), (3, 6), (4, 7), (5, 8), (6, 9), (7, 10), (8, 11)] [.val (.pointer (some ⟨p, 0, none⟩)), .val (.pointer (some ⟨p, 0, none⟩)), .val (.pointer (some ⟨p, 0, none⟩)), .val (.int .i64 ((k + q.length : Nat) : Int)), .val (.pointer (some ⟨p, 0, none⟩)), .val (.pointer (some ⟨p, 0, none⟩)), .val (.pointer (some ⟨p, 1, none⟩)), .val (.slice ro q.length rc), .val (.int .i64 ((q.length : Nat) : Int))] follows (by kernel_rfl) rfl ?hAx1 (opsA_cons ?o0x1 (opsA_cons ?o1x1 (opsA_cons ?o2x1 (opsA_cons ?o3x1 (opsA_cons ?o4x1 (opsA_cons ?o5x1 (opsA_cons ?o6x1 (opsA_cons ?o7x1 (opsA_cons ?o8x1 opsA_nil))))))))) ?restx1
  case hAx1 =>
    intro ptrs
    simp only [full, foldSlots, filledE, postE, List.foldl_cons, List.foldl_nil, List.getD_cons_zero, List.getD_cons_succ, fill_val, List.set_cons_zero, List.set_cons_succ]
    exact rfl
  case o0x1 => exact fun _ _ _ _ => opE_move (v := .pointer (some ⟨p, 0, none⟩)) _ rfl rfl rfl
  case o1x1 => exact fun _ _ hw _ => opE_value (v := .pointer (some ⟨p, 0, none⟩)) rfl (run_nc _ rfl _ rfl)
  case o2x1 => exact fun _ _ hw _ => opE_value (v := .pointer (some ⟨p, 0, none⟩)) rfl (run_fld 121 _ 0 rfl _ _ rfl _ (by kernel_rfl))
  case o3x1 => exact fun _ _ hw _ => opE_value (v := .int .i64 ((k + q.length : Nat) : Int)) rfl (run_ldc 2 _ rfl p 0 rfl 121 _ (hw.has kp) (na2 _) _ rfl)
  case o4x1 => exact fun _ _ _ _ => opE_move (v := .pointer (some ⟨p, 0, none⟩)) _ rfl rfl rfl
  case o5x1 => exact fun _ _ hw _ => opE_value (v := .pointer (some ⟨p, 0, none⟩)) rfl (run_nc _ rfl _ rfl)
  case o6x1 => exact fun _ _ hw _ => opE_value (v := .pointer (some ⟨p, 1, none⟩)) rfl (run_fld 121 _ 1 rfl _ _ rfl _ (by kernel_rfl))
  case o7x1 => exact fun _ _ hw _ => opE_value (v := .slice ro q.length rc) rfl (run_ldc 30 _ rfl p 1 rfl 121 _ (hw.has kp) (na30 _) _ rfl)
  case o8x1 => exact fun _ _ hw _ => opE_value (v := .int .i64 ((q.length : Nat) : Int)) rfl (run_len Try.underlying30 _ rfl _ _ _ rfl _)
  intro ptrs w1 GD hxE
  simp only [List.drop_succ_cons, List.drop_zero]
  replace kp := GD.has kp
  replace GG := GG.drew.trans GD
  clear GD
  refine s_val 12 rfl rfl (.int .i64 ((k : Nat) : Int)) (run_subI 2 _ _ _ rfl ((k + q.length : Nat) : Int) ((q.length : Nat) : Int) ((k : Nat) : Int) rfl rfl (by omega) (by omega) (by omega) _) ?_
  refine nr ?_; intro U h; simp only [z0, z1] at h; subst h
  refine s_val 13 rfl rfl (.int .i64 ((k + 1 : Nat) : Int)) (run_addI 2 _ _ _ rfl ((k : Nat) : Int) 1 ((k + 1 : Nat) : Int) rfl rfl (by omega) (by omega) (by omega) _) ?_
  refine nr ?_; intro U h; simp only [z0, z1] at h; subst h
  refine s_val 2 rfl rfl (.int .i64 ((k + 1 : Nat) : Int)) (rfl) ?_
  refine nr ?_; intro U h; simp only [z0, z1] at h; subst h
  refine wpList_nil ?_
  refine then_n ?_
  refine wp_ret ?_
  refine bodyPost_ret (results_tmp Try.results52 _ _ _) rfl ?_
  exact ⟨rfl, GG⟩
set_option maxRecDepth 100000 in
set_option maxHeartbeats 4000000 in
theorem got_any (w : World) (p B : Nat) (ro : Option Addr) (rc : Nat) (q : List RV) (k c : Nat) (H : WX 121 (c121 ((k + q.length : Nat) : Int) ⟨ro, q.length, rc⟩ ((c : Nat) : Int)) w p B ro rc q) (_hk : k + q.length ≤ 100000) (_hc : c ≤ 100000) : Calls Try.prog 49 #[.pointer (some ⟨p, 0, none⟩)] w fun e w' => e = .returned (.int .i64 ((c : Nat) : Int)) ∧ Gro w w' := by
  refine s_enter Try.func49 rfl Try.ntmps49 [.pointer (some ⟨p, 0, none⟩)] [.pointer (some ⟨p, 0, none⟩), undef, undef, undef, undef, undef, undef, undef, undef] rfl ?_
  have GG := Gro.refl w
  have kp := H.box
  have hpl := H.lt
  have hBl := H.bl
  refine wp_seq ?_
  refine wp_region_lit ?_
  refine s_val 2 rfl rfl (.int .i64 0) (rfl) ?_
  refine nr ?_; intro U h; simp only [z0, z1] at h; subst h
  refine wpList_nil ?_
  refine then_n ?_
  refine wp_seq ?_
  refine wp_seq ?_
  refine wp_region_lit ?_
  refine s_val 3 rfl rfl (.pointer (some ⟨p, 0, none⟩)) (rfl) ?_
  refine nr ?_; intro U h; simp only [z0, z1] at h; subst h
  refine s_val 4 rfl rfl (.bool false) (run_eqnp 95 _ _ _ rfl _ rfl rfl Try.underlying95 _) ?_
  refine nr ?_; intro U h; simp only [z0, z1] at h; subst h
  refine wpList_nil ?_
  refine then_n ?_
  refine wp_cond_false rfl ?_
  refine wp_skip ?_
  refine then_n ?_
  refine wp_seq ?_
  refine wp_region_lit ?_
  refine s_val 5 rfl rfl (.pointer (some ⟨p, 0, none⟩)) (rfl) ?_
  refine nr ?_; intro U h; simp only [z0, z1] at h; subst h
  refine s_val 6 rfl rfl (.pointer (some ⟨p, 0, none⟩)) (run_nc _ rfl _ rfl) ?_
  refine nr ?_; intro U h; simp only [z0, z1] at h; subst h
  refine s_val 7 rfl rfl (.pointer (some ⟨p, 2, none⟩)) (run_fld 121 _ 2 rfl _ _ rfl _ (by kernel_rfl)) ?_
  refine nr ?_; intro U h; simp only [z0, z1] at h; subst h
  refine s_val 8 rfl rfl (.int .i64 ((c : Nat) : Int)) (run_ldc 2 _ rfl p 2 rfl 121 _ kp (na2 _) _ rfl) ?_
  refine nr ?_; intro U h; simp only [z0, z1] at h; subst h
  refine s_val 2 rfl rfl (.int .i64 ((c : Nat) : Int)) (rfl) ?_
  refine nr ?_; intro U h; simp only [z0, z1] at h; subst h
  refine wpList_nil ?_
  refine then_n ?_
  refine wp_ret ?_
  refine bodyPost_ret (results_tmp Try.results49 _ _ _) rfl ?_
  exact ⟨rfl, GG⟩
set_option maxRecDepth 100000 in
set_option maxHeartbeats 4000000 in
theorem came_no (w : World) (p B : Nat) (ro : Option Addr) (rc : Nat) (q : List RV) (k c : Nat) (H : WX 121 (c121 ((k + q.length : Nat) : Int) ⟨ro, q.length, rc⟩ ((c : Nat) : Int)) w p B ro rc q) (_hk : k + q.length ≤ 100000) (hc : c ≤ 100000) (i : Int) (hi : i ≠ ((c : Nat) : Int) + 1) : Calls Try.prog 59 #[.pointer (some ⟨p, 0, none⟩), .int .i64 i] w fun e w' => e = .returned (.bool false) ∧ Gro w w' := by
  refine s_enter Try.func59 rfl Try.ntmps59 [.pointer (some ⟨p, 0, none⟩), .int .i64 i] [.pointer (some ⟨p, 0, none⟩), .int .i64 i, undef, undef, undef, undef, undef, undef, undef, undef, undef, undef, undef, undef, undef, undef, undef, undef, undef, undef, undef, undef, undef] rfl ?_
  have GG := Gro.refl w
  have kp := H.box
  have hpl := H.lt
  have hBl := H.bl
  refine wp_seq ?_
  refine wp_region_lit ?_
  refine s_val 4 rfl rfl (.bool false) (rfl) ?_
  refine nr ?_; intro U h; simp only [z0, z1] at h; subst h
  refine wpList_nil ?_
  refine then_n ?_
  refine wp_seq ?_
  refine wp_seq ?_
  refine wp_region_opq ?_
  intro OPS hY
  have y2 := hY 2 7 rfl
  clear hY
  refine s_val 5 rfl rfl (.pointer (some ⟨p, 0, none⟩)) (rfl) ?_
  refine nr ?_; intro U h; simp only [z0, z1] at h; subst h
  refine s_val 6 rfl rfl (.bool false) (run_eqnp 95 _ _ _ rfl _ rfl rfl Try.underlying95 _) ?_
  refine nr ?_; intro U h; simp only [z0, z1] at h; subst h
  refine s_val 7 rfl rfl (.bool false) (rfl) ?_
  refine nr ?_; intro U h; simp only [z0, z1] at h; subst h
  refine s_gvalY 8 rfl rfl y2 rfl (.int .i64 i) (rfl) ?_
  refine nr ?_; intro U h; simp only [z0, z1] at h; subst h
  refine s_gvalY 9 rfl rfl y2 rfl (.pointer (some ⟨p, 0, none⟩)) (rfl) ?_
  refine nr ?_; intro U h; simp only [z0, z1] at h; subst h
  refine s_gvalY 10 rfl rfl y2 rfl (.pointer (some ⟨p, 0, none⟩)) (run_nc _ rfl _ rfl) ?_
  refine nr ?_; intro U h; simp only [z0, z1] at h; subst h
  refine s_gvalY 11 rfl rfl y2 rfl (.pointer (some ⟨p, 2, none⟩)) (run_fld 121 _ 2 rfl _ _ rfl _ (by kernel_rfl)) ?_
  refine nr ?_; intro U h; simp only [z0, z1] at h; subst h
  refine s_gvalY 12 rfl rfl y2 rfl (.int .i64 ((c : Nat) : Int)) (run_ldc 2 _ rfl p 2 rfl 121 _ kp (na2 _) _ rfl) ?_
  refine nr ?_; intro U h; simp only [z0, z1] at h; subst h
  refine s_gvalY 13 rfl rfl y2 rfl (.int .i64 ((c + 1 : Nat) : Int)) (run_addI 2 _ _ _ rfl ((c : Nat) : Int) 1 ((c + 1 : Nat) : Int) rfl rfl (by omega) (by omega) (by omega) _) ?_
  refine nr ?_; intro U h; simp only [z0, z1] at h; subst h
  refine s_gvalY 14 rfl rfl y2 rfl (.bool true) (run_neq_k 2 .i64 _ _ _ rfl Try.underlying2 i ((c + 1 : Nat) : Int) rfl rfl true (decide_eq_false (by omega)) _) ?_
  refine nr ?_; intro U h; simp only [z0, z1] at h; subst h
  refine s_val 15 rfl rfl (.bool true) (rfl) ?_
  refine nr ?_; intro U h; simp only [z0, z1] at h; subst h
  refine wpList_nil ?_
  refine then_n ?_
  refine wp_cond_true rfl ?_
  refine wp_seq ?_
  refine wp_region_lit ?_
  refine s_val 4 rfl rfl (.bool false) (rfl) ?_
  refine nr ?_; intro U h; simp only [z0, z1] at h; subst h
  refine wpList_nil ?_
  refine then_n ?_
  refine wp_ret ?_
  refine then_r ?_
  refine bodyPost_ret (results_tmp Try.results59 _ _ _) rfl ?_
  exact ⟨rfl, GG⟩
set_option maxRecDepth 100000 in
set_option maxHeartbeats 4000000 in
theorem came_ok (w : World) (p B : Nat) (ro : Option Addr) (rc : Nat) (q : List RV) (k c : Nat) (H : WX 121 (c121 ((k + q.length : Nat) : Int) ⟨ro, q.length, rc⟩ ((c : Nat) : Int)) w p B ro rc q) (_hk : k + q.length ≤ 100000) (hc : c ≤ 100000) (i : Int) (hi : i = ((c : Nat) : Int) + 1) : Calls Try.prog 59 #[.pointer (some ⟨p, 0, none⟩), .int .i64 i] w fun e w' => e = .returned (.bool true) ∧ GroS [p] w w' ∧ WX 121 (c121 ((k + q.length : Nat) : Int) ⟨ro, q.length, rc⟩ ((c + 1 : Nat) : Int)) w' p B ro rc q := by
  refine s_enter Try.func59 rfl Try.ntmps59 [.pointer (some ⟨p, 0, none⟩), .int .i64 i] [.pointer (some ⟨p, 0, none⟩), .int .i64 i, undef, undef, undef, undef, undef, undef, undef, undef, undef, undef, undef, undef, undef, undef, undef, undef, undef, undef, undef, undef, undef] rfl ?_
  have GG := GroS.refl [p] w
  have kp := H.box
  have hpl := H.lt
  have hBl := H.bl
  refine wp_seq ?_
  refine wp_region_lit ?_
  refine s_val 4 rfl rfl (.bool false) (rfl) ?_
  refine nr ?_; intro U h; simp only [z0, z1] at h; subst h
  refine wpList_nil ?_
  refine then_n ?_
  refine wp_seq ?_
  refine wp_seq ?_
  refine wp_region_opq ?_
  intro OPS hY
  have y2 := hY 2 7 rfl
  clear hY
  refine s_val 5 rfl rfl (.pointer (some ⟨p, 0, none⟩)) (rfl) ?_
  refine nr ?_; intro U h; simp only [z0, z1] at h; subst h
  refine s_val 6 rfl rfl (.bool false) (run_eqnp 95 _ _ _ rfl _ rfl rfl Try.underlying95 _) ?_
  refine nr ?_; intro U h; simp only [z0, z1] at h; subst h
  refine s_val 7 rfl rfl (.bool false) (rfl) ?_
  refine nr ?_; intro U h; simp only [z0, z1] at h; subst h
  refine s_gvalY 8 rfl rfl y2 rfl (.int .i64 i) (rfl) ?_
  refine nr ?_; intro U h; simp only [z0, z1] at h; subst h
  refine s_gvalY 9 rfl rfl y2 rfl (.pointer (some ⟨p, 0, none⟩)) (rfl) ?_
  refine nr ?_; intro U h; simp only [z0, z1] at h; subst h
  refine s_gvalY 10 rfl rfl y2 rfl (.pointer (some ⟨p, 0, none⟩)) (run_nc _ rfl _ rfl) ?_
  refine nr ?_; intro U h; simp only [z0, z1] at h; subst h
  refine s_gvalY 11 rfl rfl y2 rfl (.pointer (some ⟨p, 2, none⟩)) (run_fld 121 _ 2 rfl _ _ rfl _ (by kernel_rfl)) ?_
  refine nr ?_; intro U h; simp only [z0, z1] at h; subst h
  refine s_gvalY 12 rfl rfl y2 rfl (.int .i64 ((c : Nat) : Int)) (run_ldc 2 _ rfl p 2 rfl 121 _ kp (na2 _) _ rfl) ?_
  refine nr ?_; intro U h; simp only [z0, z1] at h; subst h
  refine s_gvalY 13 rfl rfl y2 rfl (.int .i64 ((c + 1 : Nat) : Int)) (run_addI 2 _ _ _ rfl ((c : Nat) : Int) 1 ((c + 1 : Nat) : Int) rfl rfl (by omega) (by omega) (by omega) _) ?_
  refine nr ?_; intro U h; simp only [z0, z1] at h; subst h
  refine s_gvalY 14 rfl rfl y2 rfl (.bool false) (run_neq_k 2 .i64 _ _ _ rfl Try.underlying2 i ((c + 1 : Nat) : Int) rfl rfl false (decide_eq_true (by omega)) _) ?_
  refine nr ?_; intro U h; simp only [z0, z1] at h; subst h
  refine s_val 15 rfl rfl (.bool false) (rfl) ?_
  refine nr ?_; intro U h; simp only [z0, z1] at h; subst h
  refine wpList_nil ?_
  refine then_n ?_
  refine wp_cond_false rfl ?_
  refine wp_skip ?_
  refine then_n ?_
  refine wp_seq ?_
  refine wp_region_lit ?_
  refine s_val 16 rfl rfl (.pointer (some ⟨p, 0, none⟩)) (rfl) ?_
  refine nr ?_; intro U h; simp only [z0, z1] at h; subst h
  refine s_val 17 rfl rfl (.pointer (some ⟨p, 0, none⟩)) (run_nc _ rfl _ rfl) ?_
  refine nr ?_; intro U h; simp only [z0, z1] at h; subst h
  refine s_val 18 rfl rfl (.pointer (some ⟨p, 2, none⟩)) (run_fld 121 _ 2 rfl _ _ rfl _ (by kernel_rfl)) ?_
  refine nr ?_; intro U h; simp only [z0, z1] at h; subst h
  refine s_val 19 rfl rfl (.int .i64 ((c : Nat) : Int)) (run_ldc 2 _ rfl p 2 rfl 121 _ kp (na2 _) _ rfl) ?_
  refine nr ?_; intro U h; simp only [z0, z1] at h; subst h
  refine s_val 20 rfl rfl (.int .i64 ((c + 1 : Nat) : Int)) (run_addI 2 _ _ _ rfl ((c : Nat) : Int) 1 ((c + 1 : Nat) : Int) rfl rfl (by omega) (by omega) (by omega) _) ?_
  refine nr ?_; intro U h; simp only [z0, z1] at h; subst h
  refine s_val 21 rfl rfl (.pointer (some ⟨p, 0, none⟩)) (run_nc _ rfl _ rfl) ?_
  refine nr ?_; intro U h; simp only [z0, z1] at h; subst h
  refine s_val 22 rfl rfl (.pointer (some ⟨p, 2, none⟩)) (run_fld 121 _ 2 rfl _ _ rfl _ (by kernel_rfl)) ?_
  refine nr ?_; intro U h; simp only [z0, z1] at h; subst h
  refine s_store rfl rfl 2 _ _ rfl p 2 rfl (.int .i64 ((c + 1 : Nat) : Int)) rfl 121 _ kp #[.int .i64 ((c + 1 : Nat) : Int)] rfl (by kernel_rfl) (Nat.le_of_ble_eq_true rfl) (by kernel_rfl) (c121 ((k + q.length : Nat) : Int) ⟨ro, q.length, rc⟩ ((c + 1 : Nat) : Int)) (by kernel_rfl) ?_
  intro w2 St
  replace GG := GG.st St (.inr (by simp))
  replace kp := St.new
  clear St
  refine wpList_nil ?_
  refine then_n ?_
  refine wp_seq ?_
  refine wp_region_lit ?_
  refine s_val 4 rfl rfl (.bool true) (rfl) ?_
  refine nr ?_; intro U h; simp only [z0, z1] at h; subst h
  refine wpList_nil ?_
  refine then_n ?_
  refine wp_ret ?_
  refine bodyPost_ret (results_tmp Try.results59 _ _ _) rfl ?_
  refine ⟨rfl, GG, ⟨kp, H.row.gros GG (fun k hk hm => by rw [List.mem_singleton.1 hm] at hk; exact H.ne hk), fun x hx => (H.fr x hx).gros GG (fun ad ha hm => H.f5 H.own x hx ad ha (by rw [List.mem_singleton.1 hm]; exact List.mem_cons_self)), H.base, H.sm, H.ty⟩⟩
set_option maxRecDepth 100000 in
set_option maxHeartbeats 4000000 in
theorem acked_low (w : World) (p B : Nat) (ro : Option Addr) (rc : Nat) (q : List RV) (k c : Nat) (H : WX 121 (c121 ((k + q.length : Nat) : Int) ⟨ro, q.length, rc⟩ ((c : Nat) : Int)) w p B ro rc q) (hk : k + q.length ≤ 100000) (hc : c ≤ 100000) (i : Int) (hi : i < ((k : Nat) : Int) + 1) : Calls Try.prog 60 #[.pointer (some ⟨p, 0, none⟩), .int .i64 i] w fun e w' => e = .returned (.int .i64 0) ∧ Gro w w' := by
  refine s_enter Try.func60 rfl Try.ntmps60 [.pointer (some ⟨p, 0, none⟩), .int .i64 i] [.pointer (some ⟨p, 0, none⟩), .int .i64 i, undef, undef, undef, undef, undef, undef, undef, undef, undef, undef, undef, undef, undef, undef, undef, undef, undef, undef, undef, undef, undef, undef, undef, undef, undef, undef, undef, undef, undef, undef, undef, undef, undef, undef, undef, undef, undef, undef, undef, undef, undef, undef, undef, undef, undef, undef, undef] rfl ?_
  have GG := Gro.refl w
  have kp := H.box
  have hpl := H.lt
  have hBl := H.bl
  refine wp_seq ?_
  refine wp_region_lit ?_
  refine s_val 4 rfl rfl (.int .i64 0) (rfl) ?_
  refine nr ?_; intro U h; simp only [z0, z1] at h; subst h
  refine wpList_nil ?_
  refine then_n ?_
  refine wp_seq ?_
  refine wp_seq ?_
  refine wp_region_opq ?_
  intro OPS hY
  have y2 := hY 2 9 rfl
  have y8 := hY 8 15 rfl
  clear hY
  refine s_val 7 rfl rfl (.pointer (some ⟨p, 0, none⟩)) (rfl) ?_
  refine nr ?_; intro U h; simp only [z0, z1] at h; subst h
  refine s_val 8 rfl rfl (.bool false) (run_eqnp 95 _ _ _ rfl _ rfl rfl Try.underlying95 _) ?_
  refine nr ?_; intro U h; simp only [z0, z1] at h; subst h
  refine s_val 9 rfl rfl (.bool false) (rfl) ?_
  refine nr ?_; intro U h; simp only [z0, z1] at h; subst h
  refine s_gvalY 10 rfl rfl y2 rfl (.int .i64 i) (rfl) ?_
  refine nr ?_; intro U h; simp only [z0, z1] at h; subst h
  refine s_gvalY 11 rfl rfl y2 rfl (.pointer (some ⟨p, 0, none⟩)) (rfl) ?_
  refine nr ?_; intro U h; simp only [z0, z1] at h; subst h
  refine s_gcallvY 12 rfl rfl y2 rfl _ 52 Try.call52 rfl rfl _ rfl [.pointer (some ⟨p, 0, none⟩)] rfl (first_any _ p B ro rc q k c (H.gro GG) hk hc) ?_
  intro w1 G
  replace kp := G.has kp
  replace GG := GG.trans G
  clear G
  refine nr ?_; intro U h; simp only [z0, z1] at h; subst h
  refine s_gvalY 13 rfl rfl y2 rfl (.bool true) (run_lssT 2 _ _ _ rfl i ((k + 1 : Nat) : Int) rfl rfl true (by first | exact decide_eq_true (by omega) | exact decide_eq_false (by omega)) _) ?_
  refine nr ?_; intro U h; simp only [z0, z1] at h; subst h
  refine s_val 14 rfl rfl (.bool true) (rfl) ?_
  refine nr ?_; intro U h; simp only [z0, z1] at h; subst h
  refine s_val 15 rfl rfl (.bool true) (rfl) ?_
  refine nr ?_; intro U h; simp only [z0, z1] at h; subst h
  refine s_skipY 16 rfl rfl y8 rfl ?_
  refine nr ?_; intro U h; simp only [z0, z1] at h; subst h
  refine s_skipY 17 rfl rfl y8 rfl ?_
  refine nr ?_; intro U h; simp only [z0, z1] at h; subst h
  refine s_skipY 18 rfl rfl y8 rfl ?_
  refine nr ?_; intro U h; simp only [z0, z1] at h; subst h
  refine s_skipY 19 rfl rfl y8 rfl ?_
  refine nr ?_; intro U h; simp only [z0, z1] at h; subst h
  refine s_skipY 20 rfl rfl y8 rfl ?_
  refine nr ?_; intro U h; simp only [z0, z1] at h; subst h
  refine s_skipY 21 rfl rfl y8 rfl ?_
  refine nr ?_; intro U h; simp only [z0, z1] at h; subst h
  refine s_val 22 rfl rfl (.bool true) (rfl) ?_
  refine nr ?_; intro U h; simp only [z0, z1] at h; subst h
  refine wpList_nil ?_
  refine then_n ?_
  refine wp_cond_true rfl ?_
  refine wp_seq ?_
  refine wp_region_lit ?_
  refine s_val 4 rfl rfl (.int .i64 0) (rfl) ?_
  refine nr ?_; intro U h; simp only [z0, z1] at h; subst h
  refine wpList_nil ?_
  refine then_n ?_
  refine wp_ret ?_
  refine then_r ?_
  refine bodyPost_ret (results_tmp Try.results60 _ _ _) rfl ?_
  exact ⟨rfl, GG⟩
set_option maxRecDepth 100000 in
set_option maxHeartbeats 4000000 in
theorem acked_high (w : World) (p B : Nat) (ro : Option Addr) (rc : Nat) (q : List RV) (k c : Nat) (H : WX 121 (c121 ((k + q.length : Nat) : Int) ⟨ro, q.length, rc⟩ ((c : Nat) : Int)) w p B ro rc q) (hk : k + q.length ≤ 100000) (hc : c ≤ 100000) (i : Int) (hi : ((k + q.length : Nat) : Int) < i) : Calls Try.prog 60 #[.pointer (some ⟨p, 0, none⟩), .int .i64 i] w fun e w' => e = .returned (.int .i64 0) ∧ Gro w w' := by
  refine s_enter Try.func60 rfl Try.ntmps60 [.pointer (some ⟨p, 0, none⟩), .int .i64 i] [.pointer (some ⟨p, 0, none⟩), .int .i64 i, undef, undef, undef, undef, undef, undef, undef, undef, undef, undef, undef, undef, undef, undef, undef, undef, undef, undef, undef, undef, undef, undef, undef, undef, undef, undef, undef, undef, undef, undef, undef, undef, undef, undef, undef, undef, undef, undef, undef, undef, undef, undef, undef, undef, undef, undef, undef] rfl ?_
  have GG := Gro.refl w
  have kp := H.box
  have hpl := H.lt
  have hBl := H.bl
  refine wp_seq ?_
  refine wp_region_lit ?_
  refine s_val 4 rfl rfl (.int .i64 0) (rfl) ?_
  refine nr ?_; intro U h; simp only [z0, z1] at h; subst h
  refine wpList_nil ?_
  refine then_n ?_
  refine wp_seq ?_
  refine wp_seq ?_
  refine wp_region_opq ?_
  intro OPS hY
  have y2 := hY 2 9 rfl
  have y8 := hY 8 15 rfl
  clear hY
  refine s_val 7 rfl rfl (.pointer (some ⟨p, 0, none⟩)) (rfl) ?_
  refine nr ?_; intro U h; simp only [z0, z1] at h; subst h
  refine s_val 8 rfl rfl (.bool false) (run_eqnp 95 _ _ _ rfl _ rfl rfl Try.underlying95 _) ?_
  refine nr ?_; intro U h; simp only [z0, z1] at h; subst h
  refine s_val 9 rfl rfl (.bool false) (rfl) ?_
  refine nr ?_; intro U h; simp only [z0, z1] at h; subst h
  refine s_gvalY 10 rfl rfl y2 rfl (.int .i64 i) (rfl) ?_
  refine nr ?_; intro U h; simp only [z0, z1] at h; subst h
  refine s_gvalY 11 rfl rfl y2 rfl (.pointer (some ⟨p, 0, none⟩)) (rfl) ?_
  refine nr ?_; intro U h; simp only [z0, z1] at h; subst h
  refine s_gcallvY 12 rfl rfl y2 rfl _ 52 Try.call52 rfl rfl _ rfl [.pointer (some ⟨p, 0, none⟩)] rfl (first_any _ p B ro rc q k c (H.gro GG) hk hc) ?_
  intro w1 G
  replace kp := G.has kp
  replace GG := GG.trans G
  clear G
  refine nr ?_; intro U h; simp only [z0, z1] at h; subst h
  refine s_gvalY 13 rfl rfl y2 rfl (.bool false) (run_lssT 2 _ _ _ rfl i ((k + 1 : Nat) : Int) rfl rfl false (by first | exact decide_eq_true (by omega) | exact decide_eq_false (by omega)) _) ?_
  refine nr ?_; intro U h; simp only [z0, z1] at h; subst h
  refine s_val 14 rfl rfl (.bool false) (rfl) ?_
  refine nr ?_; intro U h; simp only [z0, z1] at h; subst h
  refine s_val 15 rfl rfl (.bool false) (rfl) ?_
  refine nr ?_; intro U h; simp only [z0, z1] at h; subst h
  refine s_gvalY 16 rfl rfl y8 rfl (.int .i64 i) (rfl) ?_
  refine nr ?_; intro U h; simp only [z0, z1] at h; subst h
  refine s_gvalY 17 rfl rfl y8 rfl (.pointer (some ⟨p, 0, none⟩)) (rfl) ?_
  refine nr ?_; intro U h; simp only [z0, z1] at h; subst h
  refine s_gvalY 18 rfl rfl y8 rfl (.pointer (some ⟨p, 0, none⟩)) (run_nc _ rfl _ rfl) ?_
  refine nr ?_; intro U h; simp only [z0, z1] at h; subst h
  refine s_gvalY 19 rfl rfl y8 rfl (.pointer (some ⟨p, 0, none⟩)) (run_fld 121 _ 0 rfl _ _ rfl _ (by kernel_rfl)) ?_
  refine nr ?_; intro U h; simp only [z0, z1] at h; subst h
  refine s_gvalY 20 rfl rfl y8 rfl (.int .i64 ((k + q.length : Nat) : Int)) (run_ldc 2 _ rfl p 0 rfl 121 _ kp (na2 _) _ rfl) ?_
  refine nr ?_; intro U h; simp only [z0, z1] at h; subst h
  refine s_gvalY 21 rfl rfl y8 rfl (.bool true) (run_gtrT 2 _ _ _ rfl i ((k + q.length : Nat) : Int) rfl rfl true (by first | exact decide_eq_true (by omega) | exact decide_eq_false (by omega)) _) ?_
  refine nr ?_; intro U h; simp only [z0, z1] at h; subst h
  refine s_val 22 rfl rfl (.bool true) (rfl) ?_
  refine nr ?_; intro U h; simp only [z0, z1] at h; subst h
  refine wpList_nil ?_
  refine then_n ?_
  refine wp_cond_true rfl ?_
  refine wp_seq ?_
  refine wp_region_lit ?_
  refine s_val 4 rfl rfl (.int .i64 0) (rfl) ?_
  refine nr ?_; intro U h; simp only [z0, z1] at h; subst h
  refine wpList_nil ?_
  refine then_n ?_
  refine wp_ret ?_
  refine then_r ?_
  refine bodyPost_ret (results_tmp Try.results60 _ _ _) rfl ?_
  exact ⟨rfl, GG⟩
theorem nil_next (q : List RV) (j : Nat) (hj : j < q.length) : ((List.replicate j (Value.slice none 0 0) ++ (q.map RV.v).drop j)).set j (.slice none 0 0) = List.replicate (j + 1) (Value.slice none 0 0) ++ (q.map RV.v).drop (j + 1) := by
  rw [List.set_append_right _ _ (by simp), List.length_replicate, Nat.sub_self, List.replicate_succ', List.append_assoc]
  congr 1
  rw [List.drop_eq_getElem_cons (by simpa using hj)]
  rfl
theorem nil_drop (q : List RV) (j : Nat) (_hj : j ≤ q.length) : ((List.replicate j (Value.slice none 0 0) ++ (q.map RV.v).drop j)).drop (j * 1) = (q.drop j).map RV.v := by
  rw [Nat.mul_one, List.drop_left' (by simp), List.map_drop]
/-- What an acknowledgement leaves behind it. -/
def AckP (w : World) (p B : Nat) (ro : Option Addr) (q : List RV) (k c m : Nat) (e : Ending) (w' : World) : Prop :=
  ∃ ao2 cap2, e = .returned (.int .i64 ((m : Nat) : Int)) ∧ GroS (p :: blk ro) w w' ∧ WX 121 (c121 ((k + m + (q.drop m).length : Nat) : Int) ⟨ao2, (q.drop m).length, cap2⟩ ((c : Nat) : Int)) w' p B ao2 cap2 (q.drop m) ∧ Kept w.heap.size ro ao2
set_option maxRecDepth 100000 in
set_option maxHeartbeats 4000000 in
theorem acked_ok (w : World) (p B : Nat) (ro : Option Addr) (rc : Nat) (q : List RV) (k c : Nat) (H : WX 121 (c121 ((k + q.length : Nat) : Int) ⟨ro, q.length, rc⟩ ((c : Nat) : Int)) w p B ro rc q) (hk : k + q.length ≤ 100000) (hc : c ≤ 100000) (i : Int) (m : Nat) (hm1 : 1 ≤ m) (hm : m ≤ q.length) (hi : i = ((k + m : Nat) : Int)) : Calls Try.prog 60 #[.pointer (some ⟨p, 0, none⟩), .int .i64 i] w (AckP w p B ro q k c m) := by
  refine s_enter Try.func60 rfl Try.ntmps60 [.pointer (some ⟨p, 0, none⟩), .int .i64 i] [.pointer (some ⟨p, 0, none⟩), .int .i64 i, undef, undef, undef, undef, undef, undef, undef, undef, undef, undef, undef, undef, undef, undef, undef, undef, undef, undef, undef, undef, undef, undef, undef, undef, undef, undef, undef, undef, undef, undef, undef, undef, undef, undef, undef, undef, undef, undef, undef, undef, undef, undef, undef, undef, undef, undef, undef] rfl ?_
  have GG := GroS.refl (p :: blk ro) w
  have kp := H.box
  have hpl := H.lt
  have hBl := H.bl
  have HG := H
  refine wp_seq ?_
  refine wp_region_lit ?_
  refine s_val 4 rfl rfl (.int .i64 0) (rfl) ?_
  refine nr ?_; intro U h; simp only [z0, z1] at h; subst h
  refine wpList_nil ?_
  refine then_n ?_
  refine wp_seq ?_
  refine wp_seq ?_
  refine wp_region_opq ?_
  intro OPS hY
  have y2 := hY 2 9 rfl
  have y8 := hY 8 15 rfl
  clear hY
  refine s_val 7 rfl rfl (.pointer (some ⟨p, 0, none⟩)) (rfl) ?_
  refine nr ?_; intro U h; simp only [z0, z1] at h; subst h
  refine s_val 8 rfl rfl (.bool false) (run_eqnp 95 _ _ _ rfl _ rfl rfl Try.underlying95 _) ?_
  refine nr ?_; intro U h; simp only [z0, z1] at h; subst h
  refine s_val 9 rfl rfl (.bool false) (rfl) ?_
  refine nr ?_; intro U h; simp only [z0, z1] at h; subst h
  refine s_gvalY 10 rfl rfl y2 rfl (.int .i64 i) (rfl) ?_
  refine nr ?_; intro U h; simp only [z0, z1] at h; subst h
  refine s_gvalY 11 rfl rfl y2 rfl (.pointer (some ⟨p, 0, none⟩)) (rfl) ?_
  refine nr ?_; intro U h; simp only [z0, z1] at h; subst h
  refine s_gcallvY 12 rfl rfl y2 rfl _ 52 Try.call52 rfl rfl _ rfl [.pointer (some ⟨p, 0, none⟩)] rfl (first_any _ p B ro rc q k c HG hk hc) ?_
  intro w1 G
  replace kp := G.has kp
  replace HG := HG.gro G
  replace GG := GG.tg G
  clear G
  refine nr ?_; intro U h; simp only [z0, z1] at h; subst h
  refine s_gvalY 13 rfl rfl y2 rfl (.bool false) (run_lssT 2 _ _ _ rfl i ((k + 1 : Nat) : Int) rfl rfl false (by first | exact decide_eq_true (by omega) | exact decide_eq_false (by omega)) _) ?_
  refine nr ?_; intro U h; simp only [z0, z1] at h; subst h
  refine s_val 14 rfl rfl (.bool false) (rfl) ?_
  refine nr ?_; intro U h; simp only [z0, z1] at h; subst h
  refine s_val 15 rfl rfl (.bool false) (rfl) ?_
  refine nr ?_; intro U h; simp only [z0, z1] at h; subst h
  refine s_gvalY 16 rfl rfl y8 rfl (.int .i64 i) (rfl) ?_
  refine nr ?_; intro U h; simp only [z0, z1] at h; subst h
  refine s_gvalY 17 rfl rfl y8 rfl (.pointer (some ⟨p, 0, none⟩)) (rfl) ?_
  refine nr ?_; intro U h; simp only [z0, z1] at h; subst h
  refine s_gvalY 18 rfl rfl y8 rfl (.pointer (some ⟨p, 0, none⟩)) (run_nc _ rfl _ rfl) ?_
  refine nr ?_; intro U h; simp only [z0, z1] at h; subst h
  refine s_gvalY 19 rfl rfl y8 rfl (.pointer (some ⟨p, 0, none⟩)) (run_fld 121 _ 0 rfl _ _ rfl _ (by kernel_rfl)) ?_
  refine nr ?_; intro U h; simp only [z0, z1] at h; subst h
  refine s_gvalY 20 rfl rfl y8 rfl (.int .i64 ((k + q.length : Nat) : Int)) (run_ldc 2 _ rfl p 0 rfl 121 _ kp (na2 _) _ rfl) ?_
  refine nr ?_; intro U h; simp only [z0, z1] at h; subst h
  refine s_gvalY 21 rfl rfl y8 rfl (.bool false) (run_gtrT 2 _ _ _ rfl i ((k + q.length : Nat) : Int) rfl rfl false (by first | exact decide_eq_true (by omega) | exact decide_eq_false (by omega)) _) ?_
  refine nr ?_; intro U h; simp only [z0, z1] at h; subst h
  refine s_val 22 rfl rfl (.bool false) (rfl) ?_
  refine nr ?_; intro U h; simp only [z0, z1] at h; subst h
  refine wpList_nil ?_
  refine then_n ?_
  refine wp_cond_false rfl ?_
  refine wp_skip ?_
  refine then_n ?_
  refine wp_seq ?_
  refine wp_region_lit ?_
  refine s_val 23 rfl rfl (.int .i64 i) (rfl) ?_
  refine nr ?_; intro U h; simp only [z0, z1] at h; subst h
  refine s_val 24 rfl rfl (.pointer (some ⟨p, 0, none⟩)) (rfl) ?_
  refine nr ?_; intro U h; simp only [z0, z1] at h; subst h
  refine s_callv 25 rfl rfl _ 52 Try.call52 rfl rfl _ rfl [.pointer (some ⟨p, 0, none⟩)] rfl (first_any _ p B ro rc q k c HG hk hc) ?_
  intro w2 G
  replace kp := G.has kp
  replace HG := HG.gro G
  replace GG := GG.tg G
  clear G
  refine nr ?_; intro U h; simp only [z0, z1] at h; subst h
  refine s_val 26 rfl rfl (.int .i64 (((m : Nat) : Int) - 1)) (run_subI 2 _ _ _ rfl i ((k + 1 : Nat) : Int) (((m : Nat) : Int) - 1) rfl rfl (by omega) (by omega) (by omega) _) ?_
  refine nr ?_; intro U h; simp only [z0, z1] at h; subst h
  refine s_val 27 rfl rfl (.int .i64 ((m : Nat) : Int)) (run_addI 2 _ _ _ rfl (((m : Nat) : Int) - 1) 1 ((m : Nat) : Int) rfl rfl (by omega) (by omega) (by omega) _) ?_
  refine nr ?_; intro U h; simp only [z0, z1] at h; subst h
  refine s_val 5 rfl rfl (.int .i64 ((m : Nat) : Int)) (rfl) ?_
  refine nr ?_; intro U h; simp only [z0, z1] at h; subst h
  refine wpList_nil ?_
  refine then_n ?_
  refine wp_seq ?_
  refine wp_seq ?_
  refine wp_region_lit ?_
  refine s_val 28 rfl rfl (.int .i64 ((m : Nat) : Int)) (rfl) ?_
  refine nr ?_; intro U h; simp only [z0, z1] at h; subst h
  refine s_val 29 rfl rfl (.int .i64 0) (rfl) ?_
  refine nr ?_; intro U h; simp only [z0, z1] at h; subst h
  refine wpList_nil ?_
  refine then_n ?_
  refine wp_block ?_
  refine wp_loopN (fun mz az wv => ∃ (j : Nat) (us1 : Nat → Value), mz = m - j ∧ az = ⟨[.pointer (some ⟨p, 0, none⟩), .int .i64 i, undef, undef, .int .i64 0, .int .i64 ((m : Nat) : Int), us1 0, .pointer (some ⟨p, 0, none⟩), .bool false, .bool false, .int .i64 i, .pointer (some ⟨p, 0, none⟩), .int .i64 ((k + 1 : Nat) : Int), .bool false, .bool false, .bool false, .int .i64 i, .pointer (some ⟨p, 0, none⟩), .pointer (some ⟨p, 0, none⟩), .pointer (some ⟨p, 0, none⟩), .int .i64 ((k + q.length : Nat) : Int), .bool false, .bool false, .int .i64 i, .pointer (some ⟨p, 0, none⟩), .int .i64 ((k + 1 : Nat) : Int), .int .i64 (((m : Nat) : Int) - 1), .int .i64 ((m : Nat) : Int), .int .i64 ((m : Nat) : Int), .int .i64 ((j : Nat) : Int), us1 1, us1 2, us1 3, us1 4, us1 5, us1 6, us1 7, us1 8, us1 9, undef, undef, undef, undef, undef, undef, undef, undef, undef, undef].toArray, []⟩ ∧ j ≤ m ∧ GroS (p :: blk ro) w wv ∧ wv.heap[p]? = some (.cells (c121 ((k + q.length : Nat) : Int) ⟨ro, q.length, rc⟩ ((c : Nat) : Int)) 121 (0, 0)) ∧ OY wv 36 1 B ro rc q.length ((List.replicate j (Value.slice none 0 0) ++ (q.map RV.v).drop j))) ?_ _ ⟨0, (fun kz => ([undef, undef, undef, undef, undef, undef, undef, undef, undef, undef] : List Value).getD kz undef), rfl, rfl, Nat.zero_le _, GG, kp, (by simpa using HG.row)⟩
  clear kp GG
  rintro mz az wv ⟨j, us1, rfl, rfl, hj, GG, kp, HR⟩
  refine wp_seq ?_
  refine wp_region_lit ?_
  obtain ⟨p1, hp1⟩ : ∃ p, decide (((j : Nat) : Int) < ((m : Nat) : Int)) = p := ⟨_, rfl⟩
  refine s_val 30 rfl rfl (.bool p1) (run_lssT 3 _ _ _ rfl ((j : Nat) : Int) ((m : Nat) : Int) rfl rfl p1 hp1 _) ?_
  refine nr ?_; intro U h; simp only [z0, z1] at h; subst h
  cases p1
  · have hjn : j = m := by have := of_decide_eq_false hp1; omega
    refine wpList_nil ?_
    refine then_n ?_
    refine wp_seq ?_
    refine wp_cond_false rfl ?_
    refine wp_exit ?_
    refine then_x ?_
    refine then_x ?_
    refine blk_x ?_
    refine then_n ?_
    refine wp_seq ?_
    refine wp_region_lit ?_
    refine s_val 39 rfl rfl (.pointer (some ⟨p, 0, none⟩)) (rfl) ?_
    refine nr ?_; intro U h; simp only [z0, z1] at h; subst h
    refine s_val 40 rfl rfl (.pointer (some ⟨p, 0, none⟩)) (rfl) ?_
    refine nr ?_; intro U h; simp only [z0, z1] at h; subst h
    refine s_val 41 rfl rfl (.pointer (some ⟨p, 0, none⟩)) (run_nc _ rfl _ rfl) ?_
    refine nr ?_; intro U h; simp only [z0, z1] at h; subst h
    refine s_val 42 rfl rfl (.pointer (some ⟨p, 1, none⟩)) (run_fld 121 _ 1 rfl _ _ rfl _ (by kernel_rfl)) ?_
    refine nr ?_; intro U h; simp only [z0, z1] at h; subst h
    refine s_val 43 rfl rfl (.slice ro q.length rc) (run_ldc 30 _ rfl p 1 rfl 121 _ kp (na30 _) _ rfl) ?_
    refine nr ?_; intro U h; simp only [z0, z1] at h; subst h
    refine s_val 44 rfl rfl (.int .i64 ((m : Nat) : Int)) (rfl) ?_
    refine nr ?_; intro U h; simp only [z0, z1] at h; subst h
    refine s_val 45 rfl rfl (.slice (if rc = m then ro else ro.map (·.add (m * 1))) ((q.drop m).length) (rc - m)) ((run_cutX rY _ _ rfl ro q.length rc m rfl rfl (by omega) _).trans (by rw [List.length_drop])) ?_
    refine nr ?_; intro U h; simp only [z0, z1] at h; subst h
    refine s_val 46 rfl rfl (.pointer (some ⟨p, 0, none⟩)) (run_nc _ rfl _ rfl) ?_
    refine nr ?_; intro U h; simp only [z0, z1] at h; subst h
    refine s_val 47 rfl rfl (.pointer (some ⟨p, 1, none⟩)) (run_fld 121 _ 1 rfl _ _ rfl _ (by kernel_rfl)) ?_
    refine nr ?_; intro U h; simp only [z0, z1] at h; subst h
    have hjm := hjn.symm
    subst hjm
    have HD := HR.drop m (by omega)
    rw [nil_drop q m (by omega), ← List.length_drop] at HD
    clear HR
    refine s_store rfl rfl 30 _ _ rfl p 1 rfl (.slice (if rc = m then ro else ro.map (·.add (m * 1))) ((q.drop m).length) (rc - m)) rfl 121 _ kp #[.slice (if rc = m then ro else ro.map (·.add (m * 1))) ((q.drop m).length) (rc - m)] rfl (by kernel_rfl) (Nat.le_of_ble_eq_true rfl) (by kernel_rfl) (c121 ((k + q.length : Nat) : Int) ⟨(if rc = m then ro else ro.map (·.add (m * 1))), (q.drop m).length, rc - m⟩ ((c : Nat) : Int)) (by kernel_rfl) ?_
    intro w4 St
    replace HD := HD.st St (fun h => (Kept.cut (p + 1) ro rc m (m * 1) _ h).elim H.ne (fun h2 => by omega))
    replace GG := GG.st St (.inr (by simp))
    replace kp := St.new
    clear St
    refine wpList_nil ?_
    refine then_n ?_
    refine wp_seq ?_
    refine wp_region_lit ?_
    refine s_val 48 rfl rfl (.int .i64 ((m : Nat) : Int)) (rfl) ?_
    refine nr ?_; intro U h; simp only [z0, z1] at h; subst h
    refine s_val 4 rfl rfl (.int .i64 ((m : Nat) : Int)) (rfl) ?_
    refine nr ?_; intro U h; simp only [z0, z1] at h; subst h
    refine wpList_nil ?_
    refine then_n ?_
    refine wp_ret ?_
    refine bodyPost_ret (results_tmp Try.results60 _ _ _) rfl ?_
    have hl2 : k + q.length = k + m + (q.drop m).length := by rw [List.length_drop]; omega
    rw [hl2] at kp
    refine ⟨_, _, rfl, GG, ⟨kp, HD, fun x hx => ?_, H.base, fun x hx => H.sm x (List.mem_of_mem_drop hx), H.ty⟩, Kept.cut _ _ _ _ _⟩
    exact (H.fr x (List.mem_of_mem_drop hx)).gros GG (H.f5 H.own x (List.mem_of_mem_drop hx))
  have hjn : j < m := by have := of_decide_eq_true hp1; omega
  obtain ⟨g, d, cur, hao, hgB, kg, hdj, hset⟩ := HR.set (j := j) (by omega) (.slice none 0 0) rfl
  refine wpList_nil ?_
  refine then_n ?_
  refine wp_seq ?_
  refine wp_cond_true rfl ?_
  refine wp_skip ?_
  refine then_n ?_
  refine wp_seq ?_
  refine wp_block ?_
  refine wp_seq ?_
  refine wp_region_lit ?_
  refine s_val 31 rfl rfl (.int .i64 ((j : Nat) : Int)) (rfl) ?_
  refine nr ?_; intro U h; simp only [z0, z1] at h; subst h
  refine s_val 6 rfl rfl (.int .i64 ((j : Nat) : Int)) (rfl) ?_
  refine nr ?_; intro U h; simp only [z0, z1] at h; subst h
  refine wpList_nil ?_
  refine then_n ?_
  refine wp_region_lit ?_
  refine s_val 32 rfl rfl (.pointer (some ⟨p, 0, none⟩)) (rfl) ?_
  refine nr ?_; intro U h; simp only [z0, z1] at h; subst h
  refine s_val 33 rfl rfl (.pointer (some ⟨p, 0, none⟩)) (run_nc _ rfl _ rfl) ?_
  refine nr ?_; intro U h; simp only [z0, z1] at h; subst h
  refine s_val 34 rfl rfl (.pointer (some ⟨p, 1, none⟩)) (run_fld 121 _ 1 rfl _ _ rfl _ (by kernel_rfl)) ?_
  refine nr ?_; intro U h; simp only [z0, z1] at h; subst h
  refine s_val 35 rfl rfl (.slice ro q.length rc) (run_ldc 30 _ rfl p 1 rfl 121 _ kp (na30 _) _ rfl) ?_
  refine nr ?_; intro U h; simp only [z0, z1] at h; subst h
  refine s_val 36 rfl rfl (.int .i64 ((j : Nat) : Int)) (rfl) ?_
  refine nr ?_; intro U h; simp only [z0, z1] at h; subst h
  refine s_val 37 rfl rfl (.pointer (some ⟨g, d + j, none⟩)) ((run_idx23 _ _ rfl ⟨g, d, none⟩ q.length rc j (by exact congrArg (fun a => Value.slice a q.length rc) hao) rfl (by omega) _).trans (by rw [add_at])) ?_
  refine nr ?_; intro U h; simp only [z0, z1] at h; subst h
  refine s_store rfl rfl 36 _ _ rfl g (d + j) rfl (.slice none 0 0) rfl 36 _ kg #[.slice none 0 0] rfl si36 (by simp only [List.size_toArray, List.length_cons, List.length_nil]; omega) (by kernel_rfl) _ rfl ?_
  intro w3 St
  have hgp : p ≠ g := fun e => ne_type kp kg (by decide) e
  replace kp := St.has hgp kp
  have HR2 := hset _ St
  replace GG := GG.st St (.inr (List.mem_cons_of_mem _ (mem_blk.2 ⟨_, hao, rfl⟩)))
  clear St HR kg hset
  refine wpList_nil ?_
  refine blk_n ?_
  refine then_n ?_
  refine wp_region_lit ?_
  refine s_val 38 rfl rfl (.int .i64 ((j + 1 : Nat) : Int)) (run_addI 3 _ _ _ rfl ((j : Nat) : Int) 1 ((j + 1 : Nat) : Int) rfl rfl (by omega) (by omega) (by omega) _) ?_
  refine nr ?_; intro U h; simp only [z0, z1] at h; subst h
  refine s_val 29 rfl rfl (.int .i64 ((j + 1 : Nat) : Int)) (rfl) ?_
  refine nr ?_; intro U h; simp only [z0, z1] at h; subst h
  refine wpList_nil ?_
  refine then_n ?_
  exact ⟨_, (by omega : m - (j + 1) < m - j), j + 1, (fun kz => ([.int .i64 ((j : Nat) : Int), .bool true, .int .i64 ((j : Nat) : Int), .pointer (some ⟨p, 0, none⟩), .pointer (some ⟨p, 0, none⟩), .pointer (some ⟨p, 1, none⟩), .slice ro q.length rc, .int .i64 ((j : Nat) : Int), .pointer (some ⟨g, d + j, none⟩), .int .i64 ((j + 1 : Nat) : Int)] : List Value).getD kz undef), rfl, rfl, hjn, GG, kp, (by rw [← nil_next q j (by omega)]; exact HR2)⟩
end Go.Proofs.Ytlfanecaglbomaa
