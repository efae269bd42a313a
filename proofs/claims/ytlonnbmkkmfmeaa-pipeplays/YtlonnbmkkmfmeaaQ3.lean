/- Pipes: Twice, Take, Fall and All. -/
import Derived.Test.YtlonnbmkkmfmeaaQ2
namespace Go.Proofs.Ytlonnbmkkmfmeaa
open Go.RowKit

theorem place_k (w : World) (p B : Nat) (ro : Option Addr) (rc : Nat) (q : List RV) (H : PK 26 w p B ro rc q) (i : Int) (k : Nat) (hk : uN i % q.length = k) (h0 : 0 < q.length) : Calls Try.prog 20 #[.pointer (some ⟨p, 0, none⟩), .int .i64 i] w fun e w' => e = .returned (.int .i64 ((k : Nat) : Int)) ∧ Gro w w' := by
  subst hk
  exact place_any w p B ro rc q H i h0
/-- What putting leaves behind it. -/
def PutP (w : World) (p B : Nat) (ro : Option Addr) (q : List RV) (l : List Nat) (t : TypeId) (e : Ending) (w' : World) : Prop :=
  ∃ ao2 cap2 y, e = .returned (.bool true) ∧ y.l = l ∧ GroS (p :: blk ro) w w' ∧ PK t w' p B ao2 cap2 (q ++ [y]) ∧ OB w' 5 .u8 w.heap.size y.ao y.cap y.l ∧ Kept w.heap.size ro ao2
theorem PutP.of {w x w' : World} {p B : Nat} {ro : Option Addr} {q : List RV} {l : List Nat} {t : TypeId} {e : Ending} (G : Gro w x) (h : PutP x p B ro q l t e w') : PutP w p B ro q l t e w' := by
  obtain ⟨a, c, y, h1, h2, h3, h4, h5, h6⟩ := h
  exact ⟨a, c, y, h1, h2, (GroS.of G).trans h3, h4, h5.mono G.size, h6.mono G.size⟩
/-- A pipe's row without one frame. -/
def tkE (M B : Nat) (ro : Option Addr) (q : List RV) (k : Nat) : PostE := PostE.ex (fun v x => ∃ ao2 cap2, v = .slice ao2 (q.eraseIdx k).length cap2 ∧ OY x 30 1 B ao2 cap2 (q.eraseIdx k).length ((q.eraseIdx k).map RV.v) ∧ Kept M ro ao2) (fun _ _ _ G ⟨a, c, h1, h2, h3⟩ => ⟨a, c, h1, h2.gro G, h3⟩)
theorem fill_tk (M B : Nat) (ro : Option Addr) (q : List RV) (k : Nat) (v : Value) : (tkE M B ro q k).fill v = v := rfl
theorem take_app {ops : Array Oper} {o : Oper} {A : Act} {x : World} (s y : Operand) (hw : Region.wanted o (yielded ops A.tmps) = true) (ho : o.op = .call { callee := .builtin .append, args := #[s, y], argTypes := #[24, 24] })
    {M B : Nat} {ro : Option Addr} {rc : Nat} {q : List RV} (hr : OY x 30 1 B ro rc q.length (q.map RV.v)) (hM : M ≤ x.heap.size) (hB : B ≤ M) (hq : q.length ≤ 256) {k : Nat} (hk : k < q.length) (hs : A.eval s = .slice ro k k) (hy : A.eval y = .slice (if rc = k + 1 then ro else ro.map (·.add ((k + 1) * 1))) (q.length - (k + 1)) (rc - (k + 1))) :
    OpE Try.prog ops (tkE M B ro q k) o A x := by
  refine opE_appY rY _ hw s y ho hs (hr.cut k (by omega)) hy (hr.xc.drop (k + 1) (by omega)) (by omega) (by decide) (by omega) ?_
  intro ao2 cap2 w' g1 _ g3
  have e1 : k + (q.length - (k + 1)) = (q.eraseIdx k).length := by rw [List.length_eraseIdx_of_lt hk]; omega
  have e2 : (q.map RV.v).take (k * 1) ++ (q.map RV.v).drop ((k + 1) * 1) = (q.eraseIdx k).map RV.v := by rw [Nat.mul_one, Nat.mul_one, List.eraseIdx_eq_take_drop_succ, List.map_append, List.map_take, List.map_drop]
  rw [e1, e2] at g1
  rw [e1]
  exact ⟨ao2, cap2, rfl, g1, g3.mono hM⟩
/-- Rows of bytes that are new, and another block. -/
def AF (M g : Nat) (w : World) (r : List (Nat × List Nat)) : Prop := ∀ x ∈ r, (M ≤ x.1 ∧ x.1 ≠ g) ∧ w.heap[x.1]? = some (.cells (bv x.2) 5 (0, 0)) ∧ ∀ y ∈ x.2, y < 256
theorem AF.gro {M g : Nat} {w w' : World} {r : List (Nat × List Nat)} (h : AF M g w r) (G : Gro w w') : AF M g w' r := fun x hx => ⟨(h x hx).1, G.has (h x hx).2.1, (h x hx).2.2⟩
theorem AF.st {M g : Nat} {w w' : World} {r : List (Nat × List Nat)} {o : Obj} (h : AF M g w r) (St : Stored w w' g o) : AF M g w' r := fun x hx => ⟨(h x hx).1, St.has (h x hx).1.2 (h x hx).2.1, (h x hx).2.2⟩
def rv (x : Nat × List Nat) : Value := .slice (some ⟨x.1, 0, none⟩) x.2.length x.2.length
/-- What All tells: a row of rows, all of them new. -/
structure AL (w : World) (M g : Nat) (r : List (Nat × List Nat)) : Prop where
  base : M ≤ g
  row : w.heap[g]? = some (.cells (r.map rv).toArray 30 (0, 0))
  fr : ∀ x ∈ r, M ≤ x.1 ∧ w.heap[x.1]? = some (.cells (bv x.2) 5 (0, 0)) ∧ ∀ y ∈ x.2, y < 256
theorem AL.gro {w w' : World} {M g : Nat} {r : List (Nat × List Nat)} (h : AL w M g r) (G : Gro w w') : AL w' M g r := ⟨h.base, G.has h.row, fun x hx => ⟨(h.fr x hx).1, G.has (h.fr x hx).2.1, (h.fr x hx).2.2⟩⟩
theorem AL.lc {w : World} {M g : Nat} {r : List (Nat × List Nat)} (h : AL w M g r) : LC w (some ⟨g, 0, none⟩) r.length (r.map (·.2)) := by
  refine ⟨by simp, fun h => by (cases h), fun ad ha j hj => ?_⟩
  cases ha
  rw [List.length_map] at hj
  have h1 : (r.map (·.2)).getD j [] = r[j].2 := by simp [List.getD_eq_getElem?_getD, hj]
  rw [h1]
  have hx := h.fr _ (List.getElem_mem hj)
  refine ⟨some ⟨r[j].1, 0, none⟩, r[j].2.length, ?_, nc_all hx.2.1 hx.2.2⟩
  rw [add_at, Nat.zero_add, cell_of_row w g j _ 30 _ h.row]
  simp [rv, hj]
theorem run_idxg {o : Oper} {A : Act} (x y : Operand) (ho : o.op = .indexAddr 24 x y) (g n cap j : Nat) (hx : A.eval x = .slice (some ⟨g, 0, none⟩) n cap) (hy : A.eval y = .int .i64 (j : Int)) (hj : j < n) (w : World) :
    (execOp A.eval o).run Try.prog w = .ok (.value (.pointer (some ⟨g, j, none⟩))) w := by
  rw [run_idx23 x y ho ⟨g, 0, none⟩ n cap j hx hy hj w, add_at, Nat.zero_add]
theorem splice_next (a : List Value) (z v : Value) (m j : Nat) (hj : a.length = j) (hm : j < m) : splice (a ++ List.replicate (m - j) z).toArray j #[v] = (a ++ [v] ++ List.replicate (m - (j + 1)) z).toArray := by
  subst hj
  obtain ⟨k, rfl⟩ : ∃ k, m = a.length + k + 1 := ⟨m - a.length - 1, by omega⟩
  have e1 : a.length + k + 1 - a.length = k + 1 := by omega
  have e2 : a.length + k + 1 - (a.length + 1) = k := by omega
  rw [e1, e2]
  simp [splice, List.replicate_succ]
section
variable {P : Program} {ops : Array Oper} {rest : List Oper} {o : Oper} {T : List Value} {ds : List Deferred} {w : World} {Q : Exit → Act → World → Prop}

theorem s_makeY {t e : TypeId} {b : Nat} {z : Value} (TT : RowT P t e 1 b z) (hz1 : z.cells = #[z]) (dst : Nat) (hd : o.dst = some dst) (hgd : o.guard = none) (x y : Operand) (ho : o.op = .makeSlice t x y) (n : Nat) (hx : (⟨T.toArray, ds⟩ : Act).eval x = .int .i64 (n : Int)) (hy : (⟨T.toArray, ds⟩ : Act).eval y = .int .i64 (n : Int)) (hb : b * n ≤ 281474976710656) (hm : n ≤ maxLen)
    (h : ∀ w' g, Gro w w' → w.heap.size = g → w'.heap[g]? = some (.cells (List.replicate n z).toArray e (0, 0)) → wpList P ops Q rest ⟨(T.set dst (.slice (some ⟨g, 0, none⟩) n n)).toArray, ds⟩ w') : wpList P ops Q (o :: rest) ⟨T.toArray, ds⟩ w := by
  obtain ⟨i, hi, hz, hsz, hby⟩ := TT.info
  refine wpList_make_full w hgd x y t ho w.heap.size e i z 1 TT.und hi hz hsz .i64 .i64 _ _ n hx hy rfl rfl (by rw [hby]; exact hb) hm (Nat.le_refl _) ?_
  intro w' h1 h2
  rw [hd, put_list]
  rcases h1.2 with ⟨h3, _⟩ | ⟨g, c, cur, h3, _, h4, _, _, h5, h6⟩
  · cases h3
  · injection h3 with e1 e2 e3
    injection e1 with e1
    injection e1 with e1
    subst e1 e3
    refine h w' _ ⟨h2.os, h2.tape, h2.output, h2.size, fun k hk => h2.block k hk (by simp)⟩ rfl ?_
    have : cur = (List.replicate n z).toArray := by
      apply Array.toList_inj.1
      rw [hz1, Nat.mul_one, toList_madeCells_one, List.take_of_length_le (by simp; omega)] at h6
      rw [h6]
    rw [← this]
    exact h4
end
set_option maxRecDepth 100000 in
set_option maxHeartbeats 4000000 in
theorem twice_nil (w : World) (i : Int) : Calls Try.prog 12 #[.pointer none, .int .i64 i] w fun e w' => e = .returned (.bool false) ∧ Gro w w' := by
  refine s_enter Try.func12 rfl Try.ntmps12 [.pointer none, .int .i64 i] [.pointer none, .int .i64 i, undef, undef, undef, undef, undef, undef, undef, undef, undef, undef, undef, undef, undef, undef, undef, undef, undef] rfl ?_
  have GG := Gro.refl w
  refine wp_seq ?_
  refine wp_region_lit ?_
  refine s_val 4 rfl rfl (.bool false) (rfl) ?_
  refine nr ?_; intro U h; simp only [z0, z1] at h; subst h
  refine wpList_nil ?_
  refine then_n ?_
  refine wp_seq ?_
  refine wp_seq ?_
  refine wp_region_lit ?_
  refine s_val 5 rfl rfl (.pointer none) (rfl) ?_
  refine nr ?_; intro U h; simp only [z0, z1] at h; subst h
  refine s_callv 6 rfl rfl _ 17 Try.call17 rfl rfl _ rfl [.pointer none] rfl (len_nil _) ?_
  intro w1 G
  replace GG := GG.trans G
  clear G
  refine nr ?_; intro U h; simp only [z0, z1] at h; subst h
  refine s_val 7 rfl rfl (.bool true) (run_eq_k 3 .i64 _ _ _ rfl Try.underlying3 0 0 rfl rfl true (by first | exact decide_eq_true (by omega) | exact decide_eq_false (by omega)) _) ?_
  refine nr ?_; intro U h; simp only [z0, z1] at h; subst h
  refine wpList_nil ?_
  refine then_n ?_
  refine wp_cond_true rfl ?_
  refine wp_seq ?_
  refine wp_region_lit ?_
  refine s_val 4 rfl rfl (.bool false) (rfl) ?_
  refine nr ?_; intro U h; simp only [z0, z1] at h; subst h
  refine wpList_nil ?_
  refine then_n ?_
  refine wp_ret ?_
  refine then_r ?_
  refine bodyPost_ret (results_tmp Try.results12 _ _ _) rfl ?_
  exact ⟨rfl, GG⟩
set_option maxRecDepth 100000 in
set_option maxHeartbeats 4000000 in
theorem twice_none (w : World) (p B : Nat) (ro : Option Addr) (rc : Nat) (q : List RV) (H : PK 26 w p B ro rc q) (i : Int) (h0 : q.length = 0) : Calls Try.prog 12 #[.pointer (some ⟨p, 0, none⟩), .int .i64 i] w fun e w' => e = .returned (.bool false) ∧ Gro w w' := by
  refine s_enter Try.func12 rfl Try.ntmps12 [.pointer (some ⟨p, 0, none⟩), .int .i64 i] [.pointer (some ⟨p, 0, none⟩), .int .i64 i, undef, undef, undef, undef, undef, undef, undef, undef, undef, undef, undef, undef, undef, undef, undef, undef, undef] rfl ?_
  have GG := Gro.refl w
  have kp := H.box
  have hq := H.le
  have hpl := H.lt
  have hBl := H.bl
  refine wp_seq ?_
  refine wp_region_lit ?_
  refine s_val 4 rfl rfl (.bool false) (rfl) ?_
  refine nr ?_; intro U h; simp only [z0, z1] at h; subst h
  refine wpList_nil ?_
  refine then_n ?_
  refine wp_seq ?_
  refine wp_seq ?_
  refine wp_region_lit ?_
  refine s_val 5 rfl rfl (.pointer (some ⟨p, 0, none⟩)) (rfl) ?_
  refine nr ?_; intro U h; simp only [z0, z1] at h; subst h
  refine s_callv 6 rfl rfl _ 17 Try.call17 rfl rfl _ rfl [.pointer (some ⟨p, 0, none⟩)] rfl (len_any _ p B ro rc q (H.gro GG)) ?_
  intro w1 G
  replace kp := G.has kp
  replace GG := GG.trans G
  clear G
  refine nr ?_; intro U h; simp only [z0, z1] at h; subst h
  refine s_val 7 rfl rfl (.bool true) (run_eq_k 3 .i64 _ _ _ rfl Try.underlying3 ((q.length : Nat) : Int) 0 rfl rfl true (by first | exact decide_eq_true (by omega) | exact decide_eq_false (by omega)) _) ?_
  refine nr ?_; intro U h; simp only [z0, z1] at h; subst h
  refine wpList_nil ?_
  refine then_n ?_
  refine wp_cond_true rfl ?_
  refine wp_seq ?_
  refine wp_region_lit ?_
  refine s_val 4 rfl rfl (.bool false) (rfl) ?_
  refine nr ?_; intro U h; simp only [z0, z1] at h; subst h
  refine wpList_nil ?_
  refine then_n ?_
  refine wp_ret ?_
  refine then_r ?_
  refine bodyPost_ret (results_tmp Try.results12 _ _ _) rfl ?_
  exact ⟨rfl, GG⟩
set_option maxRecDepth 100000 in
set_option maxHeartbeats 4000000 in
theorem twice_full (w : World) (p B : Nat) (ro : Option Addr) (rc : Nat) (q : List RV) (H : PK 26 w p B ro rc q) (i : Int) (k : Nat) (hk : uN i % q.length = k) (x : RV) (hx : q[k]? = some x) (hf : 256 ≤ q.length) : Calls Try.prog 12 #[.pointer (some ⟨p, 0, none⟩), .int .i64 i] w fun e w' => e = .returned (.bool false) ∧ Gro w w' := by
  refine s_enter Try.func12 rfl Try.ntmps12 [.pointer (some ⟨p, 0, none⟩), .int .i64 i] [.pointer (some ⟨p, 0, none⟩), .int .i64 i, undef, undef, undef, undef, undef, undef, undef, undef, undef, undef, undef, undef, undef, undef, undef, undef, undef] rfl ?_
  have GG := Gro.refl w
  have kp := H.box
  have hq := H.le
  have hpl := H.lt
  have hBl := H.bl
  have hkl : k < q.length := (List.getElem?_eq_some_iff.1 hx).1
  have hxq : x ∈ q := List.mem_of_getElem? hx
  obtain ⟨ad, hao, hcl⟩ := H.at hx
  refine wp_seq ?_
  refine wp_region_lit ?_
  refine s_val 4 rfl rfl (.bool false) (rfl) ?_
  refine nr ?_; intro U h; simp only [z0, z1] at h; subst h
  refine wpList_nil ?_
  refine then_n ?_
  refine wp_seq ?_
  refine wp_seq ?_
  refine wp_region_lit ?_
  refine s_val 5 rfl rfl (.pointer (some ⟨p, 0, none⟩)) (rfl) ?_
  refine nr ?_; intro U h; simp only [z0, z1] at h; subst h
  refine s_callv 6 rfl rfl _ 17 Try.call17 rfl rfl _ rfl [.pointer (some ⟨p, 0, none⟩)] rfl (len_any _ p B ro rc q (H.gro GG)) ?_
  intro w1 G
  replace kp := G.has kp
  replace GG := GG.trans G
  clear G
  refine nr ?_; intro U h; simp only [z0, z1] at h; subst h
  refine s_val 7 rfl rfl (.bool false) (run_eq_k 3 .i64 _ _ _ rfl Try.underlying3 ((q.length : Nat) : Int) 0 rfl rfl false (by first | exact decide_eq_true (by omega) | exact decide_eq_false (by omega)) _) ?_
  refine nr ?_; intro U h; simp only [z0, z1] at h; subst h
  refine wpList_nil ?_
  refine then_n ?_
  refine wp_cond_false rfl ?_
  refine wp_skip ?_
  refine then_n ?_
  refine wp_seq ?_
  refine wp_region_exA (A := ?Ax1) 10 [(0, 8), (1, 9), (2, 10), (3, 11), (4, 12), (5, 13), (6, 14), (7, 15), (8, 16), (9, 17)] [.val (.pointer (some ⟨p, 0, none⟩)), .val (.pointer (some ⟨p, 0, none⟩)), .val (.pointer (some ⟨p, 0, none⟩)), .val (.pointer (some ⟨p, 0, none⟩)), .val (.slice ro q.length rc), .val (.pointer (some ⟨p, 0, none⟩)), .val (.int .i64 i), .val (.int .i64 ((k : Nat) : Int)), .val (.pointer (some (ad.add k))), .val (.slice x.ao x.l.length x.cap)] follows (by kernel_rfl) rfl ?hAx1 (opsA_cons ?o0x1 (opsA_cons ?o1x1 (opsA_cons ?o2x1 (opsA_cons ?o3x1 (opsA_cons ?o4x1 (opsA_cons ?o5x1 (opsA_cons ?o6x1 (opsA_cons ?o7x1 (opsA_cons ?o8x1 (opsA_cons ?o9x1 opsA_nil)))))))))) ?restx1
  case hAx1 =>
    intro ptrs
    simp only [full, foldSlots, filledE, postE, List.foldl_cons, List.foldl_nil, List.getD_cons_zero, List.getD_cons_succ, fill_val, List.set_cons_zero, List.set_cons_succ]
    exact rfl
  case o0x1 => exact fun _ _ _ _ => opE_move (v := .pointer (some ⟨p, 0, none⟩)) _ rfl rfl rfl
  case o1x1 => exact fun _ _ _ _ => opE_move (v := .pointer (some ⟨p, 0, none⟩)) _ rfl rfl rfl
  case o2x1 => exact fun _ _ hw _ => opE_value (v := .pointer (some ⟨p, 0, none⟩)) rfl (run_nc _ rfl _ rfl)
  case o3x1 => exact fun _ _ hw _ => opE_value (v := .pointer (some ⟨p, 0, none⟩)) rfl (run_fld 26 _ 0 rfl _ _ rfl _ (by kernel_rfl))
  case o4x1 => exact fun _ _ hw _ => opE_value (v := .slice ro q.length rc) rfl (run_ldc 24 _ rfl p 0 rfl 26 _ (hw.has kp) (na24 _) _ rfl)
  case o5x1 => exact fun _ _ _ _ => opE_move (v := .pointer (some ⟨p, 0, none⟩)) _ rfl rfl rfl
  case o6x1 => exact fun _ _ _ _ => opE_move (v := .int .i64 i) _ rfl rfl rfl
  case o7x1 => exact fun _ _ hw _ => opE_call (.val (.int .i64 ((k : Nat) : Int))) rfl _ 20 Try.call20 rfl rfl _ rfl [.pointer (some ⟨p, 0, none⟩), .int .i64 i] rfl ((place_k _ p B ro rc q (H.gro (GG.drew.trans hw)) i k hk (by omega)).mono fun e w' ⟨he, hg⟩ => ⟨_, he, hg, rfl⟩)
  case o8x1 => exact fun _ _ hw _ => opE_value (v := .pointer (some (ad.add k))) rfl (run_idx23 _ _ rfl ad q.length rc k (by exact congrArg (fun a => Value.slice a q.length rc) hao) rfl hkl _)
  case o9x1 => exact fun _ _ hw _ => opE_value (v := .slice x.ao x.l.length x.cap) rfl (run_ld24 _ rfl _ rfl _ _ (gro_cell (GG.drew.trans hw) hcl))
  intro ptrs w2 GD hxE
  simp only [List.drop_succ_cons, List.drop_zero]
  replace kp := GD.has kp
  replace GG := GG.drew.trans GD
  clear GD
  refine s_callv 18 rfl rfl _ 8 Try.call8 rfl rfl _ rfl [.pointer (some ⟨p, 0, none⟩), .slice x.ao x.l.length x.cap] rfl (put_full _ p B ro rc q (H.gro GG) hf x.ao x.cap x.l) ?_
  intro w3 G
  replace kp := G.has kp
  replace GG := GG.trans G
  clear G
  refine nr ?_; intro U h; simp only [z0, z1] at h; subst h
  refine s_val 4 rfl rfl (.bool false) (rfl) ?_
  refine nr ?_; intro U h; simp only [z0, z1] at h; subst h
  refine wpList_nil ?_
  refine then_n ?_
  refine wp_ret ?_
  refine bodyPost_ret (results_tmp Try.results12 _ _ _) rfl ?_
  exact ⟨rfl, GG⟩
set_option maxRecDepth 100000 in
set_option maxHeartbeats 4000000 in
theorem twice_ok (w : World) (p B : Nat) (ro : Option Addr) (rc : Nat) (q : List RV) (H : PK 26 w p B ro rc q) (i : Int) (k : Nat) (hk : uN i % q.length = k) (x : RV) (hx : q[k]? = some x) (hf : q.length < 256) : Calls Try.prog 12 #[.pointer (some ⟨p, 0, none⟩), .int .i64 i] w (PutP w p B ro q x.l 26) := by
  refine s_enter Try.func12 rfl Try.ntmps12 [.pointer (some ⟨p, 0, none⟩), .int .i64 i] [.pointer (some ⟨p, 0, none⟩), .int .i64 i, undef, undef, undef, undef, undef, undef, undef, undef, undef, undef, undef, undef, undef, undef, undef, undef, undef] rfl ?_
  have GG := Gro.refl w
  have kp := H.box
  have hq := H.le
  have hpl := H.lt
  have hBl := H.bl
  have hkl : k < q.length := (List.getElem?_eq_some_iff.1 hx).1
  have hxq : x ∈ q := List.mem_of_getElem? hx
  obtain ⟨ad, hao, hcl⟩ := H.at hx
  refine wp_seq ?_
  refine wp_region_lit ?_
  refine s_val 4 rfl rfl (.bool false) (rfl) ?_
  refine nr ?_; intro U h; simp only [z0, z1] at h; subst h
  refine wpList_nil ?_
  refine then_n ?_
  refine wp_seq ?_
  refine wp_seq ?_
  refine wp_region_lit ?_
  refine s_val 5 rfl rfl (.pointer (some ⟨p, 0, none⟩)) (rfl) ?_
  refine nr ?_; intro U h; simp only [z0, z1] at h; subst h
  refine s_callv 6 rfl rfl _ 17 Try.call17 rfl rfl _ rfl [.pointer (some ⟨p, 0, none⟩)] rfl (len_any _ p B ro rc q (H.gro GG)) ?_
  intro w1 G
  replace kp := G.has kp
  replace GG := GG.trans G
  clear G
  refine nr ?_; intro U h; simp only [z0, z1] at h; subst h
  refine s_val 7 rfl rfl (.bool false) (run_eq_k 3 .i64 _ _ _ rfl Try.underlying3 ((q.length : Nat) : Int) 0 rfl rfl false (by first | exact decide_eq_true (by omega) | exact decide_eq_false (by omega)) _) ?_
  refine nr ?_; intro U h; simp only [z0, z1] at h; subst h
  refine wpList_nil ?_
  refine then_n ?_
  refine wp_cond_false rfl ?_
  refine wp_skip ?_
  refine then_n ?_
  refine wp_seq ?_
  refine wp_region_exA (A := ?Ax2) 10 [(0, 8), (1, 9), (2, 10), (3, 11), (4, 12), (5, 13), (6, 14), (7, 15), (8, 16), (9, 17)] [.val (.pointer (some ⟨p, 0, none⟩)), .val (.pointer (some ⟨p, 0, none⟩)), .val (.pointer (some ⟨p, 0, none⟩)), .val (.pointer (some ⟨p, 0, none⟩)), .val (.slice ro q.length rc), .val (.pointer (some ⟨p, 0, none⟩)), .val (.int .i64 i), .val (.int .i64 ((k : Nat) : Int)), .val (.pointer (some (ad.add k))), .val (.slice x.ao x.l.length x.cap)] follows (by kernel_rfl) rfl ?hAx2 (opsA_cons ?o0x2 (opsA_cons ?o1x2 (opsA_cons ?o2x2 (opsA_cons ?o3x2 (opsA_cons ?o4x2 (opsA_cons ?o5x2 (opsA_cons ?o6x2 (opsA_cons ?o7x2 (opsA_cons ?o8x2 (opsA_cons ?o9x2 opsA_nil)))))))))) ?restx2
  case hAx2 =>
    intro ptrs
    simp only [full, foldSlots, filledE, postE, List.foldl_cons, List.foldl_nil, List.getD_cons_zero, List.getD_cons_succ, fill_val, List.set_cons_zero, List.set_cons_succ]
    exact rfl
  case o0x2 => exact fun _ _ _ _ => opE_move (v := .pointer (some ⟨p, 0, none⟩)) _ rfl rfl rfl
  case o1x2 => exact fun _ _ _ _ => opE_move (v := .pointer (some ⟨p, 0, none⟩)) _ rfl rfl rfl
  case o2x2 => exact fun _ _ hw _ => opE_value (v := .pointer (some ⟨p, 0, none⟩)) rfl (run_nc _ rfl _ rfl)
  case o3x2 => exact fun _ _ hw _ => opE_value (v := .pointer (some ⟨p, 0, none⟩)) rfl (run_fld 26 _ 0 rfl _ _ rfl _ (by kernel_rfl))
  case o4x2 => exact fun _ _ hw _ => opE_value (v := .slice ro q.length rc) rfl (run_ldc 24 _ rfl p 0 rfl 26 _ (hw.has kp) (na24 _) _ rfl)
  case o5x2 => exact fun _ _ _ _ => opE_move (v := .pointer (some ⟨p, 0, none⟩)) _ rfl rfl rfl
  case o6x2 => exact fun _ _ _ _ => opE_move (v := .int .i64 i) _ rfl rfl rfl
  case o7x2 => exact fun _ _ hw _ => opE_call (.val (.int .i64 ((k : Nat) : Int))) rfl _ 20 Try.call20 rfl rfl _ rfl [.pointer (some ⟨p, 0, none⟩), .int .i64 i] rfl ((place_k _ p B ro rc q (H.gro (GG.drew.trans hw)) i k hk (by omega)).mono fun e w' ⟨he, hg⟩ => ⟨_, he, hg, rfl⟩)
  case o8x2 => exact fun _ _ hw _ => opE_value (v := .pointer (some (ad.add k))) rfl (run_idx23 _ _ rfl ad q.length rc k (by exact congrArg (fun a => Value.slice a q.length rc) hao) rfl hkl _)
  case o9x2 => exact fun _ _ hw _ => opE_value (v := .slice x.ao x.l.length x.cap) rfl (run_ld24 _ rfl _ rfl _ _ (gro_cell (GG.drew.trans hw) hcl))
  intro ptrs w2 GD hxE
  simp only [List.drop_succ_cons, List.drop_zero]
  replace kp := GD.has kp
  replace GG := GG.drew.trans GD
  clear GD
  have hsz := GG.size
  refine s_callx 18 rfl rfl _ 8 Try.call8 rfl rfl _ rfl [.pointer (some ⟨p, 0, none⟩), .slice x.ao x.l.length x.cap] rfl ((put_ok _ p B ro rc q (H.gro GG) hf x.ao x.cap x.l ((H.fr x hxq).gro GG).nc (fun ad ha _ hm => H.f5 H.own x hxq ad ha (List.mem_cons_of_mem _ hm)) (H.sm x hxq)).mono (fun e w' h => (PutP.of GG h : PutP w p B ro q x.l 26 e w'))) (fun _ _ ⟨_, _, _, he, _⟩ => ⟨_, he⟩) ?_
  rintro v w3 ⟨ao2, cap2, y, he, hy, G, HP, HY, hkp⟩
  cases he
  clear kp
  refine nr ?_; intro U h; simp only [z0, z1] at h; subst h
  refine s_val 4 rfl rfl (.bool true) (rfl) ?_
  refine nr ?_; intro U h; simp only [z0, z1] at h; subst h
  refine wpList_nil ?_
  refine then_n ?_
  refine wp_ret ?_
  refine bodyPost_ret (results_tmp Try.results12 _ _ _) rfl ?_
  exact ⟨ao2, cap2, y, rfl, hy, G, HP, HY, hkp⟩
set_option maxRecDepth 100000 in
set_option maxHeartbeats 4000000 in
theorem take_nil (w : World) (i : Int) : Calls Try.prog 10 #[.pointer none, .int .i64 i] w fun e w' => e = .returned (.tuple #[.slice none 0 0, .bool false]) ∧ Gro w w' := by
  refine s_enter Try.func10 rfl Try.ntmps10 [.pointer none, .int .i64 i] [.pointer none, .int .i64 i, undef, undef, undef, undef, undef, undef, undef, undef, undef, undef, undef, undef, undef, undef, undef, undef, undef, undef, undef, undef, undef, undef, undef, undef, undef, undef, undef, undef, undef, undef, undef, undef, undef, undef, undef, undef, undef, undef, undef] rfl ?_
  have GG := Gro.refl w
  refine wp_seq ?_
  refine wp_region_lit ?_
  refine s_val 4 rfl rfl (.slice none 0 0) (rfl) ?_
  refine nr ?_; intro U h; simp only [z0, z1] at h; subst h
  refine s_val 5 rfl rfl (.bool false) (rfl) ?_
  refine nr ?_; intro U h; simp only [z0, z1] at h; subst h
  refine wpList_nil ?_
  refine then_n ?_
  refine wp_seq ?_
  refine wp_seq ?_
  refine wp_region_lit ?_
  refine s_val 8 rfl rfl (.pointer none) (rfl) ?_
  refine nr ?_; intro U h; simp only [z0, z1] at h; subst h
  refine s_callv 9 rfl rfl _ 17 Try.call17 rfl rfl _ rfl [.pointer none] rfl (len_nil _) ?_
  intro w1 G
  replace GG := GG.trans G
  clear G
  refine nr ?_; intro U h; simp only [z0, z1] at h; subst h
  refine s_val 10 rfl rfl (.bool true) (run_eq_k 3 .i64 _ _ _ rfl Try.underlying3 0 0 rfl rfl true (by first | exact decide_eq_true (by omega) | exact decide_eq_false (by omega)) _) ?_
  refine nr ?_; intro U h; simp only [z0, z1] at h; subst h
  refine wpList_nil ?_
  refine then_n ?_
  refine wp_cond_true rfl ?_
  refine wp_seq ?_
  refine wp_region_lit ?_
  refine s_val 4 rfl rfl (.slice none 0 0) (rfl) ?_
  refine nr ?_; intro U h; simp only [z0, z1] at h; subst h
  refine s_val 5 rfl rfl (.bool false) (rfl) ?_
  refine nr ?_; intro U h; simp only [z0, z1] at h; subst h
  refine wpList_nil ?_
  refine then_n ?_
  refine wp_ret ?_
  refine then_r ?_
  refine bodyPost_ret (results_tmp2 Try.results10 _ _ _) rfl ?_
  exact ⟨rfl, GG⟩
set_option maxRecDepth 100000 in
set_option maxHeartbeats 4000000 in
theorem take_none (w : World) (p B : Nat) (ro : Option Addr) (rc : Nat) (q : List RV) (H : PK 26 w p B ro rc q) (i : Int) (h0 : q.length = 0) : Calls Try.prog 10 #[.pointer (some ⟨p, 0, none⟩), .int .i64 i] w fun e w' => e = .returned (.tuple #[.slice none 0 0, .bool false]) ∧ Gro w w' := by
  refine s_enter Try.func10 rfl Try.ntmps10 [.pointer (some ⟨p, 0, none⟩), .int .i64 i] [.pointer (some ⟨p, 0, none⟩), .int .i64 i, undef, undef, undef, undef, undef, undef, undef, undef, undef, undef, undef, undef, undef, undef, undef, undef, undef, undef, undef, undef, undef, undef, undef, undef, undef, undef, undef, undef, undef, undef, undef, undef, undef, undef, undef, undef, undef, undef, undef] rfl ?_
  have GG := Gro.refl w
  have kp := H.box
  have hq := H.le
  have hpl := H.lt
  have hBl := H.bl
  refine wp_seq ?_
  refine wp_region_lit ?_
  refine s_val 4 rfl rfl (.slice none 0 0) (rfl) ?_
  refine nr ?_; intro U h; simp only [z0, z1] at h; subst h
  refine s_val 5 rfl rfl (.bool false) (rfl) ?_
  refine nr ?_; intro U h; simp only [z0, z1] at h; subst h
  refine wpList_nil ?_
  refine then_n ?_
  refine wp_seq ?_
  refine wp_seq ?_
  refine wp_region_lit ?_
  refine s_val 8 rfl rfl (.pointer (some ⟨p, 0, none⟩)) (rfl) ?_
  refine nr ?_; intro U h; simp only [z0, z1] at h; subst h
  refine s_callv 9 rfl rfl _ 17 Try.call17 rfl rfl _ rfl [.pointer (some ⟨p, 0, none⟩)] rfl (len_any _ p B ro rc q (H.gro GG)) ?_
  intro w1 G
  replace kp := G.has kp
  replace GG := GG.trans G
  clear G
  refine nr ?_; intro U h; simp only [z0, z1] at h; subst h
  refine s_val 10 rfl rfl (.bool true) (run_eq_k 3 .i64 _ _ _ rfl Try.underlying3 ((q.length : Nat) : Int) 0 rfl rfl true (by first | exact decide_eq_true (by omega) | exact decide_eq_false (by omega)) _) ?_
  refine nr ?_; intro U h; simp only [z0, z1] at h; subst h
  refine wpList_nil ?_
  refine then_n ?_
  refine wp_cond_true rfl ?_
  refine wp_seq ?_
  refine wp_region_lit ?_
  refine s_val 4 rfl rfl (.slice none 0 0) (rfl) ?_
  refine nr ?_; intro U h; simp only [z0, z1] at h; subst h
  refine s_val 5 rfl rfl (.bool false) (rfl) ?_
  refine nr ?_; intro U h; simp only [z0, z1] at h; subst h
  refine wpList_nil ?_
  refine then_n ?_
  refine wp_ret ?_
  refine then_r ?_
  refine bodyPost_ret (results_tmp2 Try.results10 _ _ _) rfl ?_
  exact ⟨rfl, GG⟩
/-- What taking leaves behind it. -/
def TakeP (w : World) (p B : Nat) (ro : Option Addr) (q : List RV) (k : Nat) (x : RV) (e : Ending) (w' : World) : Prop :=
  ∃ g ao2 cap2, e = .returned (.tuple #[.slice (some ⟨g, 0, none⟩) x.l.length x.l.length, .bool true]) ∧ GroS [p] w w' ∧ w.heap.size ≤ g ∧ w'.heap[g]? = some (.cells (bv x.l) 5 (0, 0)) ∧ PK 26 w' p B ao2 cap2 (q.eraseIdx k) ∧ Kept w.heap.size ro ao2
set_option maxRecDepth 100000 in
set_option maxHeartbeats 4000000 in
theorem take_ok (w : World) (p B : Nat) (ro : Option Addr) (rc : Nat) (q : List RV) (H : PK 26 w p B ro rc q) (i : Int) (k : Nat) (hk : uN i % q.length = k) (x : RV) (hx : q[k]? = some x) : Calls Try.prog 10 #[.pointer (some ⟨p, 0, none⟩), .int .i64 i] w (TakeP w p B ro q k x) := by
  refine s_enter Try.func10 rfl Try.ntmps10 [.pointer (some ⟨p, 0, none⟩), .int .i64 i] [.pointer (some ⟨p, 0, none⟩), .int .i64 i, undef, undef, undef, undef, undef, undef, undef, undef, undef, undef, undef, undef, undef, undef, undef, undef, undef, undef, undef, undef, undef, undef, undef, undef, undef, undef, undef, undef, undef, undef, undef, undef, undef, undef, undef, undef, undef, undef, undef] rfl ?_
  have GG := GroS.refl [p] w
  have kp := H.box
  have hq := H.le
  have hpl := H.lt
  have hBl := H.bl
  have hkl : k < q.length := (List.getElem?_eq_some_iff.1 hx).1
  have hxq : x ∈ q := List.mem_of_getElem? hx
  obtain ⟨ad, hao, hcl⟩ := H.at hx
  have hfit := H.row.xc.fit
  have hx1 := H.sm x hxq
  refine wp_seq ?_
  refine wp_region_lit ?_
  refine s_val 4 rfl rfl (.slice none 0 0) (rfl) ?_
  refine nr ?_; intro U h; simp only [z0, z1] at h; subst h
  refine s_val 5 rfl rfl (.bool false) (rfl) ?_
  refine nr ?_; intro U h; simp only [z0, z1] at h; subst h
  refine wpList_nil ?_
  refine then_n ?_
  refine wp_seq ?_
  refine wp_seq ?_
  refine wp_region_lit ?_
  refine s_val 8 rfl rfl (.pointer (some ⟨p, 0, none⟩)) (rfl) ?_
  refine nr ?_; intro U h; simp only [z0, z1] at h; subst h
  have HG := H
  refine s_callv 9 rfl rfl _ 17 Try.call17 rfl rfl _ rfl [.pointer (some ⟨p, 0, none⟩)] rfl (len_any _ p B ro rc q HG) ?_
  intro w1 G
  replace kp := G.has kp
  replace HG := HG.gro G
  replace hcl := gro_cell G hcl
  replace GG := GG.tg G
  clear G
  refine nr ?_; intro U h; simp only [z0, z1] at h; subst h
  refine s_val 10 rfl rfl (.bool false) (run_eq_k 3 .i64 _ _ _ rfl Try.underlying3 ((q.length : Nat) : Int) 0 rfl rfl false (by first | exact decide_eq_true (by omega) | exact decide_eq_false (by omega)) _) ?_
  refine nr ?_; intro U h; simp only [z0, z1] at h; subst h
  refine wpList_nil ?_
  refine then_n ?_
  refine wp_cond_false rfl ?_
  refine wp_skip ?_
  refine then_n ?_
  refine wp_seq ?_
  refine wp_region_lit ?_
  refine s_val 11 rfl rfl (.pointer (some ⟨p, 0, none⟩)) (rfl) ?_
  refine nr ?_; intro U h; simp only [z0, z1] at h; subst h
  refine s_val 12 rfl rfl (.int .i64 i) (rfl) ?_
  refine nr ?_; intro U h; simp only [z0, z1] at h; subst h
  refine s_callv 13 rfl rfl _ 20 Try.call20 rfl rfl _ rfl [.pointer (some ⟨p, 0, none⟩), .int .i64 i] rfl (place_k _ p B ro rc q HG i k hk (by omega)) ?_
  intro w2 G
  replace kp := G.has kp
  replace HG := HG.gro G
  replace hcl := gro_cell G hcl
  replace GG := GG.tg G
  clear G
  refine nr ?_; intro U h; simp only [z0, z1] at h; subst h
  refine s_val 6 rfl rfl (.int .i64 ((k : Nat) : Int)) (rfl) ?_
  refine nr ?_; intro U h; simp only [z0, z1] at h; subst h
  refine wpList_nil ?_
  refine then_n ?_
  refine wp_seq ?_
  refine wp_region_lit ?_
  refine s_val 14 rfl rfl (.pointer (some ⟨p, 0, none⟩)) (rfl) ?_
  refine nr ?_; intro U h; simp only [z0, z1] at h; subst h
  refine s_val 15 rfl rfl (.pointer (some ⟨p, 0, none⟩)) (run_nc _ rfl _ rfl) ?_
  refine nr ?_; intro U h; simp only [z0, z1] at h; subst h
  refine s_val 16 rfl rfl (.pointer (some ⟨p, 0, none⟩)) (run_fld 26 _ 0 rfl _ _ rfl _ (by kernel_rfl)) ?_
  refine nr ?_; intro U h; simp only [z0, z1] at h; subst h
  refine s_val 17 rfl rfl (.slice ro q.length rc) (run_ldc 24 _ rfl p 0 rfl 26 _ kp (na24 _) _ rfl) ?_
  refine nr ?_; intro U h; simp only [z0, z1] at h; subst h
  refine s_val 18 rfl rfl (.int .i64 ((k : Nat) : Int)) (rfl) ?_
  refine nr ?_; intro U h; simp only [z0, z1] at h; subst h
  refine s_val 19 rfl rfl (.pointer (some (ad.add k))) (run_idx23 _ _ rfl ad q.length rc k (by exact congrArg (fun a => Value.slice a q.length rc) hao) rfl hkl _) ?_
  refine nr ?_; intro U h; simp only [z0, z1] at h; subst h
  refine s_val 20 rfl rfl (.slice x.ao x.l.length x.cap) (run_ld24 _ rfl _ rfl _ _ hcl) ?_
  refine nr ?_; intro U h; simp only [z0, z1] at h; subst h
  refine s_callx 21 rfl rfl _ 19 Try.call19 rfl rfl _ rfl [.slice x.ao x.l.length x.cap] rfl (copyOf_any _ x.ao x.cap x.l (HG.fr x hxq).nc hx1) (fun _ _ ⟨_, he, _⟩ => ⟨_, he⟩) ?_
  rintro v w3 ⟨gc, he, G, bgc, kgc⟩
  cases he
  replace bgc := Nat.le_trans GG.size bgc
  replace kp := G.has kp
  replace HG := HG.gro G
  replace hcl := gro_cell G hcl
  replace GG := GG.tg G
  clear G
  refine nr ?_; intro U h; simp only [z0, z1] at h; subst h
  refine s_val 7 rfl rfl (.slice (some ⟨gc, 0, none⟩) x.l.length x.l.length) (rfl) ?_
  refine nr ?_; intro U h; simp only [z0, z1] at h; subst h
  refine wpList_nil ?_
  refine then_n ?_
  refine wp_seq ?_
  refine wp_region_exA (A := ?Ax3) 16 [(0, 22), (1, 23), (2, 24), (3, 25), (4, 26), (5, 27), (6, 28), (7, 29), (8, 30), (9, 31), (10, 32), (11, 33), (12, 34), (13, 35), (14, 36), (15, 37)] [.val (.pointer (some ⟨p, 0, none⟩)), .val (.pointer (some ⟨p, 0, none⟩)), .val (.pointer (some ⟨p, 0, none⟩)), .val (.pointer (some ⟨p, 0, none⟩)), .val (.slice ro q.length rc), .val (.int .i64 ((k : Nat) : Int)), .val (.int .i64 ((k : Nat) : Int)), .val (.slice ro k k), .val (.pointer (some ⟨p, 0, none⟩)), .val (.pointer (some ⟨p, 0, none⟩)), .val (.pointer (some ⟨p, 0, none⟩)), .val (.slice ro q.length rc), .val (.int .i64 ((k : Nat) : Int)), .val (.int .i64 ((k + 1 : Nat) : Int)), .val (.slice (if rc = k + 1 then ro else ro.map (·.add ((k + 1) * 1))) (q.length - (k + 1)) (rc - (k + 1))), tkE w.heap.size B ro q k] follows (by kernel_rfl) rfl ?hAx3 (opsA_cons ?o0x3 (opsA_cons ?o1x3 (opsA_cons ?o2x3 (opsA_cons ?o3x3 (opsA_cons ?o4x3 (opsA_cons ?o5x3 (opsA_cons ?o6x3 (opsA_cons ?o7x3 (opsA_cons ?o8x3 (opsA_cons ?o9x3 (opsA_cons ?o10x3 (opsA_cons ?o11x3 (opsA_cons ?o12x3 (opsA_cons ?o13x3 (opsA_cons ?o14x3 (opsA_cons ?o15x3 opsA_nil)))))))))))))))) ?restx3
  case hAx3 =>
    intro ptrs
    simp only [full, foldSlots, filledE, postE, List.foldl_cons, List.foldl_nil, List.getD_cons_zero, List.getD_cons_succ, fill_val, List.set_cons_zero, List.set_cons_succ]
    exact rfl
  case o0x3 => exact fun _ _ _ _ => opE_move (v := .pointer (some ⟨p, 0, none⟩)) _ rfl rfl rfl
  case o1x3 => exact fun _ _ _ _ => opE_move (v := .pointer (some ⟨p, 0, none⟩)) _ rfl rfl rfl
  case o2x3 => exact fun _ _ hw _ => opE_value (v := .pointer (some ⟨p, 0, none⟩)) rfl (run_nc _ rfl _ rfl)
  case o3x3 => exact fun _ _ hw _ => opE_value (v := .pointer (some ⟨p, 0, none⟩)) rfl (run_fld 26 _ 0 rfl _ _ rfl _ (by kernel_rfl))
  case o4x3 => exact fun _ _ hw _ => opE_value (v := .slice ro q.length rc) rfl (run_ldc 24 _ rfl p 0 rfl 26 _ (hw.has kp) (na24 _) _ rfl)
  case o5x3 => exact fun _ _ _ _ => opE_move (v := .int .i64 ((k : Nat) : Int)) _ rfl rfl rfl
  case o6x3 => exact fun _ _ _ _ => opE_move (v := .int .i64 ((k : Nat) : Int)) _ rfl rfl rfl
  case o7x3 => exact fun _ _ hw _ => opE_value (v := .slice ro k k) rfl (run_cut3 rY _ _ _ rfl ro q.length rc k rfl rfl rfl (by omega) _)
  case o8x3 => exact fun _ _ _ _ => opE_move (v := .pointer (some ⟨p, 0, none⟩)) _ rfl rfl rfl
  case o9x3 => exact fun _ _ hw _ => opE_value (v := .pointer (some ⟨p, 0, none⟩)) rfl (run_nc _ rfl _ rfl)
  case o10x3 => exact fun _ _ hw _ => opE_value (v := .pointer (some ⟨p, 0, none⟩)) rfl (run_fld 26 _ 0 rfl _ _ rfl _ (by kernel_rfl))
  case o11x3 => exact fun _ _ hw _ => opE_value (v := .slice ro q.length rc) rfl (run_ldc 24 _ rfl p 0 rfl 26 _ (hw.has kp) (na24 _) _ rfl)
  case o12x3 => exact fun _ _ _ _ => opE_move (v := .int .i64 ((k : Nat) : Int)) _ rfl rfl rfl
  case o13x3 => exact fun _ _ hw _ => opE_value (v := .int .i64 ((k + 1 : Nat) : Int)) rfl (run_add64 _ _ _ rfl ((k : Nat) : Int) 1 _ rfl rfl (by omega) (by omega) (by omega) _)
  case o14x3 => exact fun _ _ hw _ => opE_value (v := .slice (if rc = k + 1 then ro else ro.map (·.add ((k + 1) * 1))) (q.length - (k + 1)) (rc - (k + 1))) rfl (run_cutX rY _ _ rfl ro q.length rc (k + 1) rfl rfl (by omega) _)
  case o15x3 => exact fun _ x hw _ => take_app _ _ rfl rfl (HG.row.gro ((Gro.refl _).drew.trans hw)) (Nat.le_trans GG.size ((Gro.refl _).drew.trans hw).size) hBl H.le hkl rfl rfl
  intro ptrs w4 GD hxE
  simp only [List.drop_succ_cons, List.drop_zero]
  replace kp := GD.has kp
  replace kgc := GD.has kgc
  replace GG := GG.drew.tg GD
  obtain ⟨⟨ao2, cap2, hv, HR, hkp⟩, _⟩ := hxE
  simp only [hv]
  clear hv hcl
  have hp2 : p ∉ blk ao2 := HR.ne kp (by decide)
  clear GD
  refine s_val 38 rfl rfl (.pointer (some ⟨p, 0, none⟩)) (run_nc _ rfl _ rfl) ?_
  refine nr ?_; intro U h; simp only [z0, z1] at h; subst h
  refine s_val 39 rfl rfl (.pointer (some ⟨p, 0, none⟩)) (run_fld 26 _ 0 rfl _ _ rfl _ (by kernel_rfl)) ?_
  refine nr ?_; intro U h; simp only [z0, z1] at h; subst h
  refine s_store rfl rfl 24 _ _ rfl p 0 rfl (.slice ao2 ((q.eraseIdx k).length) cap2) rfl 26 _ kp #[.slice ao2 ((q.eraseIdx k).length) cap2] rfl (by kernel_rfl) (Nat.le_of_ble_eq_true rfl) (by kernel_rfl) (c26 ⟨ao2, (q.eraseIdx k).length, cap2⟩) (by kernel_rfl) ?_
  intro w6 St
  replace kgc := St.has (by omega) kgc
  replace HR := HR.st St hp2
  replace GG := GG.st St (.inr (by simp))
  replace kp := St.new
  clear St
  refine wpList_nil ?_
  refine then_n ?_
  refine wp_seq ?_
  refine wp_region_lit ?_
  refine s_val 40 rfl rfl (.slice (some ⟨gc, 0, none⟩) x.l.length x.l.length) (rfl) ?_
  refine nr ?_; intro U h; simp only [z0, z1] at h; subst h
  refine s_val 4 rfl rfl (.slice (some ⟨gc, 0, none⟩) x.l.length x.l.length) (rfl) ?_
  refine nr ?_; intro U h; simp only [z0, z1] at h; subst h
  refine s_val 5 rfl rfl (.bool true) (rfl) ?_
  refine nr ?_; intro U h; simp only [z0, z1] at h; subst h
  refine wpList_nil ?_
  refine then_n ?_
  refine wp_ret ?_
  refine bodyPost_ret (results_tmp2 Try.results10 _ _ _) rfl ?_
  refine ⟨gc, ao2, cap2, rfl, GG, bgc, kgc, ⟨kp, HR, fun y hy => ?_, H.base, by rw [List.length_eraseIdx_of_lt hkl]; omega, fun y hy => H.sm y (List.mem_of_mem_eraseIdx hy), H.ty⟩, hkp⟩
  exact (H.fr y (List.mem_of_mem_eraseIdx hy)).gros GG (fun ad ha hm => H.f5 H.own y (List.mem_of_mem_eraseIdx hy) ad ha (by rw [List.mem_singleton.1 hm]; exact List.mem_cons_self))
set_option maxRecDepth 100000 in
set_option maxHeartbeats 4000000 in
theorem fall_nil (w : World) : Calls Try.prog 14 #[.pointer none] w fun e w' => e = .returned (.int .i64 0) ∧ Gro w w' := by
  refine s_enter Try.func14 rfl Try.ntmps14 [.pointer none] [.pointer none, undef, undef, undef, undef, undef, undef, undef, undef, undef, undef, undef] rfl ?_
  have GG := Gro.refl w
  refine wp_seq ?_
  refine wp_region_lit ?_
  refine s_val 2 rfl rfl (.int .i64 0) (rfl) ?_
  refine nr ?_; intro U h; simp only [z0, z1] at h; subst h
  refine wpList_nil ?_
  refine then_n ?_
  refine wp_seq ?_
  refine wp_region_lit ?_
  refine s_val 4 rfl rfl (.pointer none) (rfl) ?_
  refine nr ?_; intro U h; simp only [z0, z1] at h; subst h
  refine s_callv 5 rfl rfl _ 17 Try.call17 rfl rfl _ rfl [.pointer none] rfl (len_nil _) ?_
  intro w1 G
  replace GG := GG.trans G
  clear G
  refine nr ?_; intro U h; simp only [z0, z1] at h; subst h
  refine s_val 3 rfl rfl (.int .i64 0) (rfl) ?_
  refine nr ?_; intro U h; simp only [z0, z1] at h; subst h
  refine wpList_nil ?_
  refine then_n ?_
  refine wp_seq ?_
  refine wp_seq ?_
  refine wp_region_lit ?_
  refine s_val 6 rfl rfl (.int .i64 0) (rfl) ?_
  refine nr ?_; intro U h; simp only [z0, z1] at h; subst h
  refine s_val 7 rfl rfl (.bool false) (run_gtrT 3 _ _ _ rfl 0 0 rfl rfl false (decide_eq_false (by omega)) _) ?_
  refine nr ?_; intro U h; simp only [z0, z1] at h; subst h
  refine wpList_nil ?_
  refine then_n ?_
  refine wp_cond_false rfl ?_
  refine wp_skip ?_
  refine then_n ?_
  refine wp_seq ?_
  refine wp_region_lit ?_
  refine s_val 11 rfl rfl (.int .i64 0) (rfl) ?_
  refine nr ?_; intro U h; simp only [z0, z1] at h; subst h
  refine s_val 2 rfl rfl (.int .i64 0) (rfl) ?_
  refine nr ?_; intro U h; simp only [z0, z1] at h; subst h
  refine wpList_nil ?_
  refine then_n ?_
  refine wp_ret ?_
  refine bodyPost_ret (results_tmp Try.results14 _ _ _) rfl ?_
  exact ⟨rfl, GG⟩
set_option maxRecDepth 100000 in
set_option maxHeartbeats 4000000 in
theorem fall_none (w : World) (p B : Nat) (ro : Option Addr) (rc : Nat) (q : List RV) (H : PK 26 w p B ro rc q) (h0 : q.length = 0) : Calls Try.prog 14 #[.pointer (some ⟨p, 0, none⟩)] w fun e w' => e = .returned (.int .i64 ((q.length : Nat) : Int)) ∧ Gro w w' := by
  refine s_enter Try.func14 rfl Try.ntmps14 [.pointer (some ⟨p, 0, none⟩)] [.pointer (some ⟨p, 0, none⟩), undef, undef, undef, undef, undef, undef, undef, undef, undef, undef, undef] rfl ?_
  have GG := Gro.refl w
  have kp := H.box
  have hq := H.le
  have hpl := H.lt
  have hBl := H.bl
  refine wp_seq ?_
  refine wp_region_lit ?_
  refine s_val 2 rfl rfl (.int .i64 0) (rfl) ?_
  refine nr ?_; intro U h; simp only [z0, z1] at h; subst h
  refine wpList_nil ?_
  refine then_n ?_
  refine wp_seq ?_
  refine wp_region_lit ?_
  refine s_val 4 rfl rfl (.pointer (some ⟨p, 0, none⟩)) (rfl) ?_
  refine nr ?_; intro U h; simp only [z0, z1] at h; subst h
  refine s_callv 5 rfl rfl _ 17 Try.call17 rfl rfl _ rfl [.pointer (some ⟨p, 0, none⟩)] rfl (len_any _ p B ro rc q (H.gro GG)) ?_
  intro w1 G
  replace kp := G.has kp
  replace GG := GG.trans G
  clear G
  refine nr ?_; intro U h; simp only [z0, z1] at h; subst h
  refine s_val 3 rfl rfl (.int .i64 ((q.length : Nat) : Int)) (rfl) ?_
  refine nr ?_; intro U h; simp only [z0, z1] at h; subst h
  refine wpList_nil ?_
  refine then_n ?_
  refine wp_seq ?_
  refine wp_seq ?_
  refine wp_region_lit ?_
  refine s_val 6 rfl rfl (.int .i64 ((q.length : Nat) : Int)) (rfl) ?_
  refine nr ?_; intro U h; simp only [z0, z1] at h; subst h
  refine s_val 7 rfl rfl (.bool false) (run_gtrT 3 _ _ _ rfl ((q.length : Nat) : Int) 0 rfl rfl false (by first | exact decide_eq_true (by omega) | exact decide_eq_false (by omega)) _) ?_
  refine nr ?_; intro U h; simp only [z0, z1] at h; subst h
  refine wpList_nil ?_
  refine then_n ?_
  refine wp_cond_false rfl ?_
  refine wp_skip ?_
  refine then_n ?_
  refine wp_seq ?_
  refine wp_region_lit ?_
  refine s_val 11 rfl rfl (.int .i64 ((q.length : Nat) : Int)) (rfl) ?_
  refine nr ?_; intro U h; simp only [z0, z1] at h; subst h
  refine s_val 2 rfl rfl (.int .i64 ((q.length : Nat) : Int)) (rfl) ?_
  refine nr ?_; intro U h; simp only [z0, z1] at h; subst h
  refine wpList_nil ?_
  refine then_n ?_
  refine wp_ret ?_
  refine bodyPost_ret (results_tmp Try.results14 _ _ _) rfl ?_
  exact ⟨rfl, GG⟩
set_option maxRecDepth 100000 in
set_option maxHeartbeats 4000000 in
theorem fall_some (w : World) (p B : Nat) (ro : Option Addr) (rc : Nat) (q : List RV) (H : PK 26 w p B ro rc q) (h0 : 0 < q.length) : Calls Try.prog 14 #[.pointer (some ⟨p, 0, none⟩)] w fun e w' => e = .returned (.int .i64 ((q.length : Nat) : Int)) ∧ GroS [p] w w' ∧ PK 26 w' p B none 0 [] := by
  refine s_enter Try.func14 rfl Try.ntmps14 [.pointer (some ⟨p, 0, none⟩)] [.pointer (some ⟨p, 0, none⟩), undef, undef, undef, undef, undef, undef, undef, undef, undef, undef, undef] rfl ?_
  have GG := GroS.refl [p] w
  have kp := H.box
  have hq := H.le
  have hpl := H.lt
  have hBl := H.bl
  refine wp_seq ?_
  refine wp_region_lit ?_
  refine s_val 2 rfl rfl (.int .i64 0) (rfl) ?_
  refine nr ?_; intro U h; simp only [z0, z1] at h; subst h
  refine wpList_nil ?_
  refine then_n ?_
  refine wp_seq ?_
  refine wp_region_lit ?_
  refine s_val 4 rfl rfl (.pointer (some ⟨p, 0, none⟩)) (rfl) ?_
  refine nr ?_; intro U h; simp only [z0, z1] at h; subst h
  refine s_callv 5 rfl rfl _ 17 Try.call17 rfl rfl _ rfl [.pointer (some ⟨p, 0, none⟩)] rfl (len_any _ p B ro rc q H) ?_
  intro w1 G
  replace kp := G.has kp
  replace GG := GG.tg G
  clear G
  refine nr ?_; intro U h; simp only [z0, z1] at h; subst h
  refine s_val 3 rfl rfl (.int .i64 ((q.length : Nat) : Int)) (rfl) ?_
  refine nr ?_; intro U h; simp only [z0, z1] at h; subst h
  refine wpList_nil ?_
  refine then_n ?_
  refine wp_seq ?_
  refine wp_seq ?_
  refine wp_region_lit ?_
  refine s_val 6 rfl rfl (.int .i64 ((q.length : Nat) : Int)) (rfl) ?_
  refine nr ?_; intro U h; simp only [z0, z1] at h; subst h
  refine s_val 7 rfl rfl (.bool true) (run_gtrT 3 _ _ _ rfl ((q.length : Nat) : Int) 0 rfl rfl true (by first | exact decide_eq_true (by omega) | exact decide_eq_false (by omega)) _) ?_
  refine nr ?_; intro U h; simp only [z0, z1] at h; subst h
  refine wpList_nil ?_
  refine then_n ?_
  refine wp_cond_true rfl ?_
  refine wp_region_lit ?_
  refine s_val 8 rfl rfl (.pointer (some ⟨p, 0, none⟩)) (rfl) ?_
  refine nr ?_; intro U h; simp only [z0, z1] at h; subst h
  refine s_val 9 rfl rfl (.pointer (some ⟨p, 0, none⟩)) (run_nc _ rfl _ rfl) ?_
  refine nr ?_; intro U h; simp only [z0, z1] at h; subst h
  refine s_val 10 rfl rfl (.pointer (some ⟨p, 0, none⟩)) (run_fld 26 _ 0 rfl _ _ rfl _ (by kernel_rfl)) ?_
  refine nr ?_; intro U h; simp only [z0, z1] at h; subst h
  refine s_store rfl rfl 24 _ _ rfl p 0 rfl (.slice none 0 0) rfl 26 _ kp #[.slice none 0 0] rfl (by kernel_rfl) (Nat.le_of_ble_eq_true rfl) (by kernel_rfl) (c26 Sl.nil) (by kernel_rfl) ?_
  intro w3 St
  replace GG := GG.st St (.inr (by simp))
  replace kp := St.new
  clear St
  refine wpList_nil ?_
  refine then_n ?_
  refine wp_seq ?_
  refine wp_region_lit ?_
  refine s_val 11 rfl rfl (.int .i64 ((q.length : Nat) : Int)) (rfl) ?_
  refine nr ?_; intro U h; simp only [z0, z1] at h; subst h
  refine s_val 2 rfl rfl (.int .i64 ((q.length : Nat) : Int)) (rfl) ?_
  refine nr ?_; intro U h; simp only [z0, z1] at h; subst h
  refine wpList_nil ?_
  refine then_n ?_
  refine wp_ret ?_
  refine bodyPost_ret (results_tmp Try.results14 _ _ _) rfl ?_
  exact ⟨rfl, GG, kp, OY.nil _ _ _ _, (fun x hx => by cases hx), H.base, (by simp), (fun x hx => by cases hx), H.ty⟩
/-- What losing leaves behind it. -/
def FallP (w : World) (p B : Nat) (ro : Option Addr) (q : List RV) (e : Ending) (w' : World) : Prop :=
  ∃ ao2 cap2, e = .returned (.int .i64 ((q.length : Nat) : Int)) ∧ GroS [p] w w' ∧ PK 26 w' p B ao2 cap2 [] ∧ Kept w.heap.size ro ao2
theorem fall_any (w : World) (p B : Nat) (ro : Option Addr) (rc : Nat) (q : List RV) (H : PK 26 w p B ro rc q) : Calls Try.prog 14 #[.pointer (some ⟨p, 0, none⟩)] w (FallP w p B ro q) := by
  by_cases h0 : q.length = 0
  · refine (fall_none w p B ro rc q H h0).mono fun e w' ⟨he, G⟩ => ⟨ro, rc, he, .of G, ?_, Kept.refl _ _⟩
    have := List.eq_nil_of_length_eq_zero h0
    subst this
    exact H.gro G
  · exact (fall_some w p B ro rc q H (by omega)).mono fun e w' ⟨he, G, HP⟩ => ⟨none, 0, he, G, HP, Kept.none _ _⟩
set_option maxRecDepth 100000 in
set_option maxHeartbeats 4000000 in
theorem all_nil (w : World) : Calls Try.prog 15 #[.pointer none] w fun e w' => ∃ g, e = .returned (.slice (some ⟨g, 0, none⟩) 0 0) ∧ Gro w w' := by
  refine s_enter Try.func15 rfl Try.ntmps15 [.pointer none] [.pointer none, undef, undef, undef, undef, undef, undef, undef, undef, undef, undef, undef, undef, undef, undef, undef, undef, undef, undef, undef, undef, undef, undef, undef, undef, undef] rfl ?_
  have GG := Gro.refl w
  refine wp_seq ?_
  refine wp_region_lit ?_
  refine s_val 2 rfl rfl (.slice none 0 0) (rfl) ?_
  refine nr ?_; intro U h; simp only [z0, z1] at h; subst h
  refine wpList_nil ?_
  refine then_n ?_
  refine wp_seq ?_
  refine wp_region_lit ?_
  refine s_val 5 rfl rfl (.pointer none) (rfl) ?_
  refine nr ?_; intro U h; simp only [z0, z1] at h; subst h
  refine s_callv 6 rfl rfl _ 17 Try.call17 rfl rfl _ rfl [.pointer none] rfl (len_nil _) ?_
  intro w1 G
  replace GG := GG.trans G
  clear G
  refine nr ?_; intro U h; simp only [z0, z1] at h; subst h
  refine s_makeY rY rfl 7 rfl rfl _ _ rfl 0 rfl rfl (by omega) (by simp only [maxLen]; omega) ?_
  intro w2 g G eg kg
  have bg := size_base GG eg
  clear eg
  replace GG := GG.trans G
  clear G
  refine nr ?_; intro U h; simp only [z0, z1] at h; subst h
  refine s_val 3 rfl rfl (.slice (some ⟨g, 0, none⟩) 0 0) (rfl) ?_
  refine nr ?_; intro U h; simp only [z0, z1] at h; subst h
  refine wpList_nil ?_
  refine then_n ?_
  refine wp_seq ?_
  refine wp_seq ?_
  refine wp_region_lit ?_
  refine s_val 8 rfl rfl (.slice (some ⟨g, 0, none⟩) 0 0) (rfl) ?_
  refine nr ?_; intro U h; simp only [z0, z1] at h; subst h
  refine s_val 9 rfl rfl (.int .i64 0) (run_len Try.underlying24 _ rfl _ _ _ rfl _) ?_
  refine nr ?_; intro U h; simp only [z0, z1] at h; subst h
  refine s_val 10 rfl rfl (.int .i64 0) (rfl) ?_
  refine nr ?_; intro U h; simp only [z0, z1] at h; subst h
  refine wpList_nil ?_
  refine then_n ?_
  refine wp_block ?_
  refine wp_loopN (fun mz az wv => ∃ (j : Nat) (us1 : Nat → Value), mz = 0 ∧ az = ⟨[.pointer none, undef, .slice none 0 0, .slice (some ⟨g, 0, none⟩) 0 0, us1 0, .pointer none, .int .i64 0, .slice (some ⟨g, 0, none⟩) 0 0, .slice (some ⟨g, 0, none⟩) 0 0, .int .i64 0, .int .i64 0, us1 1, us1 2, us1 3, us1 4, us1 5, us1 6, us1 7, us1 8, us1 9, us1 10, us1 11, us1 12, us1 13, us1 14, undef].toArray, []⟩ ∧ Gro w wv) ?_ _ ⟨0, (fun kz => ([undef, undef, undef, undef, undef, undef, undef, undef, undef, undef, undef, undef, undef, undef, undef] : List Value).getD kz undef), rfl, rfl, GG⟩
  clear GG
  rintro mz az wv ⟨j, us1, rfl, rfl, GG⟩
  refine wp_seq ?_
  refine wp_region_lit ?_
  refine s_val 11 rfl rfl (.bool false) (run_lssT 3 _ _ _ rfl 0 0 rfl rfl false (decide_eq_false (by omega)) _) ?_
  refine nr ?_; intro U h; simp only [z0, z1] at h; subst h
  refine wpList_nil ?_
  refine then_n ?_
  refine wp_seq ?_
  refine wp_cond_false rfl ?_
  refine wp_exit ?_
  refine then_x ?_
  refine then_x ?_
  refine blk_x ?_
  refine then_n ?_
  refine wp_seq ?_
  refine wp_region_lit ?_
  refine s_val 25 rfl rfl (.slice (some ⟨g, 0, none⟩) 0 0) (rfl) ?_
  refine nr ?_; intro U h; simp only [z0, z1] at h; subst h
  refine s_val 2 rfl rfl (.slice (some ⟨g, 0, none⟩) 0 0) (rfl) ?_
  refine nr ?_; intro U h; simp only [z0, z1] at h; subst h
  refine wpList_nil ?_
  refine then_n ?_
  refine wp_ret ?_
  refine bodyPost_ret (results_tmp Try.results15 _ _ _) rfl ?_
  exact ⟨g, rfl, GG⟩
set_option maxRecDepth 100000 in
set_option maxHeartbeats 4000000 in
theorem all_any (w : World) (p B : Nat) (ro : Option Addr) (rc : Nat) (q : List RV) (H : PK 26 w p B ro rc q) : Calls Try.prog 15 #[.pointer (some ⟨p, 0, none⟩)] w fun e w' => ∃ g r, e = .returned (.slice (some ⟨g, 0, none⟩) r.length r.length) ∧ Gro w w' ∧ r.map (·.2) = q.map (·.l) ∧ AL w' w.heap.size g r := by
  refine s_enter Try.func15 rfl Try.ntmps15 [.pointer (some ⟨p, 0, none⟩)] [.pointer (some ⟨p, 0, none⟩), undef, undef, undef, undef, undef, undef, undef, undef, undef, undef, undef, undef, undef, undef, undef, undef, undef, undef, undef, undef, undef, undef, undef, undef, undef] rfl ?_
  have GG := Gro.refl w
  have kp := H.box
  have hq := H.le
  have hpl := H.lt
  have hBl := H.bl
  refine wp_seq ?_
  refine wp_region_lit ?_
  refine s_val 2 rfl rfl (.slice none 0 0) (rfl) ?_
  refine nr ?_; intro U h; simp only [z0, z1] at h; subst h
  refine wpList_nil ?_
  refine then_n ?_
  refine wp_seq ?_
  refine wp_region_lit ?_
  refine s_val 5 rfl rfl (.pointer (some ⟨p, 0, none⟩)) (rfl) ?_
  refine nr ?_; intro U h; simp only [z0, z1] at h; subst h
  refine s_callv 6 rfl rfl _ 17 Try.call17 rfl rfl _ rfl [.pointer (some ⟨p, 0, none⟩)] rfl (len_any _ p B ro rc q (H.gro GG)) ?_
  intro w1 G
  replace kp := G.has kp
  replace GG := GG.trans G
  clear G
  refine nr ?_; intro U h; simp only [z0, z1] at h; subst h
  refine s_makeY rY rfl 7 rfl rfl _ _ rfl q.length rfl rfl (by omega) (by simp only [maxLen]; omega) ?_
  intro w2 g G eg kg
  have bg := size_base GG eg
  have dpg := lt_new kp eg
  clear eg
  replace kp := G.has kp
  replace GG := GG.trans G
  clear G
  refine nr ?_; intro U h; simp only [z0, z1] at h; subst h
  refine s_val 3 rfl rfl (.slice (some ⟨g, 0, none⟩) q.length q.length) (rfl) ?_
  refine nr ?_; intro U h; simp only [z0, z1] at h; subst h
  refine wpList_nil ?_
  refine then_n ?_
  refine wp_seq ?_
  refine wp_seq ?_
  refine wp_region_lit ?_
  refine s_val 8 rfl rfl (.slice (some ⟨g, 0, none⟩) q.length q.length) (rfl) ?_
  refine nr ?_; intro U h; simp only [z0, z1] at h; subst h
  refine s_val 9 rfl rfl (.int .i64 ((q.length : Nat) : Int)) (run_len Try.underlying24 _ rfl _ _ _ rfl _) ?_
  refine nr ?_; intro U h; simp only [z0, z1] at h; subst h
  refine s_val 10 rfl rfl (.int .i64 0) (rfl) ?_
  refine nr ?_; intro U h; simp only [z0, z1] at h; subst h
  refine wpList_nil ?_
  refine then_n ?_
  refine wp_block ?_
  refine wp_loopN (fun mz az wv => ∃ (j : Nat) (r : List (Nat × List Nat)) (us1 : Nat → Value), mz = q.length - j ∧ az = ⟨[.pointer (some ⟨p, 0, none⟩), undef, .slice none 0 0, .slice (some ⟨g, 0, none⟩) q.length q.length, us1 0, .pointer (some ⟨p, 0, none⟩), .int .i64 ((q.length : Nat) : Int), .slice (some ⟨g, 0, none⟩) q.length q.length, .slice (some ⟨g, 0, none⟩) q.length q.length, .int .i64 ((q.length : Nat) : Int), .int .i64 ((j : Nat) : Int), us1 1, us1 2, us1 3, us1 4, us1 5, us1 6, us1 7, us1 8, us1 9, us1 10, us1 11, us1 12, us1 13, us1 14, undef].toArray, []⟩ ∧ j ≤ q.length ∧ r.length = j ∧ r.map (·.2) = (q.map (·.l)).take j ∧ Gro w wv ∧ wv.heap[g]? = some (.cells ((r.map rv ++ List.replicate (q.length - j) (Value.slice none 0 0)).toArray) 30 (0, 0)) ∧ AF w.heap.size g wv r) ?_ _ ⟨0, [], (fun kz => ([undef, undef, undef, undef, undef, undef, undef, undef, undef, undef, undef, undef, undef, undef, undef] : List Value).getD kz undef), rfl, rfl, Nat.zero_le _, rfl, rfl, GG, (by simpa using kg), (fun x hx => by cases hx)⟩
  clear GG
  rintro mz az wv ⟨j, r, us1, rfl, rfl, hj, hr, hrl, GG, kg, HA⟩
  clear kp
  have kp := GG.has H.box
  refine wp_seq ?_
  refine wp_region_lit ?_
  obtain ⟨p1, hp1⟩ : ∃ p, decide (((j : Nat) : Int) < ((q.length : Nat) : Int)) = p := ⟨_, rfl⟩
  refine s_val 11 rfl rfl (.bool p1) (run_lssT 3 _ _ _ rfl ((j : Nat) : Int) ((q.length : Nat) : Int) rfl rfl p1 hp1 _) ?_
  refine nr ?_; intro U h; simp only [z0, z1] at h; subst h
  cases p1
  · have hjn : j = q.length := by have := of_decide_eq_false hp1; omega
    refine wpList_nil ?_
    refine then_n ?_
    refine wp_seq ?_
    refine wp_cond_false rfl ?_
    refine wp_exit ?_
    refine then_x ?_
    refine then_x ?_
    refine blk_x ?_
    refine then_n ?_
    refine wp_seq ?_
    refine wp_region_lit ?_
    refine s_val 25 rfl rfl (.slice (some ⟨g, 0, none⟩) q.length q.length) (rfl) ?_
    refine nr ?_; intro U h; simp only [z0, z1] at h; subst h
    refine s_val 2 rfl rfl (.slice (some ⟨g, 0, none⟩) q.length q.length) (rfl) ?_
    refine nr ?_; intro U h; simp only [z0, z1] at h; subst h
    refine wpList_nil ?_
    refine then_n ?_
    refine wp_ret ?_
    refine bodyPost_ret (results_tmp Try.results15 _ _ _) rfl ?_
    subst hjn
    refine ⟨g, r, ?_, GG, ?_, bg, ?_, fun x hx => ⟨(HA x hx).1.1, (HA x hx).2⟩⟩
    · rw [hr]
      rfl
    · rw [hrl, List.take_of_length_le (by simp)]
    · simpa using kg
  have hjn : j < q.length := by have := of_decide_eq_true hp1; omega
  obtain ⟨x, hx⟩ : ∃ x, q[j]? = some x := ⟨_, List.getElem?_eq_getElem hjn⟩
  have hxq := List.mem_of_getElem? hx
  have hx1 := H.sm x hxq
  obtain ⟨ad, hao, hcl⟩ := H.at hx
  have hgl := lt_of_heap kg
  refine wpList_nil ?_
  refine then_n ?_
  refine wp_seq ?_
  refine wp_cond_true rfl ?_
  refine wp_skip ?_
  refine then_n ?_
  refine wp_seq ?_
  refine wp_block ?_
  refine wp_seq ?_
  refine wp_region_lit ?_
  refine s_val 12 rfl rfl (.int .i64 ((j : Nat) : Int)) (rfl) ?_
  refine nr ?_; intro U h; simp only [z0, z1] at h; subst h
  refine s_val 4 rfl rfl (.int .i64 ((j : Nat) : Int)) (rfl) ?_
  refine nr ?_; intro U h; simp only [z0, z1] at h; subst h
  refine wpList_nil ?_
  refine then_n ?_
  refine wp_region_lit ?_
  refine s_val 13 rfl rfl (.slice (some ⟨g, 0, none⟩) q.length q.length) (rfl) ?_
  refine nr ?_; intro U h; simp only [z0, z1] at h; subst h
  refine s_val 14 rfl rfl (.int .i64 ((j : Nat) : Int)) (rfl) ?_
  refine nr ?_; intro U h; simp only [z0, z1] at h; subst h
  refine s_val 15 rfl rfl (.pointer (some ⟨p, 0, none⟩)) (rfl) ?_
  refine nr ?_; intro U h; simp only [z0, z1] at h; subst h
  refine s_val 16 rfl rfl (.pointer (some ⟨p, 0, none⟩)) (run_nc _ rfl _ rfl) ?_
  refine nr ?_; intro U h; simp only [z0, z1] at h; subst h
  refine s_val 17 rfl rfl (.pointer (some ⟨p, 0, none⟩)) (run_fld 26 _ 0 rfl _ _ rfl _ (by kernel_rfl)) ?_
  refine nr ?_; intro U h; simp only [z0, z1] at h; subst h
  refine s_val 18 rfl rfl (.slice ro q.length rc) (run_ldc 24 _ rfl p 0 rfl 26 _ kp (na24 _) _ rfl) ?_
  refine nr ?_; intro U h; simp only [z0, z1] at h; subst h
  refine s_val 19 rfl rfl (.int .i64 ((j : Nat) : Int)) (rfl) ?_
  refine nr ?_; intro U h; simp only [z0, z1] at h; subst h
  refine s_val 20 rfl rfl (.pointer (some (ad.add j))) (run_idx23 _ _ rfl ad q.length rc j (by exact congrArg (fun a => Value.slice a q.length rc) hao) rfl hjn _) ?_
  refine nr ?_; intro U h; simp only [z0, z1] at h; subst h
  refine s_val 21 rfl rfl (.slice x.ao x.l.length x.cap) (run_ld24 _ rfl _ rfl _ _ (gro_cell GG hcl)) ?_
  refine nr ?_; intro U h; simp only [z0, z1] at h; subst h
  refine s_callx 22 rfl rfl _ 19 Try.call19 rfl rfl _ rfl [.slice x.ao x.l.length x.cap] rfl (copyOf_any _ x.ao x.cap x.l ((H.fr x hxq).gro GG).nc hx1) (fun _ _ ⟨_, he, _⟩ => ⟨_, he⟩) ?_
  rintro v w3 ⟨gc, he, G, bgc, kgc⟩
  cases he
  have hgc : gc ≠ g := by omega
  replace bgc := Nat.le_trans GG.size bgc
  replace kg := G.has kg
  replace HA := HA.gro G
  replace GG := GG.trans G
  clear G kp
  refine nr ?_; intro U h; simp only [z0, z1] at h; subst h
  refine s_val 23 rfl rfl (.pointer (some ⟨g, j, none⟩)) (run_idxg _ _ rfl g q.length q.length j rfl rfl hjn _) ?_
  refine nr ?_; intro U h; simp only [z0, z1] at h; subst h
  refine s_store rfl rfl 30 _ _ rfl g j rfl (.slice (some ⟨gc, 0, none⟩) x.l.length x.l.length) rfl 30 _ kg #[.slice (some ⟨gc, 0, none⟩) x.l.length x.l.length] rfl si30 (by simp; omega) (by kernel_rfl) _ (splice_next (r.map rv) _ _ q.length j (by simpa using hr) hjn) ?_
  intro w4 St
  replace GG := GG.store St bg
  replace kgc := St.has hgc kgc
  replace HA := HA.st St
  have kg2 := St.new
  clear St kg
  refine wpList_nil ?_
  refine blk_n ?_
  refine then_n ?_
  refine wp_region_lit ?_
  refine s_val 24 rfl rfl (.int .i64 ((j + 1 : Nat) : Int)) (run_add64 _ _ _ rfl ((j : Nat) : Int) 1 _ rfl rfl (by omega) (by omega) (by omega) _) ?_
  refine nr ?_; intro U h; simp only [z0, z1] at h; subst h
  refine s_val 10 rfl rfl (.int .i64 ((j + 1 : Nat) : Int)) (rfl) ?_
  refine nr ?_; intro U h; simp only [z0, z1] at h; subst h
  refine wpList_nil ?_
  refine then_n ?_
  refine ⟨_, (by omega : q.length - (j + 1) < q.length - j), j + 1, r ++ [(gc, x.l)], (fun kz => ([.int .i64 ((j : Nat) : Int), .bool true, .int .i64 ((j : Nat) : Int), .slice (some ⟨g, 0, none⟩) q.length q.length, .int .i64 ((j : Nat) : Int), .pointer (some ⟨p, 0, none⟩), .pointer (some ⟨p, 0, none⟩), .pointer (some ⟨p, 0, none⟩), .slice ro q.length rc, .int .i64 ((j : Nat) : Int), .pointer (some (ad.add j)), .slice x.ao x.l.length x.cap, .slice (some ⟨gc, 0, none⟩) x.l.length x.l.length, .pointer (some ⟨g, j, none⟩), .int .i64 ((j + 1 : Nat) : Int)] : List Value).getD kz undef), rfl, rfl, hjn, (by simp [hr]), ?_, GG, (by simpa [rv] using kg2), ?_⟩
  · rw [List.map_append, hrl, List.take_add_one, List.getElem?_map, hx]; rfl
  · intro y hy
    rcases List.mem_append.1 hy with hy | hy
    · exact HA y hy
    · cases List.mem_singleton.1 hy
      exact ⟨⟨bgc, hgc⟩, kgc, (H.fr x hxq).nc.lt256⟩
end Go.Proofs.Ytlonnbmkkmfmeaa
