/- The chapter's example (fixed); a nil window; acknowledgements (WindowNil, WindowAcks). -/
import Derived.Test.YthlfjbnfeclkmaaU2
import Derived.Test.YthlfjbnfeclkmaaFr5
namespace Go.Proofs.Ythlfjbnfeclkmaa
open Go.RowKit

section
variable {ops : Array Oper} {rest : List Oper} {o o2 : Oper} {T : List Value} {ds : List Deferred} {w : World} {Q : Exit → Act → World → Prop}
/-- A constant text as bytes. -/
theorem s_constY (dst dst2 : Nat) (hd : o.dst = some dst) (hd2 : o2.dst = some dst2) (hg : o.guard = none) (hg2 : o2.guard = none) (l : List Nat) (pr : List (Nat × Operand)) (ho : o.op = .buildSlice 30 l.length pr.toArray) (vals : List (Nat × Value)) (hvl : (pr.map fun p => (p.1, (⟨T.toArray, ds⟩ : Act).eval p.2)) = vals)
    (hr : ∀ w, (Instr.buildSlice 30 l.length vals.toArray).run Try.prog w = .ok (.slice (some ⟨w.heap.size, 0, none⟩) l.length l.length) (w.alloc (.cells (bv l) 5)))
    (x : Operand) (ho2 : o2.op = .convert 30 30 x) (hx : ∀ g, (⟨(T.set dst (.slice (some ⟨g, 0, none⟩) l.length l.length)).toArray, ds⟩ : Act).eval x = .slice (some ⟨g, 0, none⟩) l.length l.length)
    (h : ∀ w' g, Gro w w' → w.heap.size = g → (∀ j, j < l.length → w'.cell? ⟨g, j, none⟩ = some (.int .u8 (l.getD j 0 : Int))) → wpList Try.prog ops Q rest ⟨((T.set dst (.slice (some ⟨g, 0, none⟩) l.length l.length)).set dst2 (.slice (some ⟨g, 0, none⟩) l.length l.length)).toArray, ds⟩ w') : wpList Try.prog ops Q (o :: o2 :: rest) ⟨T.toArray, ds⟩ w :=
  wpList_plain hg fun K hK => by
    have he := run_bsl (A := ⟨T.toArray, ds⟩) 30 l.length pr ho vals hvl (hr w)
    unfold Oper.wp
    rw [he, Oper.upon_value, hd, put_list]
    refine hK _ _ (wpList_plain hg2 fun K2 hK2 => ?_)
    have hc := Lib.run_convert_bytes_const (P := Try.prog) w 30 5 (bv l) l.length l.length Try.underlying30 Try.underlying5
    have he2 : (execOp (Act.eval ⟨(T.set dst (.slice (some ⟨w.heap.size, 0, none⟩) l.length l.length)).toArray, ds⟩) o2).run Try.prog (w.alloc (.cells (bv l) 5)) = .ok (.value (.slice (some ⟨w.heap.size, 0, none⟩) l.length l.length)) (w.alloc (.cells (bv l) 5 ((bv l).size, (bv l).size + 1))) := by
      unfold execOp
      simp only [ho2, hx, Sem.run_bind, hc, Result.andThen_ok, Sem.run_pure]
    unfold Oper.wp
    rw [he2, Oper.upon_value, hd2, put_list]
    refine hK2 _ _ (h _ _ (gro_alloc _ _) rfl fun j hj => ?_)
    have hb := heap_alloc_new w (.cells (bv l) 5 ((bv l).size, (bv l).size + 1))
    simp only [World.cell?, hb]
    exact bv_get l j hj
end

def K97 : List Nat := [97]
def K98 : List Nat := [98]
theorem i64T : RowT Try.prog 46 2 1 8 (.int .i64 0) := ⟨Try.underlying46, info_of (by kernel_rfl), rfl, by decide⟩
theorem run_idx46 {o : Oper} {A : Act} (x y : Operand) (ho : o.op = .indexAddr 46 x y) (ad : Addr) (n cap j : Nat) (hx : A.eval x = .slice (some ad) n cap) (hy : A.eval y = .int .i64 (j : Int)) (hj : j < n) (w : World) :
    (execOp A.eval o).run Try.prog w = .ok (.value (.pointer (some (ad.add j)))) w := by
  rw [run_idxX i64T x y ho ad n cap j hx hy hj w, Nat.mul_one]
theorem run_ld2 {o : Oper} {A : Act} {w : World} (x : Operand) (ho : o.op = .load 2 x) (ad : Addr) (hx : A.eval x = .pointer (some ad)) (v : Value) (h : w.cell? ad = some v) : (execOp A.eval o).run Try.prog w = .ok (.value v) w := by
  unfold execOp
  simp only [ho, hx]
  simp [go_sem, h]
set_option maxRecDepth 100000 in
set_option maxHeartbeats 4000000 in
theorem fixed_true (w : World) : Calls Try.prog 8 #[] w fun e w' => e = .returned (.bool true) ∧ Gro w w' := by
  refine s_enter Try.func8 rfl Try.ntmps8 [] [undef, undef, undef, undef, undef, undef, undef, undef, undef, undef, undef, undef, undef, undef, undef, undef, undef, undef, undef, undef, undef, undef, undef, undef, undef, undef, undef, undef, undef, undef, undef, undef, undef, undef, undef, undef, undef, undef, undef, undef, undef, undef, undef, undef, undef, undef, undef, undef, undef, undef, undef, undef, undef, undef, undef, undef, undef, undef, undef, undef, undef, undef, undef, undef, undef, undef, undef, undef, undef, undef, undef, undef, undef, undef, undef, undef, undef, undef, undef, undef, undef, undef, undef, undef, undef, undef, undef, undef, undef] rfl ?_
  have GG := Gro.refl w
  refine wp_seq ?_
  refine wp_region_lit ?_
  refine s_val 0 rfl rfl (.bool false) (rfl) ?_
  refine nr ?_; intro U h; simp only [z0] at h; subst h
  refine wpList_nil ?_
  refine then_n ?_
  refine wp_seq ?_
  refine wp_region_lit ?_
  refine s_callx 10 rfl rfl _ 7 Try.call7 rfl rfl _ rfl [] rfl (new_any _) (fun _ _ ⟨_, he, _⟩ => ⟨_, he⟩) ?_
  rintro v w1 ⟨p, he, G, bp, HP0⟩
  cases he
  replace bp := Nat.le_trans GG.size bp
  replace GG := GG.trans G
  clear G
  have HP : WX 57 (c57 ((0 + ([] : List RV).length : Nat) : Int) ⟨none, ([] : List RV).length, 0⟩ ((0 : Nat) : Int)) _ p w.heap.size none 0 [] := WX.new HP0.box bp (by decide)
  clear HP0
  refine nr ?_; intro U h; simp only [z0, z1] at h; subst h
  refine s_val 1 rfl rfl (.pointer (some ⟨p, 0, none⟩)) (rfl) ?_
  refine nr ?_; intro U h; simp only [z0, z1] at h; subst h
  refine wpList_nil ?_
  refine then_n ?_
  refine wp_seq ?_
  refine wp_seq ?_
  refine wp_region_lit ?_
  refine s_val 11 rfl rfl (.pointer (some ⟨p, 0, none⟩)) (rfl) ?_
  refine nr ?_; intro U h; simp only [z0, z1] at h; subst h
  refine s_val 12 rfl rfl (.bool false) (run_eqnp 23 _ _ _ rfl _ rfl rfl Try.underlying23 _) ?_
  refine nr ?_; intro U h; simp only [z0, z1] at h; subst h
  refine wpList_nil ?_
  refine then_n ?_
  refine wp_cond_false rfl ?_
  refine wp_skip ?_
  refine then_n ?_
  refine wp_seq ?_
  refine wp_region_lit ?_
  refine s_val 14 rfl rfl (.pointer (some ⟨p, 0, none⟩)) (rfl) ?_
  refine nr ?_; intro U h; simp only [z0, z1] at h; subst h
  refine s_constY 15 16 rfl rfl rfl rfl K97 _ rfl [(0, .int .u8 97)] rfl (fun _ => by kernel_rfl) _ rfl (fun _ => rfl) ?_
  intro w2 ga G ega kga
  have ncga := nc_cells kga (by decide)
  have hnga : ga ∉ blk (none : Option Addr) := fun hm => by have := HP.row.lt _ hm; omega
  clear kga ega
  replace HP := HP.gro G
  replace GG := GG.trans G
  clear G
  refine nr ?_; intro U h; simp only [z0, z1] at h; subst h
  refine s_callx 17 rfl rfl _ 9 Try.call9 rfl rfl _ rfl [.pointer (some ⟨p, 0, none⟩), .slice (some ⟨ga, 0, none⟩) K97.length K97.length] rfl (send_ok _ p w.heap.size none 0 [] 0 0 HP (by simp) (by omega) (some ⟨ga, 0, none⟩) K97.length K97 ncga (fun ad ha _ hm => by cases ha; exact hnga hm) (by decide)) (fun _ _ ⟨_, _, _, he, _⟩ => ⟨_, he⟩) ?_
  rintro v w3 ⟨a1, c1, u1, he, hy1, G, HP2, HY1, hkp⟩
  cases he
  replace GG := G.gro GG HP.sb
  clear G HP hkp ncga HY1 hnga
  have HP : WX 57 (c57 ((0 + [u1].length : Nat) : Int) ⟨a1, [u1].length, c1⟩ ((0 : Nat) : Int)) _ p w.heap.size a1 c1 [u1] := HP2
  clear HP2
  refine nr ?_; intro U h; simp only [z0, z1] at h; subst h
  refine s_val 13 rfl rfl (.tuple #[.int .i64 1, .int .i64 0]) (rfl) ?_
  refine nr ?_; intro U h; simp only [z0, z1] at h; subst h
  refine s_val 18 rfl rfl (.int .i64 1) (rfl) ?_
  refine nr ?_; intro U h; simp only [z0, z1] at h; subst h
  refine s_val 19 rfl rfl (.int .i64 0) (rfl) ?_
  refine nr ?_; intro U h; simp only [z0, z1] at h; subst h
  refine s_val 2 rfl rfl (.int .i64 1) (rfl) ?_
  refine nr ?_; intro U h; simp only [z0, z1] at h; subst h
  refine s_val 3 rfl rfl (.int .i64 0) (rfl) ?_
  refine nr ?_; intro U h; simp only [z0, z1] at h; subst h
  refine wpList_nil ?_
  refine then_n ?_
  refine wp_seq ?_
  refine wp_region_lit ?_
  refine s_val 21 rfl rfl (.pointer (some ⟨p, 0, none⟩)) (rfl) ?_
  refine nr ?_; intro U h; simp only [z0, z1] at h; subst h
  refine s_constY 22 23 rfl rfl rfl rfl K98 _ rfl [(0, .int .u8 98)] rfl (fun _ => by kernel_rfl) _ rfl (fun _ => rfl) ?_
  intro w4 gb G egb kgb
  have ncgb := nc_cells kgb (by decide)
  have hngb : gb ∉ blk a1 := fun hm => by have := HP.row.lt _ hm; omega
  clear kgb egb
  replace HP := HP.gro G
  replace GG := GG.trans G
  clear G
  refine nr ?_; intro U h; simp only [z0, z1] at h; subst h
  refine s_callx 24 rfl rfl _ 9 Try.call9 rfl rfl _ rfl [.pointer (some ⟨p, 0, none⟩), .slice (some ⟨gb, 0, none⟩) K98.length K98.length] rfl (send_ok _ p w.heap.size a1 c1 [u1] 0 0 HP (by simp) (by omega) (some ⟨gb, 0, none⟩) K98.length K98 ncgb (fun ad ha _ hm => by cases ha; exact hngb hm) (by decide)) (fun _ _ ⟨_, _, _, he, _⟩ => ⟨_, he⟩) ?_
  rintro v w5 ⟨a2, c2, u2, he, hy2, G, HP2, HY2, hkp⟩
  cases he
  replace GG := G.gro GG HP.sb
  clear G HP hkp ncgb HY2 hngb
  have HP : WX 57 (c57 ((0 + [u1, u2].length : Nat) : Int) ⟨a2, [u1, u2].length, c2⟩ ((0 : Nat) : Int)) _ p w.heap.size a2 c2 [u1, u2] := HP2
  clear HP2
  refine nr ?_; intro U h; simp only [z0, z1] at h; subst h
  refine s_val 20 rfl rfl (.tuple #[.int .i64 2, .int .i64 0]) (rfl) ?_
  refine nr ?_; intro U h; simp only [z0, z1] at h; subst h
  refine s_val 25 rfl rfl (.int .i64 2) (rfl) ?_
  refine nr ?_; intro U h; simp only [z0, z1] at h; subst h
  refine s_val 26 rfl rfl (.int .i64 0) (rfl) ?_
  refine nr ?_; intro U h; simp only [z0, z1] at h; subst h
  refine s_val 4 rfl rfl (.int .i64 2) (rfl) ?_
  refine nr ?_; intro U h; simp only [z0, z1] at h; subst h
  refine s_val 5 rfl rfl (.int .i64 0) (rfl) ?_
  refine nr ?_; intro U h; simp only [z0, z1] at h; subst h
  refine wpList_nil ?_
  refine then_n ?_
  refine wp_seq ?_
  refine wp_region_opq ?_
  intro OPS hY
  have y3 := hY 3 30 rfl
  have y7 := hY 7 34 rfl
  clear hY
  refine s_val 27 rfl rfl (.pointer (some ⟨p, 0, none⟩)) (rfl) ?_
  refine nr ?_; intro U h; simp only [z0, z1] at h; subst h
  refine s_callv 28 rfl rfl _ 13 Try.call13 rfl rfl _ rfl [.pointer (some ⟨p, 0, none⟩), .int .i64 2] rfl (came_no _ p w.heap.size a2 c2 [u1, u2] 0 0 HP (by simp) (by omega) 2 (by decide)) ?_
  intro w6 G
  replace HP := HP.gro G
  replace GG := GG.trans G
  clear G
  refine nr ?_; intro U h; simp only [z0, z1] at h; subst h
  refine s_val 29 rfl rfl (.bool true) (run_nt _ _ rfl false rfl) ?_
  refine nr ?_; intro U h; simp only [z0, z1] at h; subst h
  refine s_val 30 rfl rfl (.bool true) (rfl) ?_
  refine nr ?_; intro U h; simp only [z0, z1] at h; subst h
  refine s_gvalY 31 rfl rfl y3 rfl (.pointer (some ⟨p, 0, none⟩)) (rfl) ?_
  refine nr ?_; intro U h; simp only [z0, z1] at h; subst h
  refine s_gcallxY 32 rfl rfl y3 rfl _ 13 Try.call13 rfl rfl _ rfl [.pointer (some ⟨p, 0, none⟩), .int .i64 1] rfl (came_ok _ p w.heap.size a2 c2 [u1, u2] 0 0 HP (by simp) (by omega) 1 (by decide)) (fun _ _ ⟨he, _⟩ => ⟨_, he⟩) ?_
  rintro v w7 ⟨he, G, HP2⟩
  cases he
  replace GG := G.gro GG (by simpa using bp)
  clear G HP
  have HP := HP2
  clear HP2
  refine nr ?_; intro U h; simp only [z0, z1] at h; subst h
  refine s_val 33 rfl rfl (.bool true) (rfl) ?_
  refine nr ?_; intro U h; simp only [z0, z1] at h; subst h
  refine s_val 34 rfl rfl (.bool true) (rfl) ?_
  refine nr ?_; intro U h; simp only [z0, z1] at h; subst h
  refine s_gvalY 35 rfl rfl y7 rfl (.pointer (some ⟨p, 0, none⟩)) (rfl) ?_
  refine nr ?_; intro U h; simp only [z0, z1] at h; subst h
  refine s_gcallvY 36 rfl rfl y7 rfl _ 13 Try.call13 rfl rfl _ rfl [.pointer (some ⟨p, 0, none⟩), .int .i64 1] rfl (came_no _ p w.heap.size a2 c2 [u1, u2] 0 (0 + 1) HP (by simp) (by omega) 1 (by decide)) ?_
  intro w8 G
  replace HP := HP.gro G
  replace GG := GG.trans G
  clear G
  refine nr ?_; intro U h; simp only [z0, z1] at h; subst h
  refine s_gvalY 37 rfl rfl y7 rfl (.bool true) (run_nt _ _ rfl false rfl) ?_
  refine nr ?_; intro U h; simp only [z0, z1] at h; subst h
  refine s_val 38 rfl rfl (.bool true) (rfl) ?_
  refine nr ?_; intro U h; simp only [z0, z1] at h; subst h
  refine s_val 6 rfl rfl (.bool true) (rfl) ?_
  refine nr ?_; intro U h; simp only [z0, z1] at h; subst h
  refine wpList_nil ?_
  refine then_n ?_
  refine wp_seq ?_
  refine wp_region_lit ?_
  refine s_val 39 rfl rfl (.pointer (some ⟨p, 0, none⟩)) (rfl) ?_
  refine nr ?_; intro U h; simp only [z0, z1] at h; subst h
  refine s_callx 40 rfl rfl _ 11 Try.call11 rfl rfl _ rfl [.pointer (some ⟨p, 0, none⟩), .int .i64 1] rfl (acked_ok _ p w.heap.size a2 c2 [u1, u2] 0 (0 + 1) HP (by simp) (by omega) 1 1 (by omega) (by simp) (by decide)) (fun _ _ ⟨_, _, he, _⟩ => ⟨_, he⟩) ?_
  rintro v w9 ⟨a3, c3, he, G, HP2, hkp⟩
  cases he
  replace GG := G.gro GG HP.sb
  clear G HP hkp
  have HP : WX 57 (c57 ((0 + 1 + [u2].length : Nat) : Int) ⟨a3, [u2].length, c3⟩ ((0 + 1 : Nat) : Int)) _ p w.heap.size a3 c3 [u2] := HP2
  clear HP2
  refine nr ?_; intro U h; simp only [z0, z1] at h; subst h
  refine s_val 7 rfl rfl (.int .i64 1) (rfl) ?_
  refine nr ?_; intro U h; simp only [z0, z1] at h; subst h
  refine wpList_nil ?_
  refine then_n ?_
  refine wp_seq ?_
  refine wp_region_lit ?_
  refine s_val 42 rfl rfl (.pointer (some ⟨p, 0, none⟩)) (rfl) ?_
  refine nr ?_; intro U h; simp only [z0, z1] at h; subst h
  refine s_callx 43 rfl rfl _ 15 Try.call15 rfl rfl _ rfl [.pointer (some ⟨p, 0, none⟩)] rfl (waits_any _ p w.heap.size a3 c3 [u2] (0 + 1) (0 + 1) HP (by simp) (by omega)) (fun _ _ ⟨_, _, he, _⟩ => ⟨_, he⟩) ?_
  rintro v w10 ⟨gl, r, he, G, hr, HL⟩
  cases he
  have hr2 : r.map (·.2) = [K98] := by rw [hr]; simp [hy2]
  obtain ⟨⟨g1, l1⟩, hr3⟩ : ∃ x, r = [x] := by
    have := congrArg List.length hr2
    match r, this with
    | [x], _ => exact ⟨x, rfl⟩
  subst hr3
  have hl1 : l1 = K98 := by simpa using hr2
  subst hl1
  replace HP := HP.gro G
  replace GG := GG.trans G
  clear G
  refine nr ?_; intro U h; simp only [z0, z1] at h; subst h
  refine s_val 41 rfl rfl (.tuple #[.int .i64 2, .slice (some ⟨gl, 0, none⟩) 1 1]) (rfl) ?_
  refine nr ?_; intro U h; simp only [z0, z1] at h; subst h
  refine s_val 44 rfl rfl (.int .i64 2) (rfl) ?_
  refine nr ?_; intro U h; simp only [z0, z1] at h; subst h
  refine s_val 45 rfl rfl (.slice (some ⟨gl, 0, none⟩) 1 1) (rfl) ?_
  refine nr ?_; intro U h; simp only [z0, z1] at h; subst h
  refine s_val 8 rfl rfl (.int .i64 2) (rfl) ?_
  refine nr ?_; intro U h; simp only [z0, z1] at h; subst h
  refine s_val 9 rfl rfl (.slice (some ⟨gl, 0, none⟩) 1 1) (rfl) ?_
  refine nr ?_; intro U h; simp only [z0, z1] at h; subst h
  refine wpList_nil ?_
  refine then_n ?_
  refine wp_seq ?_
  refine wp_region_opq ?_
  intro OPS hY
  have y2 := hY 2 48 rfl
  have y6 := hY 6 52 rfl
  have y10 := hY 10 56 rfl
  have y13 := hY 13 59 rfl
  have y17 := hY 17 63 rfl
  have y21 := hY 21 67 rfl
  have y26 := hY 26 72 rfl
  have y33 := hY 33 79 rfl
  have y38 := hY 38 84 rfl
  clear hY
  refine s_val 46 rfl rfl (.int .i64 1) (rfl) ?_
  refine nr ?_; intro U h; simp only [z0, z1] at h; subst h
  refine s_val 47 rfl rfl (.bool true) (run_eq_k 2 .i64 _ _ _ rfl Try.underlying2 _ _ rfl rfl true rfl _) ?_
  refine nr ?_; intro U h; simp only [z0, z1] at h; subst h
  refine s_val 48 rfl rfl (.bool true) (rfl) ?_
  refine nr ?_; intro U h; simp only [z0, z1] at h; subst h
  refine s_gvalY 49 rfl rfl y2 rfl (.int .i64 2) (rfl) ?_
  refine nr ?_; intro U h; simp only [z0, z1] at h; subst h
  refine s_gvalY 50 rfl rfl y2 rfl (.bool true) (run_eq_k 2 .i64 _ _ _ rfl Try.underlying2 _ _ rfl rfl true rfl _) ?_
  refine nr ?_; intro U h; simp only [z0, z1] at h; subst h
  refine s_val 51 rfl rfl (.bool true) (rfl) ?_
  refine nr ?_; intro U h; simp only [z0, z1] at h; subst h
  refine s_val 52 rfl rfl (.bool true) (rfl) ?_
  refine nr ?_; intro U h; simp only [z0, z1] at h; subst h
  refine s_gvalY 53 rfl rfl y6 rfl (.int .i64 0) (rfl) ?_
  refine nr ?_; intro U h; simp only [z0, z1] at h; subst h
  refine s_gvalY 54 rfl rfl y6 rfl (.bool true) (run_eq_k 33 .i64 _ _ _ rfl Try.underlying33 _ _ rfl rfl true rfl _) ?_
  refine nr ?_; intro U h; simp only [z0, z1] at h; subst h
  refine s_val 55 rfl rfl (.bool true) (rfl) ?_
  refine nr ?_; intro U h; simp only [z0, z1] at h; subst h
  refine s_val 56 rfl rfl (.bool true) (rfl) ?_
  refine nr ?_; intro U h; simp only [z0, z1] at h; subst h
  refine s_gvalY 57 rfl rfl y10 rfl (.bool true) (rfl) ?_
  refine nr ?_; intro U h; simp only [z0, z1] at h; subst h
  refine s_val 58 rfl rfl (.bool true) (rfl) ?_
  refine nr ?_; intro U h; simp only [z0, z1] at h; subst h
  refine s_val 59 rfl rfl (.bool true) (rfl) ?_
  refine nr ?_; intro U h; simp only [z0, z1] at h; subst h
  refine s_gvalY 60 rfl rfl y13 rfl (.int .i64 1) (rfl) ?_
  refine nr ?_; intro U h; simp only [z0, z1] at h; subst h
  refine s_gvalY 61 rfl rfl y13 rfl (.bool true) (run_eq_k 3 .i64 _ _ _ rfl Try.underlying3 _ _ rfl rfl true rfl _) ?_
  refine nr ?_; intro U h; simp only [z0, z1] at h; subst h
  refine s_val 62 rfl rfl (.bool true) (rfl) ?_
  refine nr ?_; intro U h; simp only [z0, z1] at h; subst h
  refine s_val 63 rfl rfl (.bool true) (rfl) ?_
  refine nr ?_; intro U h; simp only [z0, z1] at h; subst h
  refine s_gvalY 64 rfl rfl y17 rfl (.int .i64 2) (rfl) ?_
  refine nr ?_; intro U h; simp only [z0, z1] at h; subst h
  refine s_gvalY 65 rfl rfl y17 rfl (.bool true) (run_eq_k 2 .i64 _ _ _ rfl Try.underlying2 _ _ rfl rfl true rfl _) ?_
  refine nr ?_; intro U h; simp only [z0, z1] at h; subst h
  refine s_val 66 rfl rfl (.bool true) (rfl) ?_
  refine nr ?_; intro U h; simp only [z0, z1] at h; subst h
  refine s_val 67 rfl rfl (.bool true) (rfl) ?_
  refine nr ?_; intro U h; simp only [z0, z1] at h; subst h
  refine s_gvalY 68 rfl rfl y21 rfl (.slice (some ⟨gl, 0, none⟩) 1 1) (rfl) ?_
  refine nr ?_; intro U h; simp only [z0, z1] at h; subst h
  refine s_gvalY 69 rfl rfl y21 rfl (.int .i64 1) (run_len Try.underlying26 _ rfl _ _ _ rfl _) ?_
  refine nr ?_; intro U h; simp only [z0, z1] at h; subst h
  refine s_gvalY 70 rfl rfl y21 rfl (.bool true) (run_eq_k 3 .i64 _ _ _ rfl Try.underlying3 _ _ rfl rfl true rfl _) ?_
  refine nr ?_; intro U h; simp only [z0, z1] at h; subst h
  refine s_val 71 rfl rfl (.bool true) (rfl) ?_
  refine nr ?_; intro U h; simp only [z0, z1] at h; subst h
  refine s_val 72 rfl rfl (.bool true) (rfl) ?_
  refine nr ?_; intro U h; simp only [z0, z1] at h; subst h
  refine s_gvalY 73 rfl rfl y26 rfl (.slice (some ⟨gl, 0, none⟩) 1 1) (rfl) ?_
  refine nr ?_; intro U h; simp only [z0, z1] at h; subst h
  refine s_gvalY 74 rfl rfl y26 rfl (.pointer (some ⟨gl, 0, none⟩)) (run_idxg _ _ rfl gl 1 1 0 rfl rfl (by decide) _) ?_
  refine nr ?_; intro U h; simp only [z0, z1] at h; subst h
  refine s_gvalY 75 rfl rfl y26 rfl (.slice (some ⟨g1, 0, none⟩) K98.length K98.length) (run_ld24 _ rfl _ rfl _ _ (HL.at (j := 0) rfl)) ?_
  refine nr ?_; intro U h; simp only [z0, z1] at h; subst h
  refine s_gvalY 76 rfl rfl y26 rfl (.string (bas K98)) (run_text_op bT 9 Try.underlying9 _ rfl (l := K98) rfl (nc_all (HL.fr (g1, K98) (by simp)).2.1 (by decide))) ?_
  refine nr ?_; intro U h; simp only [z0, z1] at h; subst h
  refine s_gvalY 77 rfl rfl y26 rfl (.bool true) (run_eqs_op _ _ _ rfl (bas K98) (bas K98) rfl (by kernel_rfl) true (decide_eq_true rfl) _) ?_
  refine nr ?_; intro U h; simp only [z0, z1] at h; subst h
  refine s_val 78 rfl rfl (.bool true) (rfl) ?_
  refine nr ?_; intro U h; simp only [z0, z1] at h; subst h
  refine s_val 79 rfl rfl (.bool true) (rfl) ?_
  refine nr ?_; intro U h; simp only [z0, z1] at h; subst h
  refine s_gvalY 80 rfl rfl y33 rfl (.pointer (some ⟨p, 0, none⟩)) (rfl) ?_
  refine nr ?_; intro U h; simp only [z0, z1] at h; subst h
  refine s_gcallvY 81 rfl rfl y33 rfl _ 11 Try.call11 rfl rfl _ rfl [.pointer (some ⟨p, 0, none⟩), .int .i64 1] rfl (acked_low _ p w.heap.size a3 c3 [u2] (0 + 1) (0 + 1) HP (by simp) (by omega) 1 (by decide)) ?_
  intro w11 G
  replace HP := HP.gro G
  replace HL := HL.gro G
  replace GG := GG.trans G
  clear G
  refine nr ?_; intro U h; simp only [z0, z1] at h; subst h
  refine s_gvalY 82 rfl rfl y33 rfl (.bool true) (run_eq_k 3 .i64 _ _ _ rfl Try.underlying3 _ _ rfl rfl true rfl _) ?_
  refine nr ?_; intro U h; simp only [z0, z1] at h; subst h
  refine s_val 83 rfl rfl (.bool true) (rfl) ?_
  refine nr ?_; intro U h; simp only [z0, z1] at h; subst h
  refine s_val 84 rfl rfl (.bool true) (rfl) ?_
  refine nr ?_; intro U h; simp only [z0, z1] at h; subst h
  refine s_gvalY 85 rfl rfl y38 rfl (.pointer (some ⟨p, 0, none⟩)) (rfl) ?_
  refine nr ?_; intro U h; simp only [z0, z1] at h; subst h
  refine s_gcallvY 86 rfl rfl y38 rfl _ 18 Try.call18 rfl rfl _ rfl [.pointer (some ⟨p, 0, none⟩)] rfl (got_any _ p w.heap.size a3 c3 [u2] (0 + 1) (0 + 1) HP (by simp) (by omega)) ?_
  intro w12 G
  replace HP := HP.gro G
  replace HL := HL.gro G
  replace GG := GG.trans G
  clear G
  refine nr ?_; intro U h; simp only [z0, z1] at h; subst h
  refine s_gvalY 87 rfl rfl y38 rfl (.bool true) (run_eq_k 2 .i64 _ _ _ rfl Try.underlying2 _ _ rfl rfl true rfl _) ?_
  refine nr ?_; intro U h; simp only [z0, z1] at h; subst h
  refine s_val 88 rfl rfl (.bool true) (rfl) ?_
  refine nr ?_; intro U h; simp only [z0, z1] at h; subst h
  refine s_val 0 rfl rfl (.bool true) (rfl) ?_
  refine nr ?_; intro U h; simp only [z0] at h; subst h
  refine wpList_nil ?_
  refine then_n ?_
  refine wp_ret ?_
  refine bodyPost_ret (results_tmp Try.results8 _ _ _) rfl ?_
  exact ⟨rfl, GG⟩
set_option maxRecDepth 100000 in
set_option maxHeartbeats 4000000 in
theorem windowNil_any (w : World) (i : Int) (ao : Option Addr) (cap : Nat) (l : List Nat) : Calls Try.prog 6 #[.int .i64 i, .slice ao l.length cap] w fun e w' => e = .returned (.bool true) ∧ Gro w w' := by
  refine s_enter Try.func6 rfl Try.ntmps6 [.int .i64 i, .slice ao l.length cap] [.int .i64 i, .slice ao l.length cap, undef, undef, undef, undef, undef, undef, undef, undef, undef, undef, undef, undef, undef, undef, undef, undef, undef, undef, undef, undef, undef, undef, undef, undef, undef, undef, undef, undef, undef, undef, undef, undef, undef, undef, undef, undef, undef, undef, undef, undef, undef, undef, undef, undef, undef, undef, undef, undef, undef, undef, undef, undef, undef, undef] rfl ?_
  have GG := Gro.refl w
  refine wp_seq ?_
  refine wp_region_lit ?_
  refine s_val 4 rfl rfl (.bool false) (rfl) ?_
  refine nr ?_; intro U h; simp only [z0, z1] at h; subst h
  refine wpList_nil ?_
  refine then_n ?_
  refine wp_seq ?_
  refine wp_region_lit ?_
  refine s_val 5 rfl rfl (.pointer none) (rfl) ?_
  refine nr ?_; intro U h; simp only [z0, z1] at h; subst h
  refine wpList_nil ?_
  refine then_n ?_
  refine wp_seq ?_
  refine wp_region_lit ?_
  refine s_val 11 rfl rfl (.pointer none) (rfl) ?_
  refine nr ?_; intro U h; simp only [z0, z1] at h; subst h
  refine s_val 12 rfl rfl (.slice ao l.length cap) (rfl) ?_
  refine nr ?_; intro U h; simp only [z0, z1] at h; subst h
  refine s_callv 13 rfl rfl _ 9 Try.call9 rfl rfl _ rfl [.pointer none, .slice ao l.length cap] rfl (send_nil _ ao cap l) ?_
  intro w1 G
  replace GG := GG.trans G
  clear G
  refine nr ?_; intro U h; simp only [z0, z1] at h; subst h
  refine s_val 10 rfl rfl (.tuple #[.int .i64 0, .int .i64 1]) (rfl) ?_
  refine nr ?_; intro U h; simp only [z0, z1] at h; subst h
  refine s_val 14 rfl rfl (.int .i64 0) (rfl) ?_
  refine nr ?_; intro U h; simp only [z0, z1] at h; subst h
  refine s_val 15 rfl rfl (.int .i64 1) (rfl) ?_
  refine nr ?_; intro U h; simp only [z0, z1] at h; subst h
  refine s_val 6 rfl rfl (.int .i64 0) (rfl) ?_
  refine nr ?_; intro U h; simp only [z0, z1] at h; subst h
  refine s_val 7 rfl rfl (.int .i64 1) (rfl) ?_
  refine nr ?_; intro U h; simp only [z0, z1] at h; subst h
  refine wpList_nil ?_
  refine then_n ?_
  refine wp_seq ?_
  refine wp_region_lit ?_
  refine s_val 17 rfl rfl (.pointer none) (rfl) ?_
  refine nr ?_; intro U h; simp only [z0, z1] at h; subst h
  refine s_callv 18 rfl rfl _ 15 Try.call15 rfl rfl _ rfl [.pointer none] rfl (waits_nil _) ?_
  intro w2 G
  replace GG := GG.trans G
  clear G
  refine nr ?_; intro U h; simp only [z0, z1] at h; subst h
  refine s_val 16 rfl rfl (.tuple #[.int .i64 0, .slice none 0 0]) (rfl) ?_
  refine nr ?_; intro U h; simp only [z0, z1] at h; subst h
  refine s_val 19 rfl rfl (.int .i64 0) (rfl) ?_
  refine nr ?_; intro U h; simp only [z0, z1] at h; subst h
  refine s_val 20 rfl rfl (.slice none 0 0) (rfl) ?_
  refine nr ?_; intro U h; simp only [z0, z1] at h; subst h
  refine s_val 8 rfl rfl (.int .i64 0) (rfl) ?_
  refine nr ?_; intro U h; simp only [z0, z1] at h; subst h
  refine s_val 9 rfl rfl (.slice none 0 0) (rfl) ?_
  refine nr ?_; intro U h; simp only [z0, z1] at h; subst h
  refine wpList_nil ?_
  refine then_n ?_
  refine wp_seq ?_
  refine wp_region_opq ?_
  intro OPS hY
  have y1 := hY 1 22 rfl
  have y5 := hY 5 26 rfl
  have y9 := hY 9 30 rfl
  have y13 := hY 13 34 rfl
  have y18 := hY 18 39 rfl
  have y24 := hY 24 45 rfl
  have y30 := hY 30 51 rfl
  clear hY
  refine s_callv 21 rfl rfl _ 8 Try.call8 rfl rfl _ rfl [] rfl (fixed_true _) ?_
  intro w3 G
  replace GG := GG.trans G
  clear G
  refine nr ?_; intro U h; simp only [z0, z1] at h; subst h
  refine s_val 22 rfl rfl (.bool true) (rfl) ?_
  refine nr ?_; intro U h; simp only [z0, z1] at h; subst h
  refine s_gvalY 23 rfl rfl y1 rfl (.int .i64 0) (rfl) ?_
  refine nr ?_; intro U h; simp only [z0, z1] at h; subst h
  refine s_gvalY 24 rfl rfl y1 rfl (.bool true) (run_eq_k 2 .i64 _ _ _ rfl Try.underlying2 _ _ rfl rfl true rfl _) ?_
  refine nr ?_; intro U h; simp only [z0, z1] at h; subst h
  refine s_val 25 rfl rfl (.bool true) (rfl) ?_
  refine nr ?_; intro U h; simp only [z0, z1] at h; subst h
  refine s_val 26 rfl rfl (.bool true) (rfl) ?_
  refine nr ?_; intro U h; simp only [z0, z1] at h; subst h
  refine s_gvalY 27 rfl rfl y5 rfl (.int .i64 1) (rfl) ?_
  refine nr ?_; intro U h; simp only [z0, z1] at h; subst h
  refine s_gvalY 28 rfl rfl y5 rfl (.bool true) (run_eq_k 33 .i64 _ _ _ rfl Try.underlying33 _ _ rfl rfl true rfl _) ?_
  refine nr ?_; intro U h; simp only [z0, z1] at h; subst h
  refine s_val 29 rfl rfl (.bool true) (rfl) ?_
  refine nr ?_; intro U h; simp only [z0, z1] at h; subst h
  refine s_val 30 rfl rfl (.bool true) (rfl) ?_
  refine nr ?_; intro U h; simp only [z0, z1] at h; subst h
  refine s_gvalY 31 rfl rfl y9 rfl (.int .i64 0) (rfl) ?_
  refine nr ?_; intro U h; simp only [z0, z1] at h; subst h
  refine s_gvalY 32 rfl rfl y9 rfl (.bool true) (run_eq_k 2 .i64 _ _ _ rfl Try.underlying2 _ _ rfl rfl true rfl _) ?_
  refine nr ?_; intro U h; simp only [z0, z1] at h; subst h
  refine s_val 33 rfl rfl (.bool true) (rfl) ?_
  refine nr ?_; intro U h; simp only [z0, z1] at h; subst h
  refine s_val 34 rfl rfl (.bool true) (rfl) ?_
  refine nr ?_; intro U h; simp only [z0, z1] at h; subst h
  refine s_gvalY 35 rfl rfl y13 rfl (.slice none 0 0) (rfl) ?_
  refine nr ?_; intro U h; simp only [z0, z1] at h; subst h
  refine s_gvalY 36 rfl rfl y13 rfl (.int .i64 0) (run_len Try.underlying26 _ rfl _ _ _ rfl _) ?_
  refine nr ?_; intro U h; simp only [z0, z1] at h; subst h
  refine s_gvalY 37 rfl rfl y13 rfl (.bool true) (run_eq_k 3 .i64 _ _ _ rfl Try.underlying3 _ _ rfl rfl true rfl _) ?_
  refine nr ?_; intro U h; simp only [z0, z1] at h; subst h
  refine s_val 38 rfl rfl (.bool true) (rfl) ?_
  refine nr ?_; intro U h; simp only [z0, z1] at h; subst h
  refine s_val 39 rfl rfl (.bool true) (rfl) ?_
  refine nr ?_; intro U h; simp only [z0, z1] at h; subst h
  refine s_gvalY 40 rfl rfl y18 rfl (.pointer none) (rfl) ?_
  refine nr ?_; intro U h; simp only [z0, z1] at h; subst h
  refine s_gvalY 41 rfl rfl y18 rfl (.int .i64 i) (rfl) ?_
  refine nr ?_; intro U h; simp only [z0, z1] at h; subst h
  refine s_gcallvY 42 rfl rfl y18 rfl _ 11 Try.call11 rfl rfl _ rfl [.pointer none, .int .i64 i] rfl (acked_nil _ i) ?_
  intro w4 G
  replace GG := GG.trans G
  clear G
  refine nr ?_; intro U h; simp only [z0, z1] at h; subst h
  refine s_gvalY 43 rfl rfl y18 rfl (.bool true) (run_eq_k 3 .i64 _ _ _ rfl Try.underlying3 _ _ rfl rfl true rfl _) ?_
  refine nr ?_; intro U h; simp only [z0, z1] at h; subst h
  refine s_val 44 rfl rfl (.bool true) (rfl) ?_
  refine nr ?_; intro U h; simp only [z0, z1] at h; subst h
  refine s_val 45 rfl rfl (.bool true) (rfl) ?_
  refine nr ?_; intro U h; simp only [z0, z1] at h; subst h
  refine s_gvalY 46 rfl rfl y24 rfl (.pointer none) (rfl) ?_
  refine nr ?_; intro U h; simp only [z0, z1] at h; subst h
  refine s_gvalY 47 rfl rfl y24 rfl (.int .i64 i) (rfl) ?_
  refine nr ?_; intro U h; simp only [z0, z1] at h; subst h
  refine s_gcallvY 48 rfl rfl y24 rfl _ 13 Try.call13 rfl rfl _ rfl [.pointer none, .int .i64 i] rfl (came_nil _ i) ?_
  intro w5 G
  replace GG := GG.trans G
  clear G
  refine nr ?_; intro U h; simp only [z0, z1] at h; subst h
  refine s_gvalY 49 rfl rfl y24 rfl (.bool true) (run_nt _ _ rfl false rfl) ?_
  refine nr ?_; intro U h; simp only [z0, z1] at h; subst h
  refine s_val 50 rfl rfl (.bool true) (rfl) ?_
  refine nr ?_; intro U h; simp only [z0, z1] at h; subst h
  refine s_val 51 rfl rfl (.bool true) (rfl) ?_
  refine nr ?_; intro U h; simp only [z0, z1] at h; subst h
  refine s_gvalY 52 rfl rfl y30 rfl (.pointer none) (rfl) ?_
  refine nr ?_; intro U h; simp only [z0, z1] at h; subst h
  refine s_gcallvY 53 rfl rfl y30 rfl _ 18 Try.call18 rfl rfl _ rfl [.pointer none] rfl (got_nil _) ?_
  intro w6 G
  replace GG := GG.trans G
  clear G
  refine nr ?_; intro U h; simp only [z0, z1] at h; subst h
  refine s_gvalY 54 rfl rfl y30 rfl (.bool true) (run_eq_k 2 .i64 _ _ _ rfl Try.underlying2 _ _ rfl rfl true rfl _) ?_
  refine nr ?_; intro U h; simp only [z0, z1] at h; subst h
  refine s_val 55 rfl rfl (.bool true) (rfl) ?_
  refine nr ?_; intro U h; simp only [z0, z1] at h; subst h
  refine s_val 4 rfl rfl (.bool true) (rfl) ?_
  refine nr ?_; intro U h; simp only [z0, z1] at h; subst h
  refine wpList_nil ?_
  refine then_n ?_
  refine wp_ret ?_
  refine bodyPost_ret (results_tmp Try.results6 _ _ _) rfl ?_
  exact ⟨rfl, GG⟩
set_option maxRecDepth 100000 in
set_option maxHeartbeats 4000000 in
theorem windowAcks_any (w : World) (sends : Int) (ao : Option Addr) (cap : Nat) (xs : List Int) (HI : IC w ao cap xs) (hxs : xs.length < 9223372036854775808) : Calls Try.prog 5 #[.int .i64 sends, .slice ao xs.length cap] w fun e w' => e = .returned (.bool true) ∧ Gro w w' := by
  refine s_enter Try.func5 rfl Try.ntmps5 [.int .i64 sends, .slice ao xs.length cap] [.int .i64 sends, .slice ao xs.length cap, undef, undef, undef, undef, undef, undef, undef, undef, undef, undef, undef, undef, undef, undef, undef, undef, undef, undef, undef, undef, undef, undef, undef, undef, undef, undef, undef, undef, undef, undef, undef, undef, undef, undef, undef, undef, undef, undef, undef, undef, undef, undef, undef, undef, undef, undef, undef, undef, undef, undef, undef, undef, undef, undef, undef, undef, undef, undef, undef, undef, undef, undef, undef, undef, undef, undef, undef, undef, undef] rfl ?_
  have GG := Gro.refl w
  obtain ⟨n, hn⟩ : ∃ n, uN sends % 200 = n := ⟨_, rfl⟩
  refine wp_seq ?_
  refine wp_region_lit ?_
  refine s_val 4 rfl rfl (.bool false) (rfl) ?_
  refine nr ?_; intro U h; simp only [z0, z1] at h; subst h
  refine wpList_nil ?_
  refine then_n ?_
  refine wp_seq ?_
  refine wp_region_lit ?_
  refine s_callx 13 rfl rfl _ 7 Try.call7 rfl rfl _ rfl [] rfl (new_any _) (fun _ _ ⟨_, he, _⟩ => ⟨_, he⟩) ?_
  rintro v w1 ⟨p, he, G, bp, HP0⟩
  cases he
  replace bp := Nat.le_trans GG.size bp
  replace GG := GG.trans G
  clear G
  have HP : WX 57 (c57 ((0 + ([] : List RV).length : Nat) : Int) ⟨none, ([] : List RV).length, 0⟩ ((0 : Nat) : Int)) _ p w.heap.size none 0 [] := WX.new HP0.box bp (by decide)
  clear HP0
  refine nr ?_; intro U h; simp only [z0, z1] at h; subst h
  refine s_val 5 rfl rfl (.pointer (some ⟨p, 0, none⟩)) (rfl) ?_
  refine nr ?_; intro U h; simp only [z0, z1] at h; subst h
  refine wpList_nil ?_
  refine then_n ?_
  refine wp_seq ?_
  refine wp_region_lit ?_
  refine s_val 14 rfl rfl (.int .i64 sends) (rfl) ?_
  refine nr ?_; intro U h; simp only [z0, z1] at h; subst h
  refine s_val 15 rfl rfl (.int .u64 ((uN sends : Nat) : Int)) (conv345 _ rfl sends rfl _) ?_
  refine nr ?_; intro U h; simp only [z0, z1] at h; subst h
  refine s_val 16 rfl rfl (.int .u64 ((n : Nat) : Int)) ((run_remN 52 52 _ _ rfl (uN sends) 200 rfl rfl (by decide) _).trans (by rw [hn])) ?_
  refine nr ?_; intro U h; simp only [z0, z1] at h; subst h
  refine s_val 17 rfl rfl (.int .i64 ((n : Nat) : Int)) (conv453 _ rfl n (by omega) rfl _) ?_
  refine nr ?_; intro U h; simp only [z0, z1] at h; subst h
  refine s_val 6 rfl rfl (.int .i64 ((n : Nat) : Int)) (rfl) ?_
  refine nr ?_; intro U h; simp only [z0, z1] at h; subst h
  refine wpList_nil ?_
  refine then_n ?_
  refine wp_seq ?_
  refine wp_seq ?_
  refine wp_region_opq ?_
  intro OPS hY
  have y2 := hY 2 20 rfl
  clear hY
  refine s_val 18 rfl rfl (.pointer (some ⟨p, 0, none⟩)) (rfl) ?_
  refine nr ?_; intro U h; simp only [z0, z1] at h; subst h
  refine s_val 19 rfl rfl (.bool false) (run_eqnp 23 _ _ _ rfl _ rfl rfl Try.underlying23 _) ?_
  refine nr ?_; intro U h; simp only [z0, z1] at h; subst h
  refine s_val 20 rfl rfl (.bool false) (rfl) ?_
  refine nr ?_; intro U h; simp only [z0, z1] at h; subst h
  refine s_gcallvY 21 rfl rfl y2 rfl _ 8 Try.call8 rfl rfl _ rfl [] rfl (fixed_true _) ?_
  intro w2 G
  replace HP := HP.gro G
  replace GG := GG.trans G
  clear G
  refine nr ?_; intro U h; simp only [z0, z1] at h; subst h
  refine s_gvalY 22 rfl rfl y2 rfl (.bool false) (run_nt _ _ rfl true rfl) ?_
  refine nr ?_; intro U h; simp only [z0, z1] at h; subst h
  refine s_val 23 rfl rfl (.bool false) (rfl) ?_
  refine nr ?_; intro U h; simp only [z0, z1] at h; subst h
  refine wpList_nil ?_
  refine then_n ?_
  refine wp_cond_false rfl ?_
  refine wp_skip ?_
  refine then_n ?_
  refine wp_seq ?_
  refine wp_seq ?_
  refine wp_region_lit ?_
  refine s_val 24 rfl rfl (.int .i64 ((n : Nat) : Int)) (rfl) ?_
  refine nr ?_; intro U h; simp only [z0, z1] at h; subst h
  refine s_val 25 rfl rfl (.int .i64 0) (rfl) ?_
  refine nr ?_; intro U h; simp only [z0, z1] at h; subst h
  refine wpList_nil ?_
  refine then_n ?_
  refine wp_block ?_
  refine wp_loopN (fun mz az wv => ∃ (j : Nat) (ro : Option Addr) (rc : Nat) (q : List RV) (us1 : Nat → Value), mz = n - j ∧ az = ⟨[.int .i64 sends, .slice ao xs.length cap, undef, undef, .bool false, .pointer (some ⟨p, 0, none⟩), .int .i64 ((n : Nat) : Int), undef, undef, undef, undef, undef, undef, .pointer (some ⟨p, 0, none⟩), .int .i64 sends, .int .u64 ((uN sends : Nat) : Int), .int .u64 ((n : Nat) : Int), .int .i64 ((n : Nat) : Int), .pointer (some ⟨p, 0, none⟩), .bool false, .bool false, .bool true, .bool false, .bool false, .int .i64 ((n : Nat) : Int), .int .i64 ((j : Nat) : Int), us1 0, us1 1, us1 2, us1 3, undef, undef, undef, undef, undef, undef, undef, undef, undef, undef, undef, undef, undef, undef, undef, undef, undef, undef, undef, undef, undef, undef, undef, undef, undef, undef, undef, undef, undef, undef, undef, undef, undef, undef, undef, undef, undef, undef, undef, undef, undef].toArray, []⟩ ∧ j ≤ n ∧ q.length = j ∧ Gro w wv ∧ WX 57 (c57 ((0 + q.length : Nat) : Int) ⟨ro, q.length, rc⟩ ((0 : Nat) : Int)) wv p w.heap.size ro rc q) ?_ _ ⟨0, none, 0, [], (fun kz => ([undef, undef, undef, undef] : List Value).getD kz undef), rfl, rfl, Nat.zero_le _, rfl, GG, HP⟩
  clear GG HP
  rintro mz az wv ⟨j, ro, rc, q, us1, rfl, rfl, hj, hqj, GG, HP⟩
  refine wp_seq ?_
  refine wp_region_lit ?_
  obtain ⟨p1, hp1⟩ : ∃ p, decide (((j : Nat) : Int) < ((n : Nat) : Int)) = p := ⟨_, rfl⟩
  refine s_val 26 rfl rfl (.bool p1) (run_lssT 3 _ _ _ rfl ((j : Nat) : Int) ((n : Nat) : Int) rfl rfl p1 hp1 _) ?_
  refine nr ?_; intro U h; simp only [z0, z1] at h; subst h
  cases p1
  · have hjn : j = n := by have := of_decide_eq_false hp1; omega
    refine wpList_nil ?_
    refine then_n ?_
    refine wp_seq ?_
    refine wp_cond_false rfl ?_
    refine wp_exit ?_
    refine then_x ?_
    refine then_x ?_
    refine blk_x ?_
    refine then_n ?_
    refine wp_seq ?_
    refine wp_region_lit ?_
    refine s_val 7 rfl rfl (.int .i64 0) (rfl) ?_
    refine nr ?_; intro U h; simp only [z0, z1] at h; subst h
    refine wpList_nil ?_
    refine then_n ?_
    refine wp_seq ?_
    refine wp_seq ?_
    refine wp_region_lit ?_
    refine s_val 30 rfl rfl (.slice ao xs.length cap) (rfl) ?_
    refine nr ?_; intro U h; simp only [z0, z1] at h; subst h
    refine s_val 31 rfl rfl (.int .i64 ((xs.length : Nat) : Int)) (run_len Try.underlying46 _ rfl _ _ _ rfl _) ?_
    refine nr ?_; intro U h; simp only [z0, z1] at h; subst h
    refine s_val 32 rfl rfl (.int .i64 0) (rfl) ?_
    refine nr ?_; intro U h; simp only [z0, z1] at h; subst h
    refine wpList_nil ?_
    refine then_n ?_
    refine wp_block ?_
    refine wp_loopN (fun mz az wv => ∃ (e2 : Nat) (ro : Option Addr) (rc : Nat) (q : List RV) (k : Nat) (us2 : Nat → Value), mz = xs.length - e2 ∧ az = ⟨[.int .i64 sends, .slice ao xs.length cap, undef, undef, us2 0, .pointer (some ⟨p, 0, none⟩), .int .i64 ((n : Nat) : Int), .int .i64 ((k : Nat) : Int), undef, us2 1, us2 2, undef, undef, .pointer (some ⟨p, 0, none⟩), .int .i64 sends, .int .u64 ((uN sends : Nat) : Int), .int .u64 ((n : Nat) : Int), .int .i64 ((n : Nat) : Int), .pointer (some ⟨p, 0, none⟩), .bool false, .bool false, .bool true, .bool false, .bool false, .int .i64 ((n : Nat) : Int), .int .i64 ((j : Nat) : Int), .bool false, us1 1, us1 2, us1 3, .slice ao xs.length cap, .int .i64 ((xs.length : Nat) : Int), .int .i64 ((e2 : Nat) : Int), us2 3, us2 4, us2 5, us2 6, us2 7, us2 8, us2 9, us2 10, us2 11, us2 12, us2 13, us2 14, us2 15, us2 16, us2 17, us2 18, us2 19, us2 20, us2 21, us2 22, us2 23, undef, undef, undef, undef, undef, undef, undef, undef, undef, undef, undef, undef, undef, undef, undef, undef, undef].toArray, []⟩ ∧ e2 ≤ xs.length ∧ k + q.length = n ∧ Gro w wv ∧ WX 57 (c57 ((k + q.length : Nat) : Int) ⟨ro, q.length, rc⟩ ((0 : Nat) : Int)) wv p w.heap.size ro rc q) ?_ _ ⟨0, ro, rc, q, 0, (fun kz => ([.bool false, undef, undef, undef, undef, undef, undef, undef, undef, undef, undef, undef, undef, undef, undef, undef, undef, undef, undef, undef, undef, undef, undef, undef] : List Value).getD kz undef), rfl, rfl, Nat.zero_le _, (by omega), GG, HP⟩
    clear GG HP
    rintro mz az wv ⟨e2, ro, rc, q, k, us2, rfl, rfl, hj, hkn, GG, HP⟩
    refine wp_seq ?_
    refine wp_region_lit ?_
    obtain ⟨p2, hp2⟩ : ∃ p, decide (((e2 : Nat) : Int) < ((xs.length : Nat) : Int)) = p := ⟨_, rfl⟩
    refine s_val 33 rfl rfl (.bool p2) (run_lssT 3 _ _ _ rfl ((e2 : Nat) : Int) ((xs.length : Nat) : Int) rfl rfl p2 hp2 _) ?_
    refine nr ?_; intro U h; simp only [z0, z1] at h; subst h
    cases p2
    · refine wpList_nil ?_
      refine then_n ?_
      refine wp_seq ?_
      refine wp_cond_false rfl ?_
      refine wp_exit ?_
      refine then_x ?_
      refine then_x ?_
      refine blk_x ?_
      refine then_n ?_
      refine wp_seq ?_
      refine wp_region_lit ?_
      refine s_val 55 rfl rfl (.pointer (some ⟨p, 0, none⟩)) (rfl) ?_
      refine nr ?_; intro U h; simp only [z0, z1] at h; subst h
      refine s_callx 56 rfl rfl _ 15 Try.call15 rfl rfl _ rfl [.pointer (some ⟨p, 0, none⟩)] rfl (waits_any _ p w.heap.size ro rc q k 0 HP (by omega) (by omega)) (fun _ _ ⟨_, _, he, _⟩ => ⟨_, he⟩) ?_
      rintro v w3 ⟨gl, r, he, G, hr, HL⟩
      cases he
      have hrl : r.length = q.length := by have := congrArg List.length hr; simpa using this
      replace HP := HP.gro G
      replace GG := GG.trans G
      clear G
      refine nr ?_; intro U h; simp only [z0, z1] at h; subst h
      refine s_val 54 rfl rfl (.tuple #[.int .i64 ((k + 1 : Nat) : Int), .slice (some ⟨gl, 0, none⟩) r.length r.length]) (rfl) ?_
      refine nr ?_; intro U h; simp only [z0, z1] at h; subst h
      refine s_val 57 rfl rfl (.int .i64 ((k + 1 : Nat) : Int)) (rfl) ?_
      refine nr ?_; intro U h; simp only [z0, z1] at h; subst h
      refine s_val 58 rfl rfl (.slice (some ⟨gl, 0, none⟩) r.length r.length) (rfl) ?_
      refine nr ?_; intro U h; simp only [z0, z1] at h; subst h
      refine s_val 11 rfl rfl (.int .i64 ((k + 1 : Nat) : Int)) (rfl) ?_
      refine nr ?_; intro U h; simp only [z0, z1] at h; subst h
      refine s_val 12 rfl rfl (.slice (some ⟨gl, 0, none⟩) r.length r.length) (rfl) ?_
      refine nr ?_; intro U h; simp only [z0, z1] at h; subst h
      refine wpList_nil ?_
      refine then_n ?_
      refine wp_seq ?_
      refine wp_region_opq ?_
      intro OPS hY
      have y4 := hY 4 63 rfl
      clear hY
      refine s_val 59 rfl rfl (.int .i64 ((k + 1 : Nat) : Int)) (rfl) ?_
      refine nr ?_; intro U h; simp only [z0, z1] at h; subst h
      refine s_val 60 rfl rfl (.int .i64 ((k : Nat) : Int)) (rfl) ?_
      refine nr ?_; intro U h; simp only [z0, z1] at h; subst h
      refine s_val 61 rfl rfl (.int .i64 ((k + 1 : Nat) : Int)) (run_addI 2 _ _ _ rfl ((k : Nat) : Int) 1 ((k + 1 : Nat) : Int) rfl rfl (by omega) (by omega) (by omega) _) ?_
      refine nr ?_; intro U h; simp only [z0, z1] at h; subst h
      refine s_val 62 rfl rfl (.bool true) (run_eq_k 2 .i64 _ _ _ rfl Try.underlying2 ((k + 1 : Nat) : Int) ((k + 1 : Nat) : Int) rfl rfl true (decide_eq_true (by omega)) _) ?_
      refine nr ?_; intro U h; simp only [z0, z1] at h; subst h
      refine s_val 63 rfl rfl (.bool true) (rfl) ?_
      refine nr ?_; intro U h; simp only [z0, z1] at h; subst h
      refine s_gvalY 64 rfl rfl y4 rfl (.slice (some ⟨gl, 0, none⟩) r.length r.length) (rfl) ?_
      refine nr ?_; intro U h; simp only [z0, z1] at h; subst h
      refine s_gvalY 65 rfl rfl y4 rfl (.int .i64 ((r.length : Nat) : Int)) (run_len Try.underlying26 _ rfl _ _ _ rfl _) ?_
      refine nr ?_; intro U h; simp only [z0, z1] at h; subst h
      refine s_gvalY 66 rfl rfl y4 rfl (.int .i64 ((n : Nat) : Int)) (rfl) ?_
      refine nr ?_; intro U h; simp only [z0, z1] at h; subst h
      refine s_gvalY 67 rfl rfl y4 rfl (.int .i64 ((k : Nat) : Int)) (rfl) ?_
      refine nr ?_; intro U h; simp only [z0, z1] at h; subst h
      refine s_gvalY 68 rfl rfl y4 rfl (.int .i64 ((q.length : Nat) : Int)) (run_subI 2 _ _ _ rfl ((n : Nat) : Int) ((k : Nat) : Int) ((q.length : Nat) : Int) rfl rfl (by omega) (by omega) (by omega) _) ?_
      refine nr ?_; intro U h; simp only [z0, z1] at h; subst h
      refine s_gvalY 69 rfl rfl y4 rfl (.bool true) (run_eq_k 2 .i64 _ _ _ rfl Try.underlying2 ((r.length : Nat) : Int) ((q.length : Nat) : Int) rfl rfl true (decide_eq_true (by omega)) _) ?_
      refine nr ?_; intro U h; simp only [z0, z1] at h; subst h
      refine s_val 70 rfl rfl (.bool true) (rfl) ?_
      refine nr ?_; intro U h; simp only [z0, z1] at h; subst h
      refine s_val 4 rfl rfl (.bool true) (rfl) ?_
      refine nr ?_; intro U h; simp only [z0, z1] at h; subst h
      refine wpList_nil ?_
      refine then_n ?_
      refine wp_ret ?_
      refine bodyPost_ret (results_tmp Try.results5 _ _ _) rfl ?_
      exact ⟨rfl, GG⟩
    have hjn : e2 < xs.length := by have := of_decide_eq_true hp2; omega
    obtain ⟨ad, hao, hcl⟩ := HI.at hjn
    obtain ⟨z, hz⟩ : ∃ z, xs.getD e2 0 = z := ⟨_, rfl⟩
    rw [hz] at hcl
    refine wpList_nil ?_
    refine then_n ?_
    refine wp_seq ?_
    refine wp_cond_true rfl ?_
    refine wp_skip ?_
    refine then_n ?_
    refine wp_seq ?_
    refine wp_block ?_
    refine wp_seq ?_
    refine wp_region_lit ?_
    refine s_val 34 rfl rfl (.pointer (some (ad.add e2))) (run_idx46 _ _ rfl ad xs.length cap e2 (by exact congrArg (fun a => Value.slice a xs.length cap) hao) rfl hjn _) ?_
    refine nr ?_; intro U h; simp only [z0, z1] at h; subst h
    rcases (show z ≤ (k : Int) ∨ (n : Int) < z ∨ ∃ m : Nat, z = ((k + m : Nat) : Int) ∧ 1 ≤ m ∧ m ≤ q.length by
      by_cases h1 : z ≤ (k : Int)
      · exact .inl h1
      · by_cases h2 : (n : Int) < z
        · exact .inr (.inl h2)
        · exact .inr (.inr ⟨(z - k).toNat, by omega, by omega, by omega⟩)) with h3 | h3 | ⟨m, h3, hm1, hm2⟩
    · refine s_val 35 rfl rfl (.int .i64 z) (run_ld2 _ rfl _ rfl _ (gro_cell GG hcl)) ?_
      refine nr ?_; intro U h; simp only [z0, z1] at h; subst h
      refine s_val 9 rfl rfl (.int .i64 z) (rfl) ?_
      refine nr ?_; intro U h; simp only [z0, z1] at h; subst h
      refine wpList_nil ?_
      refine then_n ?_
      refine wp_seq ?_
      refine wp_region_lit ?_
      refine s_val 10 rfl rfl (.int .i64 0) (rfl) ?_
      refine nr ?_; intro U h; simp only [z0, z1] at h; subst h
      refine wpList_nil ?_
      refine then_n ?_
      refine wp_seq ?_
      refine wp_seq ?_
      refine wp_region_opq ?_
      intro OPS hY
      have y3 := hY 3 39 rfl
      clear hY
      refine s_val 36 rfl rfl (.int .i64 z) (rfl) ?_
      refine nr ?_; intro U h; simp only [z0, z1] at h; subst h
      refine s_val 37 rfl rfl (.int .i64 ((k : Nat) : Int)) (rfl) ?_
      refine nr ?_; intro U h; simp only [z0, z1] at h; subst h
      refine s_val 38 rfl rfl (.bool false) (run_gtrT 2 _ _ _ rfl z ((k : Nat) : Int) rfl rfl false (by first | exact decide_eq_true (by omega) | exact decide_eq_false (by omega)) _) ?_
      refine nr ?_; intro U h; simp only [z0, z1] at h; subst h
      refine s_val 39 rfl rfl (.bool false) (rfl) ?_
      refine nr ?_; intro U h; simp only [z0, z1] at h; subst h
      refine s_skipY 40 rfl rfl y3 rfl ?_
      refine nr ?_; intro U h; simp only [z0, z1] at h; subst h
      refine s_skipY 41 rfl rfl y3 rfl ?_
      refine nr ?_; intro U h; simp only [z0, z1] at h; subst h
      refine s_skipY 42 rfl rfl y3 rfl ?_
      refine nr ?_; intro U h; simp only [z0, z1] at h; subst h
      refine s_val 43 rfl rfl (.bool false) (rfl) ?_
      refine nr ?_; intro U h; simp only [z0, z1] at h; subst h
      refine wpList_nil ?_
      refine then_n ?_
      refine wp_cond_false rfl ?_
      refine wp_skip ?_
      refine then_n ?_
      refine wp_seq ?_
      refine wp_region_lit ?_
      refine s_val 48 rfl rfl (.pointer (some ⟨p, 0, none⟩)) (rfl) ?_
      refine nr ?_; intro U h; simp only [z0, z1] at h; subst h
      refine s_val 49 rfl rfl (.int .i64 z) (rfl) ?_
      refine nr ?_; intro U h; simp only [z0, z1] at h; subst h
      refine s_callv 50 rfl rfl _ 11 Try.call11 rfl rfl _ rfl [.pointer (some ⟨p, 0, none⟩), .int .i64 z] rfl (acked_low _ p w.heap.size ro rc q k 0 HP (by omega) (by omega) z (by omega)) ?_
      intro w3 G
      replace HP := HP.gro G
      replace GG := GG.trans G
      clear G
      refine nr ?_; intro U h; simp only [z0, z1] at h; subst h
      refine s_val 51 rfl rfl (.int .i64 0) (rfl) ?_
      refine nr ?_; intro U h; simp only [z0, z1] at h; subst h
      refine s_val 52 rfl rfl (.bool false) (run_neq_k 2 .i64 _ _ _ rfl Try.underlying2 0 0 rfl rfl false (decide_eq_true rfl) _) ?_
      refine nr ?_; intro U h; simp only [z0, z1] at h; subst h
      refine wpList_nil ?_
      refine then_n ?_
      refine wp_cond_false rfl ?_
      refine wp_skip ?_
      refine blk_n ?_
      refine then_n ?_
      refine wp_region_lit ?_
      refine s_val 53 rfl rfl (.int .i64 ((e2 + 1 : Nat) : Int)) (run_addI 3 _ _ _ rfl ((e2 : Nat) : Int) 1 ((e2 + 1 : Nat) : Int) rfl rfl (by omega) (by omega) (by omega) _) ?_
      refine nr ?_; intro U h; simp only [z0, z1] at h; subst h
      refine s_val 32 rfl rfl (.int .i64 ((e2 + 1 : Nat) : Int)) (rfl) ?_
      refine nr ?_; intro U h; simp only [z0, z1] at h; subst h
      refine wpList_nil ?_
      refine then_n ?_
      exact ⟨_, (by omega : xs.length - (e2 + 1) < xs.length - e2), e2 + 1, ro, rc, q, k, (fun kz => ([us2 0, .int .i64 z, .int .i64 0, .bool true, .pointer (some (ad.add e2)), .int .i64 z, .int .i64 z, .int .i64 ((k : Nat) : Int), .bool false, .bool false, undef, undef, undef, .bool false, us2 14, us2 15, us2 16, us2 17, .pointer (some ⟨p, 0, none⟩), .int .i64 z, .int .i64 0, .int .i64 0, .bool false, .int .i64 ((e2 + 1 : Nat) : Int)] : List Value).getD kz undef), rfl, rfl, hjn, hkn, GG, HP⟩
    · refine s_val 35 rfl rfl (.int .i64 z) (run_ld2 _ rfl _ rfl _ (gro_cell GG hcl)) ?_
      refine nr ?_; intro U h; simp only [z0, z1] at h; subst h
      refine s_val 9 rfl rfl (.int .i64 z) (rfl) ?_
      refine nr ?_; intro U h; simp only [z0, z1] at h; subst h
      refine wpList_nil ?_
      refine then_n ?_
      refine wp_seq ?_
      refine wp_region_lit ?_
      refine s_val 10 rfl rfl (.int .i64 0) (rfl) ?_
      refine nr ?_; intro U h; simp only [z0, z1] at h; subst h
      refine wpList_nil ?_
      refine then_n ?_
      refine wp_seq ?_
      refine wp_seq ?_
      refine wp_region_opq ?_
      intro OPS hY
      have y3 := hY 3 39 rfl
      clear hY
      refine s_val 36 rfl rfl (.int .i64 z) (rfl) ?_
      refine nr ?_; intro U h; simp only [z0, z1] at h; subst h
      refine s_val 37 rfl rfl (.int .i64 ((k : Nat) : Int)) (rfl) ?_
      refine nr ?_; intro U h; simp only [z0, z1] at h; subst h
      refine s_val 38 rfl rfl (.bool true) (run_gtrT 2 _ _ _ rfl z ((k : Nat) : Int) rfl rfl true (by first | exact decide_eq_true (by omega) | exact decide_eq_false (by omega)) _) ?_
      refine nr ?_; intro U h; simp only [z0, z1] at h; subst h
      refine s_val 39 rfl rfl (.bool true) (rfl) ?_
      refine nr ?_; intro U h; simp only [z0, z1] at h; subst h
      refine s_gvalY 40 rfl rfl y3 rfl (.int .i64 z) (rfl) ?_
      refine nr ?_; intro U h; simp only [z0, z1] at h; subst h
      refine s_gvalY 41 rfl rfl y3 rfl (.int .i64 ((n : Nat) : Int)) (rfl) ?_
      refine nr ?_; intro U h; simp only [z0, z1] at h; subst h
      refine s_gvalY 42 rfl rfl y3 rfl (.bool false) (run_leqT 2 _ _ _ rfl z ((n : Nat) : Int) rfl rfl false (by first | exact decide_eq_true (by omega) | exact decide_eq_false (by omega)) _) ?_
      refine nr ?_; intro U h; simp only [z0, z1] at h; subst h
      refine s_val 43 rfl rfl (.bool false) (rfl) ?_
      refine nr ?_; intro U h; simp only [z0, z1] at h; subst h
      refine wpList_nil ?_
      refine then_n ?_
      refine wp_cond_false rfl ?_
      refine wp_skip ?_
      refine then_n ?_
      refine wp_seq ?_
      refine wp_region_lit ?_
      refine s_val 48 rfl rfl (.pointer (some ⟨p, 0, none⟩)) (rfl) ?_
      refine nr ?_; intro U h; simp only [z0, z1] at h; subst h
      refine s_val 49 rfl rfl (.int .i64 z) (rfl) ?_
      refine nr ?_; intro U h; simp only [z0, z1] at h; subst h
      refine s_callv 50 rfl rfl _ 11 Try.call11 rfl rfl _ rfl [.pointer (some ⟨p, 0, none⟩), .int .i64 z] rfl (acked_high _ p w.heap.size ro rc q k 0 HP (by omega) (by omega) z (by omega)) ?_
      intro w3 G
      replace HP := HP.gro G
      replace GG := GG.trans G
      clear G
      refine nr ?_; intro U h; simp only [z0, z1] at h; subst h
      refine s_val 51 rfl rfl (.int .i64 0) (rfl) ?_
      refine nr ?_; intro U h; simp only [z0, z1] at h; subst h
      refine s_val 52 rfl rfl (.bool false) (run_neq_k 2 .i64 _ _ _ rfl Try.underlying2 0 0 rfl rfl false (decide_eq_true rfl) _) ?_
      refine nr ?_; intro U h; simp only [z0, z1] at h; subst h
      refine wpList_nil ?_
      refine then_n ?_
      refine wp_cond_false rfl ?_
      refine wp_skip ?_
      refine blk_n ?_
      refine then_n ?_
      refine wp_region_lit ?_
      refine s_val 53 rfl rfl (.int .i64 ((e2 + 1 : Nat) : Int)) (run_addI 3 _ _ _ rfl ((e2 : Nat) : Int) 1 ((e2 + 1 : Nat) : Int) rfl rfl (by omega) (by omega) (by omega) _) ?_
      refine nr ?_; intro U h; simp only [z0, z1] at h; subst h
      refine s_val 32 rfl rfl (.int .i64 ((e2 + 1 : Nat) : Int)) (rfl) ?_
      refine nr ?_; intro U h; simp only [z0, z1] at h; subst h
      refine wpList_nil ?_
      refine then_n ?_
      exact ⟨_, (by omega : xs.length - (e2 + 1) < xs.length - e2), e2 + 1, ro, rc, q, k, (fun kz => ([us2 0, .int .i64 z, .int .i64 0, .bool true, .pointer (some (ad.add e2)), .int .i64 z, .int .i64 z, .int .i64 ((k : Nat) : Int), .bool true, .bool true, .int .i64 z, .int .i64 ((n : Nat) : Int), .bool false, .bool false, us2 14, us2 15, us2 16, us2 17, .pointer (some ⟨p, 0, none⟩), .int .i64 z, .int .i64 0, .int .i64 0, .bool false, .int .i64 ((e2 + 1 : Nat) : Int)] : List Value).getD kz undef), rfl, rfl, hjn, hkn, GG, HP⟩
    subst h3
    refine s_val 35 rfl rfl (.int .i64 ((k + m : Nat) : Int)) (run_ld2 _ rfl _ rfl _ (gro_cell GG hcl)) ?_
    refine nr ?_; intro U h; simp only [z0, z1] at h; subst h
    refine s_val 9 rfl rfl (.int .i64 ((k + m : Nat) : Int)) (rfl) ?_
    refine nr ?_; intro U h; simp only [z0, z1] at h; subst h
    refine wpList_nil ?_
    refine then_n ?_
    refine wp_seq ?_
    refine wp_region_lit ?_
    refine s_val 10 rfl rfl (.int .i64 0) (rfl) ?_
    refine nr ?_; intro U h; simp only [z0, z1] at h; subst h
    refine wpList_nil ?_
    refine then_n ?_
    refine wp_seq ?_
    refine wp_seq ?_
    refine wp_region_opq ?_
    intro OPS hY
    have y3 := hY 3 39 rfl
    clear hY
    refine s_val 36 rfl rfl (.int .i64 ((k + m : Nat) : Int)) (rfl) ?_
    refine nr ?_; intro U h; simp only [z0, z1] at h; subst h
    refine s_val 37 rfl rfl (.int .i64 ((k : Nat) : Int)) (rfl) ?_
    refine nr ?_; intro U h; simp only [z0, z1] at h; subst h
    refine s_val 38 rfl rfl (.bool true) (run_gtrT 2 _ _ _ rfl ((k + m : Nat) : Int) ((k : Nat) : Int) rfl rfl true (by first | exact decide_eq_true (by omega) | exact decide_eq_false (by omega)) _) ?_
    refine nr ?_; intro U h; simp only [z0, z1] at h; subst h
    refine s_val 39 rfl rfl (.bool true) (rfl) ?_
    refine nr ?_; intro U h; simp only [z0, z1] at h; subst h
    refine s_gvalY 40 rfl rfl y3 rfl (.int .i64 ((k + m : Nat) : Int)) (rfl) ?_
    refine nr ?_; intro U h; simp only [z0, z1] at h; subst h
    refine s_gvalY 41 rfl rfl y3 rfl (.int .i64 ((n : Nat) : Int)) (rfl) ?_
    refine nr ?_; intro U h; simp only [z0, z1] at h; subst h
    refine s_gvalY 42 rfl rfl y3 rfl (.bool true) (run_leqT 2 _ _ _ rfl ((k + m : Nat) : Int) ((n : Nat) : Int) rfl rfl true (by first | exact decide_eq_true (by omega) | exact decide_eq_false (by omega)) _) ?_
    refine nr ?_; intro U h; simp only [z0, z1] at h; subst h
    refine s_val 43 rfl rfl (.bool true) (rfl) ?_
    refine nr ?_; intro U h; simp only [z0, z1] at h; subst h
    refine wpList_nil ?_
    refine then_n ?_
    refine wp_cond_true rfl ?_
    refine wp_seq ?_
    refine wp_region_lit ?_
    refine s_val 44 rfl rfl (.int .i64 ((k + m : Nat) : Int)) (rfl) ?_
    refine nr ?_; intro U h; simp only [z0, z1] at h; subst h
    refine s_val 45 rfl rfl (.int .i64 ((k : Nat) : Int)) (rfl) ?_
    refine nr ?_; intro U h; simp only [z0, z1] at h; subst h
    refine s_val 46 rfl rfl (.int .i64 ((m : Nat) : Int)) (run_subI 2 _ _ _ rfl ((k + m : Nat) : Int) ((k : Nat) : Int) ((m : Nat) : Int) rfl rfl (by omega) (by omega) (by omega) _) ?_
    refine nr ?_; intro U h; simp only [z0, z1] at h; subst h
    refine s_val 10 rfl rfl (.int .i64 ((m : Nat) : Int)) (rfl) ?_
    refine nr ?_; intro U h; simp only [z0, z1] at h; subst h
    refine wpList_nil ?_
    refine then_n ?_
    refine wp_region_lit ?_
    refine s_val 47 rfl rfl (.int .i64 ((k + m : Nat) : Int)) (rfl) ?_
    refine nr ?_; intro U h; simp only [z0, z1] at h; subst h
    refine s_val 7 rfl rfl (.int .i64 ((k + m : Nat) : Int)) (rfl) ?_
    refine nr ?_; intro U h; simp only [z0, z1] at h; subst h
    refine wpList_nil ?_
    refine then_n ?_
    refine wp_seq ?_
    refine wp_region_lit ?_
    refine s_val 48 rfl rfl (.pointer (some ⟨p, 0, none⟩)) (rfl) ?_
    refine nr ?_; intro U h; simp only [z0, z1] at h; subst h
    refine s_val 49 rfl rfl (.int .i64 ((k + m : Nat) : Int)) (rfl) ?_
    refine nr ?_; intro U h; simp only [z0, z1] at h; subst h
    refine s_callx 50 rfl rfl _ 11 Try.call11 rfl rfl _ rfl [.pointer (some ⟨p, 0, none⟩), .int .i64 ((k + m : Nat) : Int)] rfl (acked_ok _ p w.heap.size ro rc q k 0 HP (by omega) (by omega) ((k + m : Nat) : Int) m hm1 hm2 rfl) (fun _ _ ⟨_, _, he, _⟩ => ⟨_, he⟩) ?_
    rintro v w3 ⟨a2, c2, he, G, HP2, hkp⟩
    cases he
    replace GG := G.gro GG HP.sb
    clear G HP hkp
    have HP := HP2
    clear HP2
    refine nr ?_; intro U h; simp only [z0, z1] at h; subst h
    refine s_val 51 rfl rfl (.int .i64 ((m : Nat) : Int)) (rfl) ?_
    refine nr ?_; intro U h; simp only [z0, z1] at h; subst h
    refine s_val 52 rfl rfl (.bool false) (run_neq_k 2 .i64 _ _ _ rfl Try.underlying2 ((m : Nat) : Int) ((m : Nat) : Int) rfl rfl false (decide_eq_true rfl) _) ?_
    refine nr ?_; intro U h; simp only [z0, z1] at h; subst h
    refine wpList_nil ?_
    refine then_n ?_
    refine wp_cond_false rfl ?_
    refine wp_skip ?_
    refine blk_n ?_
    refine then_n ?_
    refine wp_region_lit ?_
    refine s_val 53 rfl rfl (.int .i64 ((e2 + 1 : Nat) : Int)) (run_addI 3 _ _ _ rfl ((e2 : Nat) : Int) 1 ((e2 + 1 : Nat) : Int) rfl rfl (by omega) (by omega) (by omega) _) ?_
    refine nr ?_; intro U h; simp only [z0, z1] at h; subst h
    refine s_val 32 rfl rfl (.int .i64 ((e2 + 1 : Nat) : Int)) (rfl) ?_
    refine nr ?_; intro U h; simp only [z0, z1] at h; subst h
    refine wpList_nil ?_
    refine then_n ?_
    exact ⟨_, (by omega : xs.length - (e2 + 1) < xs.length - e2), e2 + 1, a2, c2, q.drop m, k + m, (fun kz => ([us2 0, .int .i64 ((k + m : Nat) : Int), .int .i64 ((m : Nat) : Int), .bool true, .pointer (some (ad.add e2)), .int .i64 ((k + m : Nat) : Int), .int .i64 ((k + m : Nat) : Int), .int .i64 ((k : Nat) : Int), .bool true, .bool true, .int .i64 ((k + m : Nat) : Int), .int .i64 ((n : Nat) : Int), .bool true, .bool true, .int .i64 ((k + m : Nat) : Int), .int .i64 ((k : Nat) : Int), .int .i64 ((m : Nat) : Int), .int .i64 ((k + m : Nat) : Int), .pointer (some ⟨p, 0, none⟩), .int .i64 ((k + m : Nat) : Int), .int .i64 ((m : Nat) : Int), .int .i64 ((m : Nat) : Int), .bool false, .int .i64 ((e2 + 1 : Nat) : Int)] : List Value).getD kz undef), rfl, rfl, hjn, (by rw [List.length_drop]; omega), GG, HP⟩
  have hjn : j < n := by have := of_decide_eq_true hp1; omega
  refine wpList_nil ?_
  refine then_n ?_
  refine wp_seq ?_
  refine wp_cond_true rfl ?_
  refine wp_skip ?_
  refine then_n ?_
  refine wp_seq ?_
  refine wp_block ?_
  refine wp_region_lit ?_
  refine s_val 27 rfl rfl (.pointer (some ⟨p, 0, none⟩)) (rfl) ?_
  refine nr ?_; intro U h; simp only [z0, z1] at h; subst h
  refine s_callx 28 rfl rfl _ 9 Try.call9 rfl rfl _ rfl [.pointer (some ⟨p, 0, none⟩), .slice none 0 0] rfl (send_ok _ p w.heap.size ro rc q 0 0 HP (by omega) (by omega) none 0 [] (NC.nil _ _) (fun ad ha => by cases ha) (by decide)) (fun _ _ ⟨_, _, _, he, _⟩ => ⟨_, he⟩) ?_
  rintro v w3 ⟨a2, c2, y, he, hy, G, HP2, HY, hkp⟩
  cases he
  replace GG := G.gro GG HP.sb
  clear G HP HY hkp
  have HP := HP2
  clear HP2
  refine nr ?_; intro U h; simp only [z0, z1] at h; subst h
  refine wpList_nil ?_
  refine blk_n ?_
  refine then_n ?_
  refine wp_region_lit ?_
  refine s_val 29 rfl rfl (.int .i64 ((j + 1 : Nat) : Int)) (run_addI 3 _ _ _ rfl ((j : Nat) : Int) 1 ((j + 1 : Nat) : Int) rfl rfl (by omega) (by omega) (by omega) _) ?_
  refine nr ?_; intro U h; simp only [z0, z1] at h; subst h
  refine s_val 25 rfl rfl (.int .i64 ((j + 1 : Nat) : Int)) (rfl) ?_
  refine nr ?_; intro U h; simp only [z0, z1] at h; subst h
  refine wpList_nil ?_
  refine then_n ?_
  exact ⟨_, (by omega : n - (j + 1) < n - j), j + 1, a2, c2, q ++ [y], (fun kz => ([.bool true, .pointer (some ⟨p, 0, none⟩), .tuple #[.int .i64 ((0 + (q ++ [y]).length : Nat) : Int), .int .i64 0], .int .i64 ((j + 1 : Nat) : Int)] : List Value).getD kz undef), rfl, rfl, hjn, (by rw [List.length_append, hqj]; rfl), GG, HP⟩
end Go.Proofs.Ythlfjbnfeclkmaa
