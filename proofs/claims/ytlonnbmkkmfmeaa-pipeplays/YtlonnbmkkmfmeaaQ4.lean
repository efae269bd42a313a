/- The chapter's example (fixed); a nil pipe; a pipe that is filled. -/
import Derived.Test.YtlonnbmkkmfmeaaQ3
namespace Go.Proofs.Ytlonnbmkkmfmeaa
open Go.RowKit

section
variable {ops : Array Oper} {rest : List Oper} {o o2 : Oper} {T : List Value} {ds : List Deferred} {w : World} {Q : Exit → Act → World → Prop}
/-- A constant text as bytes. -/
theorem s_constY (dst dst2 : Nat) (hd : o.dst = some dst) (hd2 : o2.dst = some dst2) (hg : o.guard = none) (hg2 : o2.guard = none) (l : List Nat) (pr : List (Nat × Operand)) (ho : o.op = .buildSlice 30 l.length pr.toArray) (vals : List (Nat × Value)) (hvl : (pr.map fun p => (p.1, (⟨T.toArray, ds⟩ : Act).eval p.2)) = vals)
    (hr : ∀ w, (Instr.buildSlice 30 l.length vals.toArray).run Try.prog w = .ok (.slice (some ⟨w.heap.size, 0, none⟩) l.length l.length) (w.alloc (.cells (bv l) 5)))
    (x : Operand) (ho2 : o2.op = .convert 30 30 x) (hx : ∀ g, (⟨(T.set dst (.slice (some ⟨g, 0, none⟩) l.length l.length)).toArray, ds⟩ : Act).eval x = .slice (some ⟨g, 0, none⟩) l.length l.length)
    (h : ∀ w' g, Gro w w' → w.heap.size = g → (∀ j, j < l.length → w'.cell? ⟨g, j, none⟩ = some (.int .u8 (l.getD j 0 : Int))) → wpList Try.prog ops Q rest ⟨((T.set dst (.slice (some ⟨g, 0, none⟩) l.length l.length)).set dst2 (.slice (some ⟨g, 0, none⟩) l.length l.length)).toArray, ds⟩ w') : wpList Try.prog ops Q (o :: o2 :: rest) ⟨T.toArray, ds⟩ w :=
  wpList_plain hg fun K hK => by
    have he := run_bsl (A := ⟨T.toArray, ds⟩) 30 l.length pr ho vals hvl (hr w)
    unfold Oper.wp
    rw [he, Oper.upon_value, hd, put_list]
    refine hK _ _ (wpList_plain hg2 fun K2 hK2 => ?_)
    have hc := Lib.run_convert_bytes_const (P := Try.prog) w 30 5 (bv l) l.length l.length Try.underlying30 Try.underlying5
    have he2 : (execOp (Act.eval ⟨(T.set dst (.slice (some ⟨w.heap.size, 0, none⟩) l.length l.length)).toArray, ds⟩) o2).run Try.prog (w.alloc (.cells (bv l) 5)) = .ok (.value (.slice (some ⟨w.heap.size, 0, none⟩) l.length l.length)) (w.alloc (.cells (bv l) 5 ((bv l).size, (bv l).size + 1))) := by
      unfold execOp
      simp only [ho2, hx, Sem.run_bind, hc, Result.andThen_ok, Sem.run_pure]
    unfold Oper.wp
    rw [he2, Oper.upon_value, hd2, put_list]
    refine hK2 _ _ (h _ _ (gro_alloc _ _) rfl fun j hj => ?_)
    have hb := heap_alloc_new w (.cells (bv l) 5 ((bv l).size, (bv l).size + 1))
    simp only [World.cell?, hb]
    exact bv_get l j hj
end
theorem PK.sb {t : TypeId} {w : World} {p B : Nat} {ao : Option Addr} {cap : Nat} {q : List RV} (H : PK t w p B ao cap q) : ∀ k ∈ p :: blk ao, B ≤ k := fun k hk => by
  rcases List.mem_cons.1 hk with rfl | hk
  · exact H.base
  · exact H.row.base k hk
theorem PK.new {w : World} {p B : Nat} {t : TypeId} (hp : w.heap[p]? = some (.cells #[.slice none 0 0] t (0, 0))) (hB : B ≤ p) (ht : t ≠ 30 ∧ t ≠ 5) : PK t w p B none 0 [] :=
  ⟨hp, OY.nil _ _ _ _, (fun _ h => by cases h), hB, (by simp), (fun _ h => by cases h), ht⟩
def K97 : List Nat := [97]
def K98 : List Nat := [98]
def K99 : List Nat := [99]
theorem uN4 : uN 4 % 3 = 1 := by decide
theorem uNm1 : uN (-1) % 2 = 1 := by decide
theorem uN0 (n : Nat) : uN 0 % n = 0 := by
  have : uN 0 = 0 := by decide
  rw [this, Nat.zero_mod]
theorem lc3 {w : World} {h a b c : Nat} {x y z : List Nat} (hh : w.heap[h]? = some (.cells #[.slice (some ⟨a, 0, none⟩) x.length x.length, .slice (some ⟨b, 0, none⟩) y.length y.length, .slice (some ⟨c, 0, none⟩) z.length z.length] 30 (0, 0))) (ha : NC w .u8 (some ⟨a, 0, none⟩) x.length x) (hb : NC w .u8 (some ⟨b, 0, none⟩) y.length y) (hc : NC w .u8 (some ⟨c, 0, none⟩) z.length z) : LC w (some ⟨h, 0, none⟩) 3 [x, y, z] := by
  refine ⟨Nat.le_refl _, fun e => by (cases e), fun ad hd j hj => ?_⟩
  cases hd
  rw [add_at, Nat.zero_add, cell_of_row w h j _ 30 _ hh]
  match j, hj with
  | 0, _ => exact ⟨_, _, rfl, ha⟩
  | 1, _ => exact ⟨_, _, rfl, hb⟩
  | 2, _ => exact ⟨_, _, rfl, hc⟩
  | n + 3, h => exact absurd h (by simp only [List.length_cons, List.length_nil]; omega)
set_option maxRecDepth 100000 in
set_option maxHeartbeats 4000000 in
theorem fixed_true (w : World) : Calls Try.prog 18 #[] w fun e w' => e = .returned (.bool true) ∧ Gro w w' := by
  refine s_enter Try.func18 rfl Try.ntmps18 [] [undef, undef, undef, undef, undef, undef, undef, undef, undef, undef, undef, undef, undef, undef, undef, undef, undef, undef, undef, undef, undef, undef, undef, undef, undef, undef, undef, undef, undef, undef, undef, undef, undef, undef, undef, undef, undef, undef, undef, undef, undef, undef, undef, undef, undef, undef, undef, undef, undef, undef, undef, undef, undef, undef, undef, undef, undef, undef] rfl ?_
  have GG := Gro.refl w
  refine wp_seq ?_
  refine wp_region_lit ?_
  refine s_val 0 rfl rfl (.bool false) (rfl) ?_
  refine nr ?_; intro U h; simp only [z0] at h; subst h
  refine wpList_nil ?_
  refine then_n ?_
  refine wp_seq ?_
  refine wp_region_lit ?_
  refine s_val 5 rfl rfl (.agg (c26 Sl.nil)) (run_bd 26 _ rfl [] rfl _ (by kernel_rfl)) ?_
  refine nr ?_; intro U h; simp only [z0, z1] at h; subst h
  refine s_box 6 rfl rfl 26 _ rfl _ rfl (c26 Sl.nil) rfl ?_
  intro w1 p G ep kp
  have bp := size_base GG ep
  clear ep
  replace GG := GG.trans G
  clear G
  have HP : PK 26 _ p w.heap.size none 0 [] := PK.new kp bp (by decide)
  clear kp
  refine nr ?_; intro U h; simp only [z0, z1] at h; subst h
  refine s_val 1 rfl rfl (.pointer (some ⟨p, 0, none⟩)) (rfl) ?_
  refine nr ?_; intro U h; simp only [z0, z1] at h; subst h
  refine wpList_nil ?_
  refine then_n ?_
  refine wp_seq ?_
  refine wp_region_opq ?_
  intro OPS hY
  have y4 := hY 4 11 rfl
  have y10 := hY 10 17 rfl
  clear hY
  refine s_val 7 rfl rfl (.pointer (some ⟨p, 0, none⟩)) (rfl) ?_
  refine nr ?_; intro U h; simp only [z0, z1] at h; subst h
  refine s_constY 8 9 rfl rfl rfl rfl K97 _ rfl [(0, .int .u8 97)] rfl (fun _ => by kernel_rfl) _ rfl (fun _ => rfl) ?_
  intro w2 ga G ega kga
  have ncga := nc_cells kga (by decide)
  have hnga : ga ∉ blk (none : Option Addr) := fun hm => by have := HP.row.lt _ hm; omega
  clear kga ega
  replace HP := HP.gro G
  replace GG := GG.trans G
  clear G
  refine nr ?_; intro U h; simp only [z0, z1] at h; subst h
  refine s_callx 10 rfl rfl _ 8 Try.call8 rfl rfl _ rfl [.pointer (some ⟨p, 0, none⟩), .slice (some ⟨ga, 0, none⟩) K97.length K97.length] rfl (put_ok _ p w.heap.size none 0 [] HP (by simp) (some ⟨ga, 0, none⟩) K97.length K97 ncga (fun ad ha _ hm => by cases ha; exact hnga hm) (by decide)) (fun _ _ ⟨_, _, _, he, _⟩ => ⟨_, he⟩) ?_
  rintro v w3 ⟨a1, c1, u1, he, hy1, G, HP2, HY1, hkp⟩
  cases he
  replace GG := G.gro GG HP.sb
  clear G HP hkp ncga HY1 hnga
  have HP : PK 26 _ p w.heap.size a1 c1 [u1] := HP2
  clear HP2
  refine nr ?_; intro U h; simp only [z0, z1] at h; subst h
  refine s_val 11 rfl rfl (.bool true) (rfl) ?_
  refine nr ?_; intro U h; simp only [z0, z1] at h; subst h
  refine s_gvalY 12 rfl rfl y4 rfl (.pointer (some ⟨p, 0, none⟩)) (rfl) ?_
  refine nr ?_; intro U h; simp only [z0, z1] at h; subst h
  refine s_gconstY 13 14 rfl rfl rfl rfl y4 rfl K98 _ rfl [(0, .int .u8 98)] rfl (fun _ => by kernel_rfl) _ rfl (fun _ => rfl) (fun _ => rfl) ?_
  intro w4 gb G egb kgb
  have ncgb := nc_cells kgb (by decide)
  have hngb : gb ∉ blk a1 := fun hm => by have := HP.row.lt _ hm; omega
  clear kgb egb
  replace HP := HP.gro G
  replace GG := GG.trans G
  clear G
  refine nr ?_; intro U h; simp only [z0, z1] at h; subst h
  refine s_gcallxY 15 rfl rfl y4 rfl _ 8 Try.call8 rfl rfl _ rfl [.pointer (some ⟨p, 0, none⟩), .slice (some ⟨gb, 0, none⟩) K98.length K98.length] rfl (put_ok _ p w.heap.size a1 c1 [u1] HP (by simp) (some ⟨gb, 0, none⟩) K98.length K98 ncgb (fun ad ha _ hm => by cases ha; exact hngb hm) (by decide)) (fun _ _ ⟨_, _, _, he, _⟩ => ⟨_, he⟩) ?_
  rintro v w5 ⟨a2, c2, u2, he, hy2, G, HP2, HY2, hkp⟩
  cases he
  replace GG := G.gro GG HP.sb
  clear G HP hkp ncgb HY2 hngb
  have HP : PK 26 _ p w.heap.size a2 c2 [u1, u2] := HP2
  clear HP2
  refine nr ?_; intro U h; simp only [z0, z1] at h; subst h
  refine s_val 16 rfl rfl (.bool true) (rfl) ?_
  refine nr ?_; intro U h; simp only [z0, z1] at h; subst h
  refine s_val 17 rfl rfl (.bool true) (rfl) ?_
  refine nr ?_; intro U h; simp only [z0, z1] at h; subst h
  refine s_gvalY 18 rfl rfl y10 rfl (.pointer (some ⟨p, 0, none⟩)) (rfl) ?_
  refine nr ?_; intro U h; simp only [z0, z1] at h; subst h
  refine s_gconstY 19 20 rfl rfl rfl rfl y10 rfl K99 _ rfl [(0, .int .u8 99)] rfl (fun _ => by kernel_rfl) _ rfl (fun _ => rfl) (fun _ => rfl) ?_
  intro w6 gc G egc kgc
  have ncgc := nc_cells kgc (by decide)
  have hngc : gc ∉ blk a2 := fun hm => by have := HP.row.lt _ hm; omega
  clear kgc egc
  replace HP := HP.gro G
  replace GG := GG.trans G
  clear G
  refine nr ?_; intro U h; simp only [z0, z1] at h; subst h
  refine s_gcallxY 21 rfl rfl y10 rfl _ 8 Try.call8 rfl rfl _ rfl [.pointer (some ⟨p, 0, none⟩), .slice (some ⟨gc, 0, none⟩) K99.length K99.length] rfl (put_ok _ p w.heap.size a2 c2 [u1, u2] HP (by simp) (some ⟨gc, 0, none⟩) K99.length K99 ncgc (fun ad ha _ hm => by cases ha; exact hngc hm) (by decide)) (fun _ _ ⟨_, _, _, he, _⟩ => ⟨_, he⟩) ?_
  rintro v w7 ⟨a3, c3, u3, he, hy3, G, HP2, HY3, hkp⟩
  cases he
  replace GG := G.gro GG HP.sb
  clear G HP hkp ncgc HY3 hngc
  have HP : PK 26 _ p w.heap.size a3 c3 [u1, u2, u3] := HP2
  clear HP2
  refine nr ?_; intro U h; simp only [z0, z1] at h; subst h
  refine s_val 22 rfl rfl (.bool true) (rfl) ?_
  refine nr ?_; intro U h; simp only [z0, z1] at h; subst h
  refine s_val 2 rfl rfl (.bool true) (rfl) ?_
  refine nr ?_; intro U h; simp only [z0, z1] at h; subst h
  refine wpList_nil ?_
  refine then_n ?_
  refine wp_seq ?_
  refine wp_region_lit ?_
  refine s_val 24 rfl rfl (.pointer (some ⟨p, 0, none⟩)) (rfl) ?_
  refine nr ?_; intro U h; simp only [z0, z1] at h; subst h
  refine s_callx 25 rfl rfl _ 10 Try.call10 rfl rfl _ rfl [.pointer (some ⟨p, 0, none⟩), .int .i64 4] rfl (take_ok _ p w.heap.size a3 c3 [u1, u2, u3] HP 4 1 uN4 u2 rfl) (fun _ _ ⟨_, _, _, he, _⟩ => ⟨_, he⟩) ?_
  rintro v w8 ⟨gt, a4, c4, he, G, bgt, kgt, HP2, hkp⟩
  cases he
  replace bgt := Nat.le_trans GG.size bgt
  replace GG := G.gro GG (by simpa using bp)
  have HP3 : PK 26 _ p w.heap.size a4 c4 [u1, u3] := HP2
  clear G HP HP2 hkp
  have HP := HP3
  clear HP3
  have nct := nc_all kgt (by rw [hy2]; decide)
  rw [hy2] at nct
  simp only [hy2]
  clear kgt
  refine nr ?_; intro U h; simp only [z0, z1] at h; subst h
  refine s_val 23 rfl rfl (.tuple #[.slice (some ⟨gt, 0, none⟩) K98.length K98.length, .bool true]) (rfl) ?_
  refine nr ?_; intro U h; simp only [z0, z1] at h; subst h
  refine s_val 26 rfl rfl (.slice (some ⟨gt, 0, none⟩) K98.length K98.length) (rfl) ?_
  refine nr ?_; intro U h; simp only [z0, z1] at h; subst h
  refine s_val 27 rfl rfl (.bool true) (rfl) ?_
  refine nr ?_; intro U h; simp only [z0, z1] at h; subst h
  refine s_val 3 rfl rfl (.slice (some ⟨gt, 0, none⟩) K98.length K98.length) (rfl) ?_
  refine nr ?_; intro U h; simp only [z0, z1] at h; subst h
  refine s_val 4 rfl rfl (.bool true) (rfl) ?_
  refine nr ?_; intro U h; simp only [z0, z1] at h; subst h
  refine wpList_nil ?_
  refine then_n ?_
  refine wp_seq ?_
  refine wp_region_opq ?_
  intro OPS hY
  have y1 := hY 1 29 rfl
  have y4 := hY 4 32 rfl
  have y9 := hY 9 37 rfl
  have y13 := hY 13 41 rfl
  have y25 := hY 25 53 rfl
  clear hY
  refine s_val 28 rfl rfl (.bool true) (rfl) ?_
  refine nr ?_; intro U h; simp only [z0, z1] at h; subst h
  refine s_val 29 rfl rfl (.bool true) (rfl) ?_
  refine nr ?_; intro U h; simp only [z0, z1] at h; subst h
  refine s_gvalY 30 rfl rfl y1 rfl (.bool true) (rfl) ?_
  refine nr ?_; intro U h; simp only [z0, z1] at h; subst h
  refine s_val 31 rfl rfl (.bool true) (rfl) ?_
  refine nr ?_; intro U h; simp only [z0, z1] at h; subst h
  refine s_val 32 rfl rfl (.bool true) (rfl) ?_
  refine nr ?_; intro U h; simp only [z0, z1] at h; subst h
  refine s_gvalY 33 rfl rfl y4 rfl (.slice (some ⟨gt, 0, none⟩) K98.length K98.length) (rfl) ?_
  refine nr ?_; intro U h; simp only [z0, z1] at h; subst h
  refine s_gvalY 34 rfl rfl y4 rfl (.string (bas K98)) (run_text_op bT 9 Try.underlying9 _ rfl (l := K98) rfl nct) ?_
  refine nr ?_; intro U h; simp only [z0, z1] at h; subst h
  refine s_gvalY 35 rfl rfl y4 rfl (.bool true) (run_eqs_op _ _ _ rfl (bas K98) (bas K98) rfl (by kernel_rfl) true (decide_eq_true rfl) _) ?_
  refine nr ?_; intro U h; simp only [z0, z1] at h; subst h
  refine s_val 36 rfl rfl (.bool true) (rfl) ?_
  refine nr ?_; intro U h; simp only [z0, z1] at h; subst h
  refine s_val 37 rfl rfl (.bool true) (rfl) ?_
  refine nr ?_; intro U h; simp only [z0, z1] at h; subst h
  refine s_gvalY 38 rfl rfl y9 rfl (.pointer (some ⟨p, 0, none⟩)) (rfl) ?_
  refine nr ?_; intro U h; simp only [z0, z1] at h; subst h
  have HX := twice_ok _ p w.heap.size a4 c4 [u1, u3] HP (-1) 1 uNm1 u3 rfl (by simp)
  refine s_gcallxY 39 rfl rfl y9 rfl _ 12 Try.call12 rfl rfl _ rfl [.pointer (some ⟨p, 0, none⟩), .int .i64 (-1)] rfl (HX) (fun _ _ ⟨_, _, _, he, _⟩ => ⟨_, he⟩) ?_
  rintro v w9 ⟨a5, c5, u5, he, hy5, G, HP2, HY5, hkp⟩
  cases he
  replace GG := G.gro GG HP.sb
  have HP3 : PK 26 _ p w.heap.size a5 c5 [u1, u3, u5] := HP2
  clear G HP HP2 hkp HY5 HX nct
  have HP := HP3
  clear HP3
  refine nr ?_; intro U h; simp only [z0, z1] at h; subst h
  refine s_val 40 rfl rfl (.bool true) (rfl) ?_
  refine nr ?_; intro U h; simp only [z0, z1] at h; subst h
  refine s_val 41 rfl rfl (.bool true) (rfl) ?_
  refine nr ?_; intro U h; simp only [z0, z1] at h; subst h
  refine s_gvalY 42 rfl rfl y13 rfl (.pointer (some ⟨p, 0, none⟩)) (rfl) ?_
  refine nr ?_; intro U h; simp only [z0, z1] at h; subst h
  refine s_gcallxY 43 rfl rfl y13 rfl _ 15 Try.call15 rfl rfl _ rfl [.pointer (some ⟨p, 0, none⟩)] rfl (all_any _ p w.heap.size a5 c5 [u1, u3, u5] HP) (fun _ _ ⟨_, _, he, _⟩ => ⟨_, he⟩) ?_
  rintro v w10 ⟨gl, r, he, G, hr, HL⟩
  cases he
  have hr2 : r.map (·.2) = [K97, K99, K99] := by rw [hr]; simp [hy1, hy3, hy5]
  have hrl : r.length = 3 := by have := congrArg List.length hr2; simpa using this
  replace HP := HP.gro G
  replace GG := GG.trans G
  clear G
  simp only [hrl]
  refine nr ?_; intro U h; simp only [z0, z1] at h; subst h
  refine s_gconstY 44 45 rfl rfl rfl rfl y13 rfl K97 _ rfl [(0, .int .u8 97)] rfl (fun _ => by kernel_rfl) _ rfl (fun _ => rfl) (fun _ => rfl) ?_
  intro w11 gd G egd kgd
  have ncgd := nc_cells kgd (by decide)
  clear kgd egd
  replace HP := HP.gro G
  replace HL := HL.gro G
  replace GG := GG.trans G
  clear G
  refine nr ?_; intro U h; simp only [z0, z1] at h; subst h
  refine s_gconstY 46 47 rfl rfl rfl rfl y13 rfl K99 _ rfl [(0, .int .u8 99)] rfl (fun _ => by kernel_rfl) _ rfl (fun _ => rfl) (fun _ => rfl) ?_
  intro w12 ge G ege kge
  have ncge := nc_cells kge (by decide)
  clear kge ege
  replace HP := HP.gro G
  replace HL := HL.gro G
  replace ncgd := ncgd.gro G
  replace GG := GG.trans G
  clear G
  refine nr ?_; intro U h; simp only [z0, z1] at h; subst h
  refine s_gconstY 48 49 rfl rfl rfl rfl y13 rfl K99 _ rfl [(0, .int .u8 99)] rfl (fun _ => by kernel_rfl) _ rfl (fun _ => rfl) (fun _ => rfl) ?_
  intro w13 gf G egf kgf
  have ncgf := nc_cells kgf (by decide)
  clear kgf egf
  replace HP := HP.gro G
  replace HL := HL.gro G
  replace ncgd := ncgd.gro G
  replace ncge := ncge.gro G
  replace GG := GG.trans G
  clear G
  refine nr ?_; intro U h; simp only [z0, z1] at h; subst h
  refine s_gbslY 50 rfl rfl y13 rfl 24 3 _ rfl [(0, .slice (some ⟨gd, 0, none⟩) K97.length K97.length), (1, .slice (some ⟨ge, 0, none⟩) K99.length K99.length), (2, .slice (some ⟨gf, 0, none⟩) K99.length K99.length)] rfl #[.slice (some ⟨gd, 0, none⟩) K97.length K97.length, .slice (some ⟨ge, 0, none⟩) K99.length K99.length, .slice (some ⟨gf, 0, none⟩) K99.length K99.length] 30 (by kernel_rfl) ?_
  intro w14 gB G eB kgB
  clear eB
  replace HP := HP.gro G
  replace HL := HL.gro G
  replace ncgd := ncgd.gro G
  replace ncge := ncge.gro G
  replace ncgf := ncgf.gro G
  replace GG := GG.trans G
  clear G
  refine nr ?_; intro U h; simp only [z0, z1] at h; subst h
  have HC := sameAll_t _ (some ⟨gl, 0, none⟩) r.length _ HL.lc (some ⟨gB, 0, none⟩) 3 _ (lc3 kgB ncgd ncge ncgf) 3 3 (by rw [List.length_map]; exact hrl) rfl (by decide) hr2
  rw [hrl] at HC
  refine s_gcallvY 51 rfl rfl y13 rfl _ 16 Try.call16 rfl rfl _ rfl [.slice (some ⟨gl, 0, none⟩) 3 3, .slice (some ⟨gB, 0, none⟩) 3 3] rfl (HC) ?_
  intro w15 G
  replace HP := HP.gro G
  replace HL := HL.gro G
  replace ncgd := ncgd.gro G
  replace ncge := ncge.gro G
  replace ncgf := ncgf.gro G
  replace GG := GG.trans G
  clear G
  refine nr ?_; intro U h; simp only [z0, z1] at h; subst h
  clear HC
  refine s_val 52 rfl rfl (.bool true) (rfl) ?_
  refine nr ?_; intro U h; simp only [z0, z1] at h; subst h
  refine s_val 53 rfl rfl (.bool true) (rfl) ?_
  refine nr ?_; intro U h; simp only [z0, z1] at h; subst h
  refine s_gvalY 54 rfl rfl y25 rfl (.pointer (some ⟨p, 0, none⟩)) (rfl) ?_
  refine nr ?_; intro U h; simp only [z0, z1] at h; subst h
  refine s_gcallvY 55 rfl rfl y25 rfl _ 17 Try.call17 rfl rfl _ rfl [.pointer (some ⟨p, 0, none⟩)] rfl (len_any _ p w.heap.size a5 c5 [u1, u3, u5] HP) ?_
  intro w16 G
  replace HP := HP.gro G
  replace HL := HL.gro G
  replace ncgd := ncgd.gro G
  replace ncge := ncge.gro G
  replace ncgf := ncgf.gro G
  replace GG := GG.trans G
  clear G
  refine nr ?_; intro U h; simp only [z0, z1] at h; subst h
  refine s_gvalY 56 rfl rfl y25 rfl (.bool true) (run_eq_k 3 .i64 _ _ _ rfl Try.underlying3 3 3 rfl rfl true rfl _) ?_
  refine nr ?_; intro U h; simp only [z0, z1] at h; subst h
  refine s_val 57 rfl rfl (.bool true) (rfl) ?_
  refine nr ?_; intro U h; simp only [z0, z1] at h; subst h
  refine s_val 0 rfl rfl (.bool true) (rfl) ?_
  refine nr ?_; intro U h; simp only [z0] at h; subst h
  refine wpList_nil ?_
  refine then_n ?_
  refine wp_ret ?_
  refine bodyPost_ret (results_tmp Try.results18 _ _ _) rfl ?_
  exact ⟨rfl, GG⟩
set_option maxRecDepth 100000 in
set_option maxHeartbeats 4000000 in
theorem pipeNil_any (w : World) (ao : Option Addr) (cap : Nat) (l : List Nat) (i : Int) : Calls Try.prog 6 #[.slice ao l.length cap, .int .i64 i] w fun e w' => e = .returned (.bool true) ∧ Gro w w' := by
  refine s_enter Try.func6 rfl Try.ntmps6 [.slice ao l.length cap, .int .i64 i] [.slice ao l.length cap, .int .i64 i, undef, undef, undef, undef, undef, undef, undef, undef, undef, undef, undef, undef, undef, undef, undef, undef, undef, undef, undef, undef, undef, undef, undef, undef, undef, undef, undef, undef, undef, undef, undef, undef, undef, undef, undef, undef, undef, undef, undef, undef, undef, undef, undef, undef, undef, undef, undef, undef, undef, undef] rfl ?_
  have GG := Gro.refl w
  refine wp_seq ?_
  refine wp_region_lit ?_
  refine s_val 4 rfl rfl (.bool false) (rfl) ?_
  refine nr ?_; intro U h; simp only [z0, z1] at h; subst h
  refine wpList_nil ?_
  refine then_n ?_
  refine wp_seq ?_
  refine wp_region_lit ?_
  refine s_val 5 rfl rfl (.pointer none) (rfl) ?_
  refine nr ?_; intro U h; simp only [z0, z1] at h; subst h
  refine wpList_nil ?_
  refine then_n ?_
  refine wp_seq ?_
  refine wp_region_lit ?_
  refine s_val 9 rfl rfl (.pointer none) (rfl) ?_
  refine nr ?_; intro U h; simp only [z0, z1] at h; subst h
  refine s_val 10 rfl rfl (.int .i64 i) (rfl) ?_
  refine nr ?_; intro U h; simp only [z0, z1] at h; subst h
  refine s_callv 11 rfl rfl _ 10 Try.call10 rfl rfl _ rfl [.pointer none, .int .i64 i] rfl (take_nil _ i) ?_
  intro w1 G
  replace GG := GG.trans G
  clear G
  refine nr ?_; intro U h; simp only [z0, z1] at h; subst h
  refine s_val 8 rfl rfl (.tuple #[.slice none 0 0, .bool false]) (rfl) ?_
  refine nr ?_; intro U h; simp only [z0, z1] at h; subst h
  refine s_val 12 rfl rfl (.slice none 0 0) (rfl) ?_
  refine nr ?_; intro U h; simp only [z0, z1] at h; subst h
  refine s_val 13 rfl rfl (.bool false) (rfl) ?_
  refine nr ?_; intro U h; simp only [z0, z1] at h; subst h
  refine s_val 6 rfl rfl (.slice none 0 0) (rfl) ?_
  refine nr ?_; intro U h; simp only [z0, z1] at h; subst h
  refine s_val 7 rfl rfl (.bool false) (rfl) ?_
  refine nr ?_; intro U h; simp only [z0, z1] at h; subst h
  refine wpList_nil ?_
  refine then_n ?_
  refine wp_seq ?_
  refine wp_region_opq ?_
  intro OPS hY
  have y1 := hY 1 15 rfl
  have y7 := hY 7 21 rfl
  have y11 := hY 11 25 rfl
  have y16 := hY 16 30 rfl
  have y22 := hY 22 36 rfl
  have y27 := hY 27 41 rfl
  have y32 := hY 32 46 rfl
  clear hY
  refine s_callv 14 rfl rfl _ 18 Try.call18 rfl rfl _ rfl [] rfl (fixed_true _) ?_
  intro w2 G
  replace GG := GG.trans G
  clear G
  refine nr ?_; intro U h; simp only [z0, z1] at h; subst h
  refine s_val 15 rfl rfl (.bool true) (rfl) ?_
  refine nr ?_; intro U h; simp only [z0, z1] at h; subst h
  refine s_gvalY 16 rfl rfl y1 rfl (.pointer none) (rfl) ?_
  refine nr ?_; intro U h; simp only [z0, z1] at h; subst h
  refine s_gvalY 17 rfl rfl y1 rfl (.slice ao l.length cap) (rfl) ?_
  refine nr ?_; intro U h; simp only [z0, z1] at h; subst h
  refine s_gcallvY 18 rfl rfl y1 rfl _ 8 Try.call8 rfl rfl _ rfl [.pointer none, .slice ao l.length cap] rfl (put_nil _ ao cap l) ?_
  intro w3 G
  replace GG := GG.trans G
  clear G
  refine nr ?_; intro U h; simp only [z0, z1] at h; subst h
  refine s_gvalY 19 rfl rfl y1 rfl (.bool true) (run_nt _ _ rfl false rfl) ?_
  refine nr ?_; intro U h; simp only [z0, z1] at h; subst h
  refine s_val 20 rfl rfl (.bool true) (rfl) ?_
  refine nr ?_; intro U h; simp only [z0, z1] at h; subst h
  refine s_val 21 rfl rfl (.bool true) (rfl) ?_
  refine nr ?_; intro U h; simp only [z0, z1] at h; subst h
  refine s_gvalY 22 rfl rfl y7 rfl (.bool false) (rfl) ?_
  refine nr ?_; intro U h; simp only [z0, z1] at h; subst h
  refine s_gvalY 23 rfl rfl y7 rfl (.bool true) (run_nt _ _ rfl false rfl) ?_
  refine nr ?_; intro U h; simp only [z0, z1] at h; subst h
  refine s_val 24 rfl rfl (.bool true) (rfl) ?_
  refine nr ?_; intro U h; simp only [z0, z1] at h; subst h
  refine s_val 25 rfl rfl (.bool true) (rfl) ?_
  refine nr ?_; intro U h; simp only [z0, z1] at h; subst h
  refine s_gvalY 26 rfl rfl y11 rfl (.slice none 0 0) (rfl) ?_
  refine nr ?_; intro U h; simp only [z0, z1] at h; subst h
  refine s_gvalY 27 rfl rfl y11 rfl (.int .i64 0) (run_len Try.underlying30 _ rfl _ _ _ rfl _) ?_
  refine nr ?_; intro U h; simp only [z0, z1] at h; subst h
  refine s_gvalY 28 rfl rfl y11 rfl (.bool true) (run_eq_k 3 .i64 _ _ _ rfl Try.underlying3 _ _ rfl rfl true rfl _) ?_
  refine nr ?_; intro U h; simp only [z0, z1] at h; subst h
  refine s_val 29 rfl rfl (.bool true) (rfl) ?_
  refine nr ?_; intro U h; simp only [z0, z1] at h; subst h
  refine s_val 30 rfl rfl (.bool true) (rfl) ?_
  refine nr ?_; intro U h; simp only [z0, z1] at h; subst h
  refine s_gvalY 31 rfl rfl y16 rfl (.pointer none) (rfl) ?_
  refine nr ?_; intro U h; simp only [z0, z1] at h; subst h
  refine s_gvalY 32 rfl rfl y16 rfl (.int .i64 i) (rfl) ?_
  refine nr ?_; intro U h; simp only [z0, z1] at h; subst h
  refine s_gcallvY 33 rfl rfl y16 rfl _ 12 Try.call12 rfl rfl _ rfl [.pointer none, .int .i64 i] rfl (twice_nil _ i) ?_
  intro w4 G
  replace GG := GG.trans G
  clear G
  refine nr ?_; intro U h; simp only [z0, z1] at h; subst h
  refine s_gvalY 34 rfl rfl y16 rfl (.bool true) (run_nt _ _ rfl false rfl) ?_
  refine nr ?_; intro U h; simp only [z0, z1] at h; subst h
  refine s_val 35 rfl rfl (.bool true) (rfl) ?_
  refine nr ?_; intro U h; simp only [z0, z1] at h; subst h
  refine s_val 36 rfl rfl (.bool true) (rfl) ?_
  refine nr ?_; intro U h; simp only [z0, z1] at h; subst h
  refine s_gvalY 37 rfl rfl y22 rfl (.pointer none) (rfl) ?_
  refine nr ?_; intro U h; simp only [z0, z1] at h; subst h
  refine s_gcallvY 38 rfl rfl y22 rfl _ 14 Try.call14 rfl rfl _ rfl [.pointer none] rfl (fall_nil _) ?_
  intro w5 G
  replace GG := GG.trans G
  clear G
  refine nr ?_; intro U h; simp only [z0, z1] at h; subst h
  refine s_gvalY 39 rfl rfl y22 rfl (.bool true) (run_eq_k 3 .i64 _ _ _ rfl Try.underlying3 _ _ rfl rfl true rfl _) ?_
  refine nr ?_; intro U h; simp only [z0, z1] at h; subst h
  refine s_val 40 rfl rfl (.bool true) (rfl) ?_
  refine nr ?_; intro U h; simp only [z0, z1] at h; subst h
  refine s_val 41 rfl rfl (.bool true) (rfl) ?_
  refine nr ?_; intro U h; simp only [z0, z1] at h; subst h
  refine s_gvalY 42 rfl rfl y27 rfl (.pointer none) (rfl) ?_
  refine nr ?_; intro U h; simp only [z0, z1] at h; subst h
  refine s_gcallvY 43 rfl rfl y27 rfl _ 17 Try.call17 rfl rfl _ rfl [.pointer none] rfl (len_nil _) ?_
  intro w6 G
  replace GG := GG.trans G
  clear G
  refine nr ?_; intro U h; simp only [z0, z1] at h; subst h
  refine s_gvalY 44 rfl rfl y27 rfl (.bool true) (run_eq_k 3 .i64 _ _ _ rfl Try.underlying3 _ _ rfl rfl true rfl _) ?_
  refine nr ?_; intro U h; simp only [z0, z1] at h; subst h
  refine s_val 45 rfl rfl (.bool true) (rfl) ?_
  refine nr ?_; intro U h; simp only [z0, z1] at h; subst h
  refine s_val 46 rfl rfl (.bool true) (rfl) ?_
  refine nr ?_; intro U h; simp only [z0, z1] at h; subst h
  refine s_gvalY 47 rfl rfl y32 rfl (.pointer none) (rfl) ?_
  refine nr ?_; intro U h; simp only [z0, z1] at h; subst h
  refine s_gcallxY 48 rfl rfl y32 rfl _ 15 Try.call15 rfl rfl _ rfl [.pointer none] rfl (all_nil _) (fun _ _ ⟨_, he, _⟩ => ⟨_, he⟩) ?_
  rintro v w7 ⟨g, he, G⟩
  cases he
  replace GG := GG.trans G
  clear G
  refine nr ?_; intro U h; simp only [z0, z1] at h; subst h
  refine s_gvalY 49 rfl rfl y32 rfl (.int .i64 0) (run_len Try.underlying24 _ rfl _ _ _ rfl _) ?_
  refine nr ?_; intro U h; simp only [z0, z1] at h; subst h
  refine s_gvalY 50 rfl rfl y32 rfl (.bool true) (run_eq_k 3 .i64 _ _ _ rfl Try.underlying3 _ _ rfl rfl true rfl _) ?_
  refine nr ?_; intro U h; simp only [z0, z1] at h; subst h
  refine s_val 51 rfl rfl (.bool true) (rfl) ?_
  refine nr ?_; intro U h; simp only [z0, z1] at h; subst h
  refine s_val 4 rfl rfl (.bool true) (rfl) ?_
  refine nr ?_; intro U h; simp only [z0, z1] at h; subst h
  refine wpList_nil ?_
  refine then_n ?_
  refine wp_ret ?_
  refine bodyPost_ret (results_tmp Try.results6 _ _ _) rfl ?_
  exact ⟨rfl, GG⟩
end Go.Proofs.Ytlonnbmkkmfmeaa
