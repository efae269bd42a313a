/- The program's calls: who is wanted, sorted, next. -/
import Derived.Test.YtfabgonoonanfaaEI10
namespace Go.Proofs.Ytfabgonoonanfaa
open Go.RowKit
theorem insK_len (k : Nat → Nat) (x : Nat) (out : List Nat) : (insK k x out).length = out.length + 1 := by
  unfold insK
  have := congrArg List.length (List.takeWhile_append_dropWhile (p := fun y => decide (k y < k x)) (l := out))
  rw [List.length_append] at this
  rw [List.length_append, List.length_cons]
  omega
theorem fold_len (k : Nat → Nat) (wo : Nat) : ∀ (l out : List Nat), (l.foldl (linS k wo) out).length ≤ out.length + l.length
  | [], out => by simp
  | x :: r, out => by
    rw [List.foldl_cons, List.length_cons]
    have h1 := fold_len k wo r (linS k wo out x)
    have h2 : (linS k wo out x).length ≤ out.length + 1 := by
      unfold linS
      split
      · omega
      · rw [insK_len]; omega
    omega
theorem lin_len (k : Nat → Nat) (wo : Nat) (l : List Nat) : (lin k wo l).length ≤ l.length := by
  have := fold_len k wo l []
  simpa [lin] using this
theorem want_len (s : Nat) (l : List Nat) (half : Int) : (want s l half).length ≤ l.length := Nat.le_trans (List.length_filter_le _ _) (lin_len _ _ _)
theorem nearK_len (M : List Nat) (half : Int) : ∀ i, (nearK M half i).length ≤ i
  | 0 => Nat.le_refl _
  | i + 1 => by
    have := nearK_len M half i
    rw [nearK, List.length_append]
    split
    · simp; omega
    · simp; omega
theorem run_minIi {P : Program} {o : Oper} {A : Act} (x y : Operand) (ats : Array TypeId) (ho : o.op = .call { callee := .builtin .min, args := #[x, y], argTypes := ats }) (n m : Int) (hx : A.eval x = .int .i64 n) (hy : A.eval y = .int .i64 m) (w : World) : (execOp A.eval o).run P w = .ok (.value (.int .i64 (min n m))) w := by
  unfold execOp
  simp only [ho, hx, hy, List.map_toArray, List.map_cons, List.map_nil, resolve, invoke]
  simp [builtin, Builtin.min_, Builtin.min2, go_sem]
  omega
set_option maxRecDepth 100000 in
set_option maxHeartbeats 4000000 in
theorem sorted_any (w : World) (ao : Option Addr) (cap : Nat) (l : List Nat) (H : RC w ao cap l) (hl : l.length ≤ 1000000) (s : Nat) (hs : s < top) : Calls Try.prog 32 #[.agg (idA s), .slice ao l.length cap] w (RowPi w (lin (kc 0) s l)) := by
  refine s_enter Try.func32 rfl Try.ntmps32 [.agg (idA s), .slice ao l.length cap] [.agg (idA s), .slice ao l.length cap, undef, undef, undef, undef, undef, undef, undef] rfl ?_
  have GG := Gro.refl w
  refine wp_seq ?_
  refine wp_region_lit ?_
  refine s_box 2 rfl rfl 23 _ rfl _ rfl (idA s) rfl ?_
  intro w1 g1 G eg1 kg1
  have bg1 := size_base GG eg1
  replace GG := GG.trans G
  clear G
  clear eg1
  refine nr ?_; intro U h; simp only [z0, z1] at h; subst h
  refine s_val 4 rfl rfl (.slice none 0 0) (rfl) ?_
  refine nr ?_; intro U h; simp only [z0, z1] at h; subst h
  refine wpList_nil ?_
  refine then_n ?_
  refine wp_seq ?_
  refine wp_region_exA (A := ?Ax7) 3 [(0, 5), (1, 6), (2, 7)] [cloE 0, .val (.agg (idA s)), .val (.slice ao l.length cap)] follows (by kernel_rfl) rfl ?hAx7 (opsA_cons ?o0x7 (opsA_cons ?o1x7 (opsA_cons ?o2x7 opsA_nil))) ?restx7
  case hAx7 =>
    intro ptrs
    simp only [full, foldSlots, filledE, postE, List.foldl_cons, List.foldl_nil, List.getD_cons_zero, List.getD_cons_succ, fill_val, fill_cloE, List.set_cons_zero, List.set_cons_succ]
    exact rfl
  case o0x7 =>
    intro ptrs w' hw hE
    exact opE_call (cloE 0) rfl _ 47 Try.call47 rfl rfl _ rfl [] rfl ((rising_any _).mono fun e w' ⟨c, he, hg, hk⟩ => ⟨_, he, hg, c, rfl, hk⟩)
  case o1x7 => exact fun _ _ hw _ => opE_value (v := .agg (idA s)) rfl (run_ldB _ rfl g1 _ rfl (hw.has kg1))
  case o2x7 => exact fun _ _ _ _ => opE_move (v := .slice ao l.length cap) _ rfl rfl rfl
  intro ptrs w2 GD hxE
  simp only [List.drop_succ_cons, List.drop_zero]
  replace kg1 := GD.has kg1
  replace GG := GG.drew.trans GD
  obtain ⟨⟨c1, hx1, kc1⟩, _⟩ := hxE
  simp only [hx1]
  clear hx1
  clear GD
  refine s_callx 8 rfl rfl _ 46 Try.call46 rfl rfl _ rfl [.func (.func 57) #[] #[.pointer (some ⟨c1, 0, none⟩)], .agg (idA s), .slice ao l.length cap] rfl (lined_any _ 0 c1 s ao cap l top_0i hs kc1 (H.gro GG) hl) (by rintro _ _ ⟨_, _, he, _⟩; exact ⟨_, he⟩) ?_
  rintro v w3 ⟨ao2, cap2, he, G, HR2⟩
  cases he
  replace kg1 := G.has kg1
  replace kc1 := G.has kc1
  replace GG := GG.trans G
  clear G
  refine nr ?_; intro U h; simp only [z0, z1] at h; subst h
  refine s_val 4 rfl rfl (.slice ao2 ((lin (kc 0) s l).length) cap2) (rfl) ?_
  refine nr ?_; intro U h; simp only [z0, z1] at h; subst h
  refine wpList_nil ?_
  refine then_n ?_
  refine wp_ret ?_
  refine bodyPost_ret (results_tmp Try.results32 _ _ _) rfl ?_
  exact ⟨_, _, rfl, GG, HR2⟩
end Go.Proofs.Ytfabgonoonanfaa
