/- The chapter's examples; copies told by their own row. -/
import Derived.Test.YtkckjkimjeakcabI11
import Derived.Test.YtkckjkimjeakcabI3
import Derived.Test.YtkckjkimjeakcabLaw10
namespace Go.Proofs.Ytkckjkimjeakcab
open Go.RowKit

theorem nxt_12 : nxt 12 [1, 4, 9, 12] = some 1 := by decide +kernel
theorem want_41 : want 4 [1, 4, 9, 12] 1 = [1, 9] := by decide +kernel
theorem want_121 : want 12 [1, 4, 9, 12] 1 = [1, 9] := by decide +kernel
theorem want_42 : want 4 [1, 4, 9, 12] 2 = [1, 9, 12] := by decide +kernel
theorem Calls.valV {P : Program} {f : FuncId} {args : Array Value} {w : World} {u v : Value} (h : Calls P f args w fun e w' => e = .returned u ∧ Gro w w') (e : u = v) : Calls P f args w fun e w' => e = .returned v ∧ Gro w w' := e ▸ h
theorem OI.mono {w : World} {B B' : Nat} {ao : Option Addr} {cap : Nat} {l : List Nat} (h : OI w B ao cap l) (hB : B' ≤ B) : OI w B' ao cap l := ⟨h.own.mono hB, h.all⟩
def ownI (B : Nat) (L : List Nat) : PostE := PostE.ex (fun v x => ∃ ao cap, v = .slice ao L.length cap ∧ OI x B ao cap L) (fun _ _ _ G ⟨a, c, h1, h2⟩ => ⟨a, c, h1, h2.gro G⟩)
theorem fill_ownI (B : Nat) (L : List Nat) (v : Value) : (ownI B L).fill v = v := rfl
def SZ (B : Nat) (w : World) : Prop := B ≤ w.heap.size
theorem SZ.gro {B : Nat} {w w' : World} (h : SZ B w) (G : Gro w w') : SZ B w' := Nat.le_trans h G.size
theorem RC.takeN {w : World} {ao : Option Addr} {cap : Nat} {l : List Nat} (h : RC w ao cap l) (m : Nat) : RC w ao (l.take m).length (l.take m) := by
  by_cases hm : m ≤ l.length
  · exact (h.take m hm).tight
  · rw [List.take_of_length_le (by omega)]
    exact h.tight
/-- Onto a row of one's own, in a region that draws. -/
theorem opX_apI {ops : Array Oper} {o : Oper} {A : Act} {w : World} {R : World → Prop} (kk : PostE) (hw : Region.wanted o (yielded ops A.tmps) = true) (s x : Operand) (ho : o.op = .call { callee := .builtin .append, args := #[s, x], argTypes := #[22, 22] }) {B : Nat} {ao : Option Addr} {cap : Nat} {l : List Nat} (hs : A.eval s = .slice ao l.length cap) (hown : OI w B ao cap l)
    {ao' : Option Addr} {cap' : Nat} {l' : List Nat} (hx : A.eval x = .slice ao' l'.length cap') (hsrc : RC w ao' cap' l') (hb : l.length + l'.length ≤ 1000000) (hB : B ≤ w.heap.size)
    (H : ∀ ao2 cap2 w', RC w' ao2 cap2 (l ++ l') → GroS (blk ao) w w' → (∀ k ∈ blk ao, B ≤ k) → R w' ∧ kk.p (.slice ao2 (l ++ l').length cap2) w') : OpX Try.prog ops R kk o A w := by
  have hY := hown.own.oy
  obtain ⟨ao2, cap2, w', hr, h1, h2, _, _⟩ := run_appY rI o.type w hY hsrc.xc (by omega) (by decide) hB
  rw [← fl_app, ← List.length_append] at h1
  rw [← List.length_append] at hr
  exact ⟨hw, by rw [exec_app s x ho hs hx hr]; exact H ao2 cap2 w' ⟨h1.xc, fun x hx => (List.mem_append.1 hx).elim (hown.all x) (hsrc.all x)⟩ h2 hY.base⟩
set_option maxRecDepth 100000 in
set_option maxHeartbeats 4000000 in
theorem fixed_any (w : World) : Calls Try.prog 8 #[] w (fun e w' => e = .returned (.bool true) ∧ Gro w w') := by
  refine s_enter Try.func8 rfl Try.ntmps8 [] [undef, undef, undef, undef, undef, undef, undef, undef, undef, undef, undef, undef, undef, undef, undef, undef, undef, undef, undef, undef, undef, undef, undef, undef, undef, undef, undef, undef, undef, undef, undef, undef, undef, undef, undef, undef, undef, undef, undef, undef, undef, undef, undef, undef, undef, undef, undef, undef, undef, undef, undef, undef, undef, undef, undef, undef, undef, undef, undef, undef] rfl ?_
  have GG := Gro.refl w
  refine wp_seq ?_
  refine wp_region_lit ?_
  refine s_val 0 rfl rfl (.bool false) (rfl) ?_
  refine nr ?_; intro U h; simp only [z0] at h; subst h
  refine wpList_nil ?_
  refine then_n ?_
  refine wp_seq ?_
  refine wp_region_lit ?_
  refine s_callv 4 rfl rfl _ 13 Try.call13 rfl rfl _ rfl [.int .u8 1] rfl (n_any _ 1 (by decide)) ?_
  intro w1 G
  replace GG := GG.trans G
  clear G
  refine nr ?_; intro U h; simp only [z0, z1] at h; subst h
  refine s_callv 5 rfl rfl _ 13 Try.call13 rfl rfl _ rfl [.int .u8 4] rfl (n_any _ 4 (by decide)) ?_
  intro w2 G
  replace GG := GG.trans G
  clear G
  refine nr ?_; intro U h; simp only [z0, z1] at h; subst h
  refine s_callv 6 rfl rfl _ 13 Try.call13 rfl rfl _ rfl [.int .u8 9] rfl (n_any _ 9 (by decide)) ?_
  intro w3 G
  replace GG := GG.trans G
  clear G
  refine nr ?_; intro U h; simp only [z0, z1] at h; subst h
  refine s_callv 7 rfl rfl _ 13 Try.call13 rfl rfl _ rfl [.int .u8 12] rfl (n_any _ 12 (by decide)) ?_
  intro w4 G
  replace GG := GG.trans G
  clear G
  refine nr ?_; intro U h; simp only [z0, z1] at h; subst h
  refine s_bsl 8 rfl rfl 22 4 _ rfl [(0, .agg (idA 1)), (1, .agg (idA 4)), (2, .agg (idA 9)), (3, .agg (idA 12))] rfl (fl [1, 4, 9, 12]).toArray 24 (bs4 1 4 9 12 _) ?_
  intro w5 q1 G eq1 kq1
  replace GG := GG.trans G
  clear G
  have HR1 : RC _ (some ⟨q1, 0, none⟩) [1, 4, 9, 12].length [1, 4, 9, 12] := RC.all_blk kq1 (all_of [1, 4, 9, 12] ⟨(by decide), (by decide), (by decide), (by decide), trivial⟩) (Nat.le_refl _)
  clear eq1
  refine nr ?_; intro U h; simp only [z0, z1] at h; subst h
  refine s_val 1 rfl rfl (.slice (some ⟨q1, 0, none⟩) ([1, 4, 9, 12].length) ([1, 4, 9, 12].length)) (rfl) ?_
  refine nr ?_; intro U h; simp only [z0, z1] at h; subst h
  refine wpList_nil ?_
  refine then_n ?_
  refine wp_seq ?_
  refine wp_region_lit ?_
  refine s_callv 10 rfl rfl _ 13 Try.call13 rfl rfl _ rfl [.int .u8 12] rfl (n_any _ 12 (by decide)) ?_
  intro w6 G
  replace HR1 := HR1.gro G
  replace GG := GG.trans G
  clear G
  refine nr ?_; intro U h; simp only [z0, z1] at h; subst h
  refine s_val 11 rfl rfl (.slice (some ⟨q1, 0, none⟩) ([1, 4, 9, 12].length) ([1, 4, 9, 12].length)) (rfl) ?_
  refine nr ?_; intro U h; simp only [z0, z1] at h; subst h
  refine s_callv 12 rfl rfl _ 14 Try.call14 rfl rfl _ rfl [.agg (idA 12), .slice (some ⟨q1, 0, none⟩) ([1, 4, 9, 12].length) ([1, 4, 9, 12].length)] rfl (Calls.valV (next_any _ (some ⟨q1, 0, none⟩) [1, 4, 9, 12].length [1, 4, 9, 12] (HR1) (by decide) 12 (by decide)) (by rw [nxt_12])) ?_
  intro w7 G
  replace HR1 := HR1.gro G
  replace GG := GG.trans G
  clear G
  refine nr ?_; intro U h; simp only [z0, z1] at h; subst h
  refine s_val 9 rfl rfl (.tuple #[.agg (idA 1), .bool true]) (rfl) ?_
  refine nr ?_; intro U h; simp only [z0, z1] at h; subst h
  refine s_val 13 rfl rfl (.agg (idA 1)) (rfl) ?_
  refine nr ?_; intro U h; simp only [z0, z1] at h; subst h
  refine s_val 14 rfl rfl (.bool true) (rfl) ?_
  refine nr ?_; intro U h; simp only [z0, z1] at h; subst h
  refine s_alloc 2 rfl rfl 24 rfl _ zero23 (idA 0) rfl ?_
  intro w8 g1 G eg1 kg1
  have bg1 := size_base GG eg1
  have dHR1g1 := HR1.ne eg1
  replace HR1 := HR1.gro G
  replace GG := GG.trans G
  clear G
  clear eg1
  refine nr ?_; intro U h; simp only [z0, z1] at h; subst h
  refine s_store rfl rfl 24 _ _ rfl g1 0 rfl (.agg (idA 1)) rfl 24 _ kg1 (idA 1) rfl (size23' _) (idA_fit _ _) (idA_one _) (idA 1) (splice_whole _ _ (idA_sz _ _)) ?_
  intro w9 St
  replace HR1 := HR1.st St dHR1g1
  replace GG := GG.store St bg1
  replace kg1 := St.new
  clear St
  refine s_val 3 rfl rfl (.bool true) (rfl) ?_
  refine nr ?_; intro U h; simp only [z0, z1] at h; subst h
  refine wpList_nil ?_
  refine then_n ?_
  refine wp_seq ?_
  refine wp_region_exA (A := ?Ax1) 44 [(0, 15), (1, 16), (2, 17), (3, 18), (4, 19), (5, 20), (6, 21), (7, 22), (8, 23), (9, 24), (10, 25), (11, 26), (12, 27), (13, 28), (14, 29), (15, 30), (16, 31), (17, 32), (18, 33), (19, 34), (20, 35), (21, 36), (22, 37), (23, 38), (24, 39), (25, 40), (26, 41), (27, 42), (28, 43), (29, 44), (30, 45), (31, 46), (32, 47), (33, 48), (34, 49), (35, 50), (36, 51), (37, 52), (38, 53), (39, 54), (40, 55), (41, 56), (42, 57), (43, 58)] [.val (.agg (idA 4)), .val (.slice (some ⟨q1, 0, none⟩) ([1, 4, 9, 12].length) ([1, 4, 9, 12].length)), rowI (want 4 [1, 4, 9, 12] 1), .val (.agg (idA 1)), .val (.agg (idA 9)), rowI [1, 9], .val (.bool true), .val (.bool true), .val (.agg (idA 12)), .val (.slice (some ⟨q1, 0, none⟩) ([1, 4, 9, 12].length) ([1, 4, 9, 12].length)), rowI (want 12 [1, 4, 9, 12] 1), .val (.agg (idA 1)), .val (.agg (idA 9)), rowI [1, 9], .val (.bool true), .val (.bool true), .val (.bool true), .val (.agg (idA 4)), .val (.slice (some ⟨q1, 0, none⟩) ([1, 4, 9, 12].length) ([1, 4, 9, 12].length)), rowI (want 4 [1, 4, 9, 12] 2), .val (.agg (idA 1)), .val (.agg (idA 9)), .val (.agg (idA 12)), rowI [1, 9, 12], .val (.bool true), .val (.bool true), .val (.bool true), .val (.bool true), .val (.bool true), .val (.bool true), .val (.agg (idA 1)), .val (.agg (idA 1)), .val (.bool true), .val (.bool true), .val (.bool true), .val (.slice (some ⟨q1, 0, none⟩) ([1, 4, 9, 12].length) ([1, 4, 9, 12].length)), .val (.agg (idA 9)), .val (.bool true), .val (.bool true), .val (.bool true), .val (.slice (some ⟨q1, 0, none⟩) ([1, 4, 9, 12].length) ([1, 4, 9, 12].length)), .val (.agg (idA 2)), .val (.bool false), .val (.bool true)] follows (by kernel_rfl) rfl ?hAx1 (opsA_cons ?o0x1 (opsA_cons ?o1x1 (opsA_cons ?o2x1 (opsA_cons ?o3x1 (opsA_cons ?o4x1 (opsA_cons ?o5x1 (opsA_cons ?o6x1 (opsA_cons ?o7x1 (opsA_cons ?o8x1 (opsA_cons ?o9x1 (opsA_cons ?o10x1 (opsA_cons ?o11x1 (opsA_cons ?o12x1 (opsA_cons ?o13x1 (opsA_cons ?o14x1 (opsA_cons ?o15x1 (opsA_cons ?o16x1 (opsA_cons ?o17x1 (opsA_cons ?o18x1 (opsA_cons ?o19x1 (opsA_cons ?o20x1 (opsA_cons ?o21x1 (opsA_cons ?o22x1 (opsA_cons ?o23x1 (opsA_cons ?o24x1 (opsA_cons ?o25x1 (opsA_cons ?o26x1 (opsA_cons ?o27x1 (opsA_cons ?o28x1 (opsA_cons ?o29x1 (opsA_cons ?o30x1 (opsA_cons ?o31x1 (opsA_cons ?o32x1 (opsA_cons ?o33x1 (opsA_cons ?o34x1 (opsA_cons ?o35x1 (opsA_cons ?o36x1 (opsA_cons ?o37x1 (opsA_cons ?o38x1 (opsA_cons ?o39x1 (opsA_cons ?o40x1 (opsA_cons ?o41x1 (opsA_cons ?o42x1 (opsA_cons ?o43x1 opsA_nil)))))))))))))))))))))))))))))))))))))))))))) ?restx1
  case hAx1 =>
    intro ptrs
    simp only [full, foldSlots, filledE, postE, List.foldl_cons, List.foldl_nil, List.getD_cons_zero, List.getD_cons_succ, fill_val, fill_rowI, List.set_cons_zero, List.set_cons_succ]
    exact rfl
  case o0x1 =>
    intro ptrs w' hw hE
    exact opE_call (.val (.agg (idA 4))) rfl _ 13 Try.call13 rfl rfl _ rfl [.int .u8 4] rfl ((n_any _ 4 (by decide)).mono fun e w' ⟨he, hg⟩ => ⟨_, he, hg, rfl⟩)
  case o1x1 => exact fun _ _ _ _ => opE_move (v := .slice (some ⟨q1, 0, none⟩) ([1, 4, 9, 12].length) ([1, 4, 9, 12].length)) _ rfl rfl rfl
  case o2x1 =>
    intro ptrs w' hw hE
    exact opE_call (rowI (want 4 [1, 4, 9, 12] 1)) rfl _ 5 Try.call5 rfl rfl _ rfl [.agg (idA 4), .slice (some ⟨q1, 0, none⟩) ([1, 4, 9, 12].length) ([1, 4, 9, 12].length), .int .i64 1] rfl ((want_any _ (some ⟨q1, 0, none⟩) [1, 4, 9, 12].length [1, 4, 9, 12] (HR1.gro ((Gro.refl _).drew.trans hw)) (by decide) 4 (by decide) 1).mono fun e w' ⟨ao, cap, he, hg, hr⟩ => ⟨_, he, hg, ao, cap, rfl, hr⟩)
  case o3x1 =>
    intro ptrs w' hw hE
    obtain ⟨⟨ao2, cap2, h2, o2⟩, _⟩ := hE
    exact opE_call (.val (.agg (idA 1))) rfl _ 13 Try.call13 rfl rfl _ rfl [.int .u8 1] rfl ((n_any _ 1 (by decide)).mono fun e w' ⟨he, hg⟩ => ⟨_, he, hg, rfl⟩)
  case o4x1 =>
    intro ptrs w' hw hE
    exact opE_call (.val (.agg (idA 9))) rfl _ 13 Try.call13 rfl rfl _ rfl [.int .u8 9] rfl ((n_any _ 9 (by decide)).mono fun e w' ⟨he, hg⟩ => ⟨_, he, hg, rfl⟩)
  case o5x1 => exact fun _ _ _ _ => opE_new (rowI [1, 9]) rfl (run_bsl 22 2 _ rfl [(0, .agg (idA 1)), (1, .agg (idA 9))] rfl (bs2 1 9 _)) (gro_alloc _ _) ⟨_, _, rfl, RC.all_blk (heap_alloc_new _ _) (all_of [1, 9] ⟨(by decide), (by decide), trivial⟩) (Nat.le_refl _)⟩
  case o6x1 =>
    intro ptrs w' hw hE
    obtain ⟨⟨ao2, cap2, h2, o2⟩, ⟨ao5, cap5, h5, o5⟩, _⟩ := hE
    exact opE_call (.val (.bool true)) rfl _ 15 Try.call15 rfl rfl _ rfl [.slice ao2 (want 4 [1, 4, 9, 12] 1).length cap2, .slice ao5 ([1, 9]).length cap5] (by show [ptrs 2, ptrs 5] = _; rw [h2, h5]) ((Calls.bool (same_ids _ ao2 cap2 (want 4 [1, 4, 9, 12] 1) (o2) (by rw [want_41]; decide) ao5 cap5 [1, 9] (o5) (by decide)) (decide_eq_true want_41)).mono fun e w' ⟨he, hg⟩ => ⟨_, he, hg, rfl⟩)
  case o7x1 => exact fun _ _ _ _ => opE_move (v := .bool true) _ rfl rfl rfl
  case o8x1 =>
    intro ptrs w' hw hE
    exact opE_call (.val (.agg (idA 12))) rfl _ 13 Try.call13 rfl rfl _ rfl [.int .u8 12] rfl ((n_any _ 12 (by decide)).mono fun e w' ⟨he, hg⟩ => ⟨_, he, hg, rfl⟩)
  case o9x1 => exact fun _ _ _ _ => opE_move (v := .slice (some ⟨q1, 0, none⟩) ([1, 4, 9, 12].length) ([1, 4, 9, 12].length)) _ rfl rfl rfl
  case o10x1 =>
    intro ptrs w' hw hE
    exact opE_call (rowI (want 12 [1, 4, 9, 12] 1)) rfl _ 5 Try.call5 rfl rfl _ rfl [.agg (idA 12), .slice (some ⟨q1, 0, none⟩) ([1, 4, 9, 12].length) ([1, 4, 9, 12].length), .int .i64 1] rfl ((want_any _ (some ⟨q1, 0, none⟩) [1, 4, 9, 12].length [1, 4, 9, 12] (HR1.gro ((Gro.refl _).drew.trans hw)) (by decide) 12 (by decide) 1).mono fun e w' ⟨ao, cap, he, hg, hr⟩ => ⟨_, he, hg, ao, cap, rfl, hr⟩)
  case o11x1 =>
    intro ptrs w' hw hE
    obtain ⟨⟨ao10, cap10, h10, o10⟩, _⟩ := hE
    exact opE_call (.val (.agg (idA 1))) rfl _ 13 Try.call13 rfl rfl _ rfl [.int .u8 1] rfl ((n_any _ 1 (by decide)).mono fun e w' ⟨he, hg⟩ => ⟨_, he, hg, rfl⟩)
  case o12x1 =>
    intro ptrs w' hw hE
    exact opE_call (.val (.agg (idA 9))) rfl _ 13 Try.call13 rfl rfl _ rfl [.int .u8 9] rfl ((n_any _ 9 (by decide)).mono fun e w' ⟨he, hg⟩ => ⟨_, he, hg, rfl⟩)
  case o13x1 => exact fun _ _ _ _ => opE_new (rowI [1, 9]) rfl (run_bsl 22 2 _ rfl [(0, .agg (idA 1)), (1, .agg (idA 9))] rfl (bs2 1 9 _)) (gro_alloc _ _) ⟨_, _, rfl, RC.all_blk (heap_alloc_new _ _) (all_of [1, 9] ⟨(by decide), (by decide), trivial⟩) (Nat.le_refl _)⟩
  case o14x1 =>
    intro ptrs w' hw hE
    obtain ⟨⟨ao10, cap10, h10, o10⟩, ⟨ao13, cap13, h13, o13⟩, _⟩ := hE
    exact opE_call (.val (.bool true)) rfl _ 15 Try.call15 rfl rfl _ rfl [.slice ao10 (want 12 [1, 4, 9, 12] 1).length cap10, .slice ao13 ([1, 9]).length cap13] (by show [ptrs 10, ptrs 13] = _; rw [h10, h13]) ((Calls.bool (same_ids _ ao10 cap10 (want 12 [1, 4, 9, 12] 1) (o10) (by rw [want_121]; decide) ao13 cap13 [1, 9] (o13) (by decide)) (decide_eq_true want_121)).mono fun e w' ⟨he, hg⟩ => ⟨_, he, hg, rfl⟩)
  case o15x1 => exact fun _ _ _ _ => opE_pick (v := .bool true) _ _ _ rfl rfl true rfl rfl
  case o16x1 => exact fun _ _ _ _ => opE_move (v := .bool true) _ rfl rfl rfl
  case o17x1 =>
    intro ptrs w' hw hE
    exact opE_call (.val (.agg (idA 4))) rfl _ 13 Try.call13 rfl rfl _ rfl [.int .u8 4] rfl ((n_any _ 4 (by decide)).mono fun e w' ⟨he, hg⟩ => ⟨_, he, hg, rfl⟩)
  case o18x1 => exact fun _ _ _ _ => opE_move (v := .slice (some ⟨q1, 0, none⟩) ([1, 4, 9, 12].length) ([1, 4, 9, 12].length)) _ rfl rfl rfl
  case o19x1 =>
    intro ptrs w' hw hE
    exact opE_call (rowI (want 4 [1, 4, 9, 12] 2)) rfl _ 5 Try.call5 rfl rfl _ rfl [.agg (idA 4), .slice (some ⟨q1, 0, none⟩) ([1, 4, 9, 12].length) ([1, 4, 9, 12].length), .int .i64 2] rfl ((want_any _ (some ⟨q1, 0, none⟩) [1, 4, 9, 12].length [1, 4, 9, 12] (HR1.gro ((Gro.refl _).drew.trans hw)) (by decide) 4 (by decide) 2).mono fun e w' ⟨ao, cap, he, hg, hr⟩ => ⟨_, he, hg, ao, cap, rfl, hr⟩)
  case o20x1 =>
    intro ptrs w' hw hE
    obtain ⟨⟨ao19, cap19, h19, o19⟩, _⟩ := hE
    exact opE_call (.val (.agg (idA 1))) rfl _ 13 Try.call13 rfl rfl _ rfl [.int .u8 1] rfl ((n_any _ 1 (by decide)).mono fun e w' ⟨he, hg⟩ => ⟨_, he, hg, rfl⟩)
  case o21x1 =>
    intro ptrs w' hw hE
    exact opE_call (.val (.agg (idA 9))) rfl _ 13 Try.call13 rfl rfl _ rfl [.int .u8 9] rfl ((n_any _ 9 (by decide)).mono fun e w' ⟨he, hg⟩ => ⟨_, he, hg, rfl⟩)
  case o22x1 =>
    intro ptrs w' hw hE
    exact opE_call (.val (.agg (idA 12))) rfl _ 13 Try.call13 rfl rfl _ rfl [.int .u8 12] rfl ((n_any _ 12 (by decide)).mono fun e w' ⟨he, hg⟩ => ⟨_, he, hg, rfl⟩)
  case o23x1 => exact fun _ _ _ _ => opE_new (rowI [1, 9, 12]) rfl (run_bsl 22 3 _ rfl [(0, .agg (idA 1)), (1, .agg (idA 9)), (2, .agg (idA 12))] rfl (bs3 1 9 12 _)) (gro_alloc _ _) ⟨_, _, rfl, RC.all_blk (heap_alloc_new _ _) (all_of [1, 9, 12] ⟨(by decide), (by decide), (by decide), trivial⟩) (Nat.le_refl _)⟩
  case o24x1 =>
    intro ptrs w' hw hE
    obtain ⟨⟨ao19, cap19, h19, o19⟩, ⟨ao23, cap23, h23, o23⟩, _⟩ := hE
    exact opE_call (.val (.bool true)) rfl _ 15 Try.call15 rfl rfl _ rfl [.slice ao19 (want 4 [1, 4, 9, 12] 2).length cap19, .slice ao23 ([1, 9, 12]).length cap23] (by show [ptrs 19, ptrs 23] = _; rw [h19, h23]) ((Calls.bool (same_ids _ ao19 cap19 (want 4 [1, 4, 9, 12] 2) (o19) (by rw [want_42]; decide) ao23 cap23 [1, 9, 12] (o23) (by decide)) (decide_eq_true want_42)).mono fun e w' ⟨he, hg⟩ => ⟨_, he, hg, rfl⟩)
  case o25x1 => exact fun _ _ _ _ => opE_pick (v := .bool true) _ _ _ rfl rfl true rfl rfl
  case o26x1 => exact fun _ _ _ _ => opE_move (v := .bool true) _ rfl rfl rfl
  case o27x1 => exact fun _ _ _ _ => opE_move (v := .bool true) _ rfl rfl rfl
  case o28x1 => exact fun _ _ _ _ => opE_pick (v := .bool true) _ _ _ rfl rfl true rfl rfl
  case o29x1 => exact fun _ _ _ _ => opE_move (v := .bool true) _ rfl rfl rfl
  case o30x1 => exact fun _ _ hw _ => opE_value (v := .agg (idA 1)) rfl (run_ldB _ rfl g1 _ rfl (hw.has kg1))
  case o31x1 =>
    intro ptrs w' hw hE
    exact opE_call (.val (.agg (idA 1))) rfl _ 13 Try.call13 rfl rfl _ rfl [.int .u8 1] rfl ((n_any _ 1 (by decide)).mono fun e w' ⟨he, hg⟩ => ⟨_, he, hg, rfl⟩)
  case o32x1 => exact fun _ _ _ _ => opE_value (v := .bool true) rfl (run_eqI _ _ _ rfl 1 1 rfl rfl (by decide) (by decide) true rfl)
  case o33x1 => exact fun _ _ _ _ => opE_pick (v := .bool true) _ _ _ rfl rfl true rfl rfl
  case o34x1 => exact fun _ _ _ _ => opE_move (v := .bool true) _ rfl rfl rfl
  case o35x1 => exact fun _ _ _ _ => opE_move (v := .slice (some ⟨q1, 0, none⟩) ([1, 4, 9, 12].length) ([1, 4, 9, 12].length)) _ rfl rfl rfl
  case o36x1 =>
    intro ptrs w' hw hE
    exact opE_call (.val (.agg (idA 9))) rfl _ 13 Try.call13 rfl rfl _ rfl [.int .u8 9] rfl ((n_any _ 9 (by decide)).mono fun e w' ⟨he, hg⟩ => ⟨_, he, hg, rfl⟩)
  case o37x1 =>
    intro ptrs w' hw hE
    exact opE_call (.val (.bool true)) rfl _ 7 Try.call7 rfl rfl _ rfl [.slice (some ⟨q1, 0, none⟩) ([1, 4, 9, 12].length) ([1, 4, 9, 12].length), .agg (idA 9)] rfl ((Calls.bool (has_any _ (some ⟨q1, 0, none⟩) [1, 4, 9, 12].length [1, 4, 9, 12] (HR1.gro ((Gro.refl _).drew.trans hw)) (by decide) 9 (by decide)) (by decide)).mono fun e w' ⟨he, hg⟩ => ⟨_, he, hg, rfl⟩)
  case o38x1 => exact fun _ _ _ _ => opE_pick (v := .bool true) _ _ _ rfl rfl true rfl rfl
  case o39x1 => exact fun _ _ _ _ => opE_move (v := .bool true) _ rfl rfl rfl
  case o40x1 => exact fun _ _ _ _ => opE_move (v := .slice (some ⟨q1, 0, none⟩) ([1, 4, 9, 12].length) ([1, 4, 9, 12].length)) _ rfl rfl rfl
  case o41x1 =>
    intro ptrs w' hw hE
    exact opE_call (.val (.agg (idA 2))) rfl _ 13 Try.call13 rfl rfl _ rfl [.int .u8 2] rfl ((n_any _ 2 (by decide)).mono fun e w' ⟨he, hg⟩ => ⟨_, he, hg, rfl⟩)
  case o42x1 =>
    intro ptrs w' hw hE
    exact opE_call (.val (.bool false)) rfl _ 7 Try.call7 rfl rfl _ rfl [.slice (some ⟨q1, 0, none⟩) ([1, 4, 9, 12].length) ([1, 4, 9, 12].length), .agg (idA 2)] rfl ((Calls.bool (has_any _ (some ⟨q1, 0, none⟩) [1, 4, 9, 12].length [1, 4, 9, 12] (HR1.gro ((Gro.refl _).drew.trans hw)) (by decide) 2 (by decide)) (by decide)).mono fun e w' ⟨he, hg⟩ => ⟨_, he, hg, rfl⟩)
  case o43x1 => exact fun _ _ _ _ => opE_value (v := .bool true) rfl (run_nt _ _ rfl false rfl)
  intro ptrs w10 GD hxE
  simp only [List.drop_succ_cons, List.drop_zero]
  replace kg1 := GD.has kg1
  replace HR1 := HR1.gro ((Gro.refl _).drew.trans GD)
  replace GG := GG.drew.trans GD
  obtain ⟨_, _, _, _, _, _, _⟩ := hxE
  clear GD
  refine s_val 59 rfl rfl (.bool true) (rfl) ?_
  refine nr ?_; intro U h; simp only [z0, z1] at h; subst h
  refine s_val 0 rfl rfl (.bool true) (rfl) ?_
  refine nr ?_; intro U h; simp only [z0] at h; subst h
  refine wpList_nil ?_
  refine then_n ?_
  refine wp_ret ?_
  refine bodyPost_ret (results_tmp Try.results8 _ _ _) rfl ?_
  exact ⟨rfl, GG⟩
set_option maxRecDepth 100000 in
set_option maxHeartbeats 4000000 in
theorem copy_own (w : World) (ao : Option Addr) (cap : Nat) (l : List Nat) (H : RC w ao cap l) (hl : l.length ≤ 1000000) : Calls Try.prog 6 #[.slice ao l.length cap] w (fun e w' => ∃ ao cap, e = .returned (.slice ao l.length cap) ∧ Gro w w' ∧ OI w' w.heap.size ao cap l) := by
  refine s_enter Try.func6 rfl Try.ntmps6 [.slice ao l.length cap] [.slice ao l.length cap, undef, undef, undef, undef, undef] rfl ?_
  have GG := Gro.refl w
  refine wp_seq ?_
  refine wp_region_lit ?_
  refine s_val 2 rfl rfl (.slice none 0 0) (rfl) ?_
  refine nr ?_; intro U h; simp only [z0, z1] at h; subst h
  refine wpList_nil ?_
  refine then_n ?_
  refine wp_seq ?_
  refine wp_region_lit ?_
  refine s_bsl 3 rfl rfl 22 0 _ rfl [] rfl (fl []).toArray 24 (bs0 _) ?_
  intro w1 q1 G eq1 kq1
  have bq1 := size_base GG eq1
  replace GG := GG.trans G
  clear G
  clear eq1
  refine nr ?_; intro U h; simp only [z0, z1] at h; subst h
  refine s_val 4 rfl rfl (.slice ao l.length cap) (rfl) ?_
  refine nr ?_; intro U h; simp only [z0, z1] at h; subst h
  have HO : OI _ w.heap.size (some ⟨q1, 0, none⟩) 0 [] := ⟨OX.made kq1 bq1 (Nat.le_refl _) (by decide) rfl rfl rfl (fun _ h => by cases h), fun _ h => by cases h⟩
  refine s_appI 5 rfl rfl _ _ rfl (l := []) rfl HO rfl (H.gro GG) (by simpa using hl) GG.size ?_
  intro ao2 cap2 w2 HO2 HB
  have GG2 : Gro w _ := below_gro GG HB (Nat.le_refl _)
  rw [List.nil_append] at HO2
  simp only [List.nil_append]
  refine nr ?_; intro U h; simp only [z0, z1] at h; subst h
  refine s_val 2 rfl rfl (.slice ao2 l.length cap2) (rfl) ?_
  refine nr ?_; intro U h; simp only [z0, z1] at h; subst h
  refine wpList_nil ?_
  refine then_n ?_
  refine wp_ret ?_
  refine bodyPost_ret (results_tmp Try.results6 _ _ _) rfl ?_
  exact ⟨ao2, cap2, rfl, GG2, HO2⟩
end Go.Proofs.Ytkckjkimjeakcab
