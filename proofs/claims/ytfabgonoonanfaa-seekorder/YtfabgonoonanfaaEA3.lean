/- Sorting in place: places changed, parts turned, one after the other put in. -/
import Derived.Test.YtfabgonoonanfaaEA2
namespace Go.Proofs.Ytfabgonoonanfaa
open Go.RowKit
theorem opX_val {P : Program} {ops : Array Oper} {R : World → Prop} {k : PostE} {o : Oper} {A : Act} {w w' : World} {v : Value} (hw : Region.wanted o (yielded ops A.tmps) = true) (h : (execOp A.eval o).run P w = .ok (.value v) w') (hR : R w') (hk : k.p v w') : OpX P ops R k o A w :=
  ⟨hw, by rw [h]; exact ⟨hR, hk⟩⟩
/-- A row that has been changed in place. -/
def SrtP (w : World) (B : Nat) (ao : Option Addr) (cap : Nat) (L : List Cd) (e : Ending) (w' : World) : Prop := e = .returned (.tuple #[]) ∧ GroS (Go.Proofs.Ytfabgonoonanfaa.blk ao) w w' ∧ OW kC 33 w' B ao cap L
def wrt (b : Bool) (R : List Cd) (p : Nat) (y : Cd) : List Cd := if b = true then R.set p y else R
section
variable {α : Type} {K : Kd α} {e : TypeId} {w : World} {ao : Option Addr} {cap B : Nat} {l : List α} {P : Program} {ops : Array Oper} {o : Oper} {A : Act}
theorem opX_stK {R1 : World → Prop} (kk : PostE) (hw : Region.wanted o (yielded ops A.tmps) = true) (ty : TypeId) (x y : Operand) (ho : o.op = .store ty x y) (h : OW K e w B ao cap l) (j q : Nat) (hj : j < l.length) (hx : A.eval x = .pointer (pK K ao j q)) (v : Value) (hy : A.eval y = v) (vs : List Value) (hc : v.cells = vs.toArray)
    (hi : (P.info? ty).map (·.size) = some vs.length) (h0 : 0 < vs.length) (hq : q + vs.length ≤ K.sz) (h1 : ∀ v ∈ vs, v.oneCell' = true) (u : α) (hu : K.E u = spl (K.E (l.getD j K.z)) q vs) (hok : K.ok u)
    (H : ∀ w', OW K e w' B ao cap (l.set j u) → GroS (Go.Proofs.Ytfabgonoonanfaa.blk ao) w w' → R1 w' ∧ kk.p undef w') : OpX P ops R1 kk o A w := by
  have hjq : j * K.sz + q + vs.length ≤ l.length * K.sz := by
    have := Nat.mul_le_mul_right K.sz (show j + 1 ≤ l.length from hj)
    rw [Nat.add_mul, Nat.one_mul] at this
    omega
  obtain ⟨g, d, cur, e1, hB, hg, hle, hput⟩ := h.own.put vs hjq h0 h1
  have e2 : pK K ao j q = some ⟨g, d + (j * K.sz + q), none⟩ := by
    unfold pK
    rw [e1, Option.map_some, add_at]
  rw [e2] at hx
  refine opX_store kk hw ty x y ho g (d + (j * K.sz + q)) hx v hy e cur hg vs.toArray hc (by rw [hi]; rfl) (by simpa using hle) ?_ _ rfl fun w' St => H w' ⟨?_, ?_⟩ ?_
  · rw [Array.all_eq_true_iff_forall_mem]
    exact fun v hv => h1 v (by simpa using hv)
  · have := hput w' St
    rwa [← set_flat l j q hj u vs hq hu, ← List.length_set (i := j) (a := u)] at this
  · intro z hz
    rcases List.mem_or_eq_of_mem_set hz with hz | rfl
    · exact h.all z hz
    · exact hok
  · refine ⟨St.os, St.tape, St.output, Nat.le_of_eq St.size.symm, fun k _ hk => St.old k fun hkg => hk ?_⟩
    rw [e1, hkg]
    exact mem_blk.2 ⟨_, rfl, rfl⟩
end
set_option maxRecDepth 100000 in
set_option maxHeartbeats 4000000 in
theorem swapRange_any (w : World) (B : Nat) (ao : Option Addr) (cap : Nat) (l : List Cd) (c : Nat) (HO : OW kC 33 w B ao cap l) (CK : CloC w c) (hl : l.length ≤ 1000000) (a b n : Nat) (ha : a + n ≤ l.length) (hb : b + n ≤ l.length) : Calls Try.prog 63 #[.slice ao l.length cap, .int .i64 ((a : Nat) : Int), .int .i64 ((b : Nat) : Int), .int .i64 ((n : Nat) : Int), .func (.func 40) #[] #[.pointer (some ⟨c, 0, none⟩)]] w (SrtP w B ao cap (swr zC l a b n)) := by
  refine s_enter Try.func63 rfl Try.ntmps63 [.slice ao l.length cap, .int .i64 ((a : Nat) : Int), .int .i64 ((b : Nat) : Int), .int .i64 ((n : Nat) : Int), .func (.func 40) #[] #[.pointer (some ⟨c, 0, none⟩)]] [.slice ao l.length cap, .int .i64 ((a : Nat) : Int), .int .i64 ((b : Nat) : Int), .int .i64 ((n : Nat) : Int), .func (.func 40) #[] #[.pointer (some ⟨c, 0, none⟩)], undef, undef, undef, undef, undef, undef, undef, undef, undef, undef, undef, undef, undef, undef, undef, undef, undef, undef, undef, undef, undef, undef, undef, undef, undef, undef, undef, undef, undef, undef, undef, undef, undef] rfl ?_
  have GG := GroS.refl (Go.Proofs.Ytfabgonoonanfaa.blk ao) w
  refine wp_seq ?_
  refine wp_region_lit ?_
  refine s_val 10 rfl rfl (.int .i64 0) (rfl) ?_
  refine nr ?_; intro U h; simp only [z0, z1] at h; subst h
  refine wpList_nil ?_
  refine then_n ?_
  refine wp_block ?_
  refine wp_loopN (fun mz az wv => ∃ (i : Nat) (us1 : Nat → Value), mz = n + 1 - i ∧ az = ⟨[.slice ao l.length cap, .int .i64 ((a : Nat) : Int), .int .i64 ((b : Nat) : Int), .int .i64 ((n : Nat) : Int), .func (.func 40) #[] #[.pointer (some ⟨c, 0, none⟩)], undef, undef, undef, undef, undef, .int .i64 ((i : Nat) : Int), us1 0, us1 1, us1 2, us1 3, us1 4, us1 5, us1 6, us1 7, us1 8, us1 9, us1 10, us1 11, us1 12, us1 13, us1 14, us1 15, us1 16, us1 17, us1 18, us1 19, us1 20, us1 21, us1 22, us1 23, us1 24, us1 25, us1 26].toArray, []⟩ ∧ i ≤ n ∧ GroS (Go.Proofs.Ytfabgonoonanfaa.blk ao) w wv ∧ OW kC 33 wv B ao cap (swr zC l a b i) ∧ CloC wv c) ?_ _ ⟨0, (fun kz => ([undef, undef, undef, undef, undef, undef, undef, undef, undef, undef, undef, undef, undef, undef, undef, undef, undef, undef, undef, undef, undef, undef, undef, undef, undef, undef, undef] : List Value).getD kz undef), rfl, rfl, Nat.zero_le _, GG, HO, CK⟩
  clear GG HO CK
  rintro mz az wv ⟨i, us1, rfl, rfl, hi, GG, HO, CK⟩
  refine wp_seq ?_
  refine wp_seq ?_
  refine wp_region_lit ?_
  refine s_val 11 rfl rfl (.int .i64 ((i : Nat) : Int)) (rfl) ?_
  refine nr ?_; intro U h; simp only [z0, z1] at h; subst h
  refine s_val 12 rfl rfl (.int .i64 ((n : Nat) : Int)) (rfl) ?_
  refine nr ?_; intro U h; simp only [z0, z1] at h; subst h
  cases hi1 : decide (((i : Nat) : Int) < ((n : Nat) : Int))
  · have hie : i = n := by have := of_decide_eq_false hi1; omega
    refine s_val 13 rfl rfl (.bool false) (run_lssT 3 _ _ _ rfl ((i : Nat) : Int) ((n : Nat) : Int) rfl rfl false hi1 _) ?_
    refine nr ?_; intro U h; simp only [z0, z1] at h; subst h
    refine wpList_nil ?_
    refine then_n ?_
    refine wp_cond_false rfl ?_
    refine wp_exit ?_
    refine then_x ?_
    refine then_x ?_
    refine blk_x ?_
    refine post_n (results_none Try.results63 _ _ _) rfl ?_
    rw [hie] at HO
    exact ⟨rfl, GG, HO⟩
  · have hil : i < n := by have := of_decide_eq_true hi1; omega
    refine s_val 13 rfl rfl (.bool true) (run_lssT 3 _ _ _ rfl ((i : Nat) : Int) ((n : Nat) : Int) rfl rfl true hi1 _) ?_
    refine nr ?_; intro U h; simp only [z0, z1] at h; subst h
    refine wpList_nil ?_
    refine then_n ?_
    refine wp_cond_true rfl ?_
    refine wp_skip ?_
    refine then_n ?_
    refine wp_seq ?_
    refine wp_block ?_
    refine wp_region_pm (A := ?Ax1) (fun L x => GroS (Go.Proofs.Ytfabgonoonanfaa.blk ao) wv x ∧ OW kC 33 x B ao cap (wrt (L 21) (swr zC l a b i) (a + i) ((swr zC l a b i).getD (b + i) zC))) 22 [(0, 16), (1, 17), (2, 18), (3, 19), (4, 20), (5, 21), (6, 22), (7, 23), (8, 24), (9, 25), (10, 26), (11, 27), (12, 28), (13, 29), (14, 30), (15, 31), (16, 32), (17, 33), (18, 34), (19, 35), (20, 36)] [.val (.slice ao l.length cap), .val (.int .i64 ((a : Nat) : Int)), .val (.int .i64 ((i : Nat) : Int)), .val (.int .i64 ((a + i : Nat) : Int)), .val (.slice ao l.length cap), .val (.int .i64 ((b : Nat) : Int)), .val (.int .i64 ((i : Nat) : Int)), .val (.int .i64 ((b + i : Nat) : Int)), .val (.slice ao l.length cap), .val (.int .i64 ((b : Nat) : Int)), .val (.int .i64 ((i : Nat) : Int)), .val (.int .i64 ((b + i : Nat) : Int)), .val (.pointer (pK kC ao (b + i) 0)), .val (.agg (cdA ((swr zC l a b i).getD (b + i) zC))), .val (.slice ao l.length cap), .val (.int .i64 ((a : Nat) : Int)), .val (.int .i64 ((i : Nat) : Int)), .val (.int .i64 ((a + i : Nat) : Int)), .val (.pointer (pK kC ao (a + i) 0)), .val (.agg (cdA ((swr zC l a b i).getD (a + i) zC))), .val (.pointer (pK kC ao (a + i) 0)), .val undef] [] [] follows (by kernel_rfl) rfl (by kernel_rfl) (by decide) ⟨(GroS.refl _ _).drew, HO.gro (Gro.refl _).drew⟩ ?hAx1 (opsM_w ?o0x1 (opsM_w ?o1x1 (opsM_w ?o2x1 (opsM_w ?o3x1 (opsM_w ?o4x1 (opsM_w ?o5x1 (opsM_w ?o6x1 (opsM_w ?o7x1 (opsM_w ?o8x1 (opsM_w ?o9x1 (opsM_w ?o10x1 (opsM_w ?o11x1 (opsM_w ?o12x1 (opsM_w ?o13x1 (opsM_w ?o14x1 (opsM_w ?o15x1 (opsM_w ?o16x1 (opsM_w ?o17x1 (opsM_w ?o18x1 (opsM_w ?o19x1 (opsM_w ?o20x1 (opsM_w ?o21x1 opsM_nil)))))))))))))))))))))) ?restx1
    case hAx1 =>
      intro ptrs
      simp only [full, foldSlots, filledE, postE, List.foldl_cons, List.foldl_nil, List.getD_cons_zero, List.getD_cons_succ, fill_val, List.set_cons_zero, List.set_cons_succ]
      exact rfl
    case o0x1 => exact fun L ptrs x hx _ _ _ _ => opX_val (v := .slice ao l.length cap) rfl (rfl) ⟨hx, StM.vals [0, 1, 2, 3, 4, 5, 6, 7, 8, 9, 10, 11, 12, 13, 14, 15, 16, 17, 18, 19, 20, 21] (by kernel_rfl) ⟨⟨_, rfl⟩, ⟨_, rfl⟩, ⟨_, rfl⟩, ⟨_, rfl⟩, ⟨_, rfl⟩, ⟨_, rfl⟩, ⟨_, rfl⟩, ⟨_, rfl⟩, ⟨_, rfl⟩, ⟨_, rfl⟩, ⟨_, rfl⟩, ⟨_, rfl⟩, ⟨_, rfl⟩, ⟨_, rfl⟩, ⟨_, rfl⟩, ⟨_, rfl⟩, ⟨_, rfl⟩, ⟨_, rfl⟩, ⟨_, rfl⟩, ⟨_, rfl⟩, ⟨_, rfl⟩, ⟨_, rfl⟩, trivial⟩⟩ rfl
    case o1x1 => exact fun L ptrs x hx _ _ _ _ => opX_val (v := .int .i64 ((a : Nat) : Int)) rfl (rfl) ⟨hx, StM.vals [0, 1, 2, 3, 4, 5, 6, 7, 8, 9, 10, 11, 12, 13, 14, 15, 16, 17, 18, 19, 20, 21] (by kernel_rfl) ⟨⟨_, rfl⟩, ⟨_, rfl⟩, ⟨_, rfl⟩, ⟨_, rfl⟩, ⟨_, rfl⟩, ⟨_, rfl⟩, ⟨_, rfl⟩, ⟨_, rfl⟩, ⟨_, rfl⟩, ⟨_, rfl⟩, ⟨_, rfl⟩, ⟨_, rfl⟩, ⟨_, rfl⟩, ⟨_, rfl⟩, ⟨_, rfl⟩, ⟨_, rfl⟩, ⟨_, rfl⟩, ⟨_, rfl⟩, ⟨_, rfl⟩, ⟨_, rfl⟩, ⟨_, rfl⟩, ⟨_, rfl⟩, trivial⟩⟩ rfl
    case o2x1 => exact fun L ptrs x hx _ _ _ _ => opX_val (v := .int .i64 ((i : Nat) : Int)) rfl (rfl) ⟨hx, StM.vals [0, 1, 2, 3, 4, 5, 6, 7, 8, 9, 10, 11, 12, 13, 14, 15, 16, 17, 18, 19, 20, 21] (by kernel_rfl) ⟨⟨_, rfl⟩, ⟨_, rfl⟩, ⟨_, rfl⟩, ⟨_, rfl⟩, ⟨_, rfl⟩, ⟨_, rfl⟩, ⟨_, rfl⟩, ⟨_, rfl⟩, ⟨_, rfl⟩, ⟨_, rfl⟩, ⟨_, rfl⟩, ⟨_, rfl⟩, ⟨_, rfl⟩, ⟨_, rfl⟩, ⟨_, rfl⟩, ⟨_, rfl⟩, ⟨_, rfl⟩, ⟨_, rfl⟩, ⟨_, rfl⟩, ⟨_, rfl⟩, ⟨_, rfl⟩, ⟨_, rfl⟩, trivial⟩⟩ rfl
    case o3x1 => exact fun L ptrs x hx _ _ _ _ => opX_val (v := .int .i64 ((a + i : Nat) : Int)) rfl (run_addI 3 _ _ _ rfl ((a : Nat) : Int) ((i : Nat) : Int) ((a + i : Nat) : Int) rfl rfl (by omega) (by omega) (by omega) _) ⟨hx, StM.vals [0, 1, 2, 3, 4, 5, 6, 7, 8, 9, 10, 11, 12, 13, 14, 15, 16, 17, 18, 19, 20, 21] (by kernel_rfl) ⟨⟨_, rfl⟩, ⟨_, rfl⟩, ⟨_, rfl⟩, ⟨_, rfl⟩, ⟨_, rfl⟩, ⟨_, rfl⟩, ⟨_, rfl⟩, ⟨_, rfl⟩, ⟨_, rfl⟩, ⟨_, rfl⟩, ⟨_, rfl⟩, ⟨_, rfl⟩, ⟨_, rfl⟩, ⟨_, rfl⟩, ⟨_, rfl⟩, ⟨_, rfl⟩, ⟨_, rfl⟩, ⟨_, rfl⟩, ⟨_, rfl⟩, ⟨_, rfl⟩, ⟨_, rfl⟩, ⟨_, rfl⟩, trivial⟩⟩ rfl
    case o4x1 => exact fun L ptrs x hx _ _ _ _ => opX_val (v := .slice ao l.length cap) rfl (rfl) ⟨hx, StM.vals [0, 1, 2, 3, 4, 5, 6, 7, 8, 9, 10, 11, 12, 13, 14, 15, 16, 17, 18, 19, 20, 21] (by kernel_rfl) ⟨⟨_, rfl⟩, ⟨_, rfl⟩, ⟨_, rfl⟩, ⟨_, rfl⟩, ⟨_, rfl⟩, ⟨_, rfl⟩, ⟨_, rfl⟩, ⟨_, rfl⟩, ⟨_, rfl⟩, ⟨_, rfl⟩, ⟨_, rfl⟩, ⟨_, rfl⟩, ⟨_, rfl⟩, ⟨_, rfl⟩, ⟨_, rfl⟩, ⟨_, rfl⟩, ⟨_, rfl⟩, ⟨_, rfl⟩, ⟨_, rfl⟩, ⟨_, rfl⟩, ⟨_, rfl⟩, ⟨_, rfl⟩, trivial⟩⟩ rfl
    case o5x1 => exact fun L ptrs x hx _ _ _ _ => opX_val (v := .int .i64 ((b : Nat) : Int)) rfl (rfl) ⟨hx, StM.vals [0, 1, 2, 3, 4, 5, 6, 7, 8, 9, 10, 11, 12, 13, 14, 15, 16, 17, 18, 19, 20, 21] (by kernel_rfl) ⟨⟨_, rfl⟩, ⟨_, rfl⟩, ⟨_, rfl⟩, ⟨_, rfl⟩, ⟨_, rfl⟩, ⟨_, rfl⟩, ⟨_, rfl⟩, ⟨_, rfl⟩, ⟨_, rfl⟩, ⟨_, rfl⟩, ⟨_, rfl⟩, ⟨_, rfl⟩, ⟨_, rfl⟩, ⟨_, rfl⟩, ⟨_, rfl⟩, ⟨_, rfl⟩, ⟨_, rfl⟩, ⟨_, rfl⟩, ⟨_, rfl⟩, ⟨_, rfl⟩, ⟨_, rfl⟩, ⟨_, rfl⟩, trivial⟩⟩ rfl
    case o6x1 => exact fun L ptrs x hx _ _ _ _ => opX_val (v := .int .i64 ((i : Nat) : Int)) rfl (rfl) ⟨hx, StM.vals [0, 1, 2, 3, 4, 5, 6, 7, 8, 9, 10, 11, 12, 13, 14, 15, 16, 17, 18, 19, 20, 21] (by kernel_rfl) ⟨⟨_, rfl⟩, ⟨_, rfl⟩, ⟨_, rfl⟩, ⟨_, rfl⟩, ⟨_, rfl⟩, ⟨_, rfl⟩, ⟨_, rfl⟩, ⟨_, rfl⟩, ⟨_, rfl⟩, ⟨_, rfl⟩, ⟨_, rfl⟩, ⟨_, rfl⟩, ⟨_, rfl⟩, ⟨_, rfl⟩, ⟨_, rfl⟩, ⟨_, rfl⟩, ⟨_, rfl⟩, ⟨_, rfl⟩, ⟨_, rfl⟩, ⟨_, rfl⟩, ⟨_, rfl⟩, ⟨_, rfl⟩, trivial⟩⟩ rfl
    case o7x1 => exact fun L ptrs x hx _ _ _ _ => opX_val (v := .int .i64 ((b + i : Nat) : Int)) rfl (run_addI 3 _ _ _ rfl ((b : Nat) : Int) ((i : Nat) : Int) ((b + i : Nat) : Int) rfl rfl (by omega) (by omega) (by omega) _) ⟨hx, StM.vals [0, 1, 2, 3, 4, 5, 6, 7, 8, 9, 10, 11, 12, 13, 14, 15, 16, 17, 18, 19, 20, 21] (by kernel_rfl) ⟨⟨_, rfl⟩, ⟨_, rfl⟩, ⟨_, rfl⟩, ⟨_, rfl⟩, ⟨_, rfl⟩, ⟨_, rfl⟩, ⟨_, rfl⟩, ⟨_, rfl⟩, ⟨_, rfl⟩, ⟨_, rfl⟩, ⟨_, rfl⟩, ⟨_, rfl⟩, ⟨_, rfl⟩, ⟨_, rfl⟩, ⟨_, rfl⟩, ⟨_, rfl⟩, ⟨_, rfl⟩, ⟨_, rfl⟩, ⟨_, rfl⟩, ⟨_, rfl⟩, ⟨_, rfl⟩, ⟨_, rfl⟩, trivial⟩⟩ rfl
    case o8x1 => exact fun L ptrs x hx _ _ _ _ => opX_val (v := .slice ao l.length cap) rfl (rfl) ⟨hx, StM.vals [0, 1, 2, 3, 4, 5, 6, 7, 8, 9, 10, 11, 12, 13, 14, 15, 16, 17, 18, 19, 20, 21] (by kernel_rfl) ⟨⟨_, rfl⟩, ⟨_, rfl⟩, ⟨_, rfl⟩, ⟨_, rfl⟩, ⟨_, rfl⟩, ⟨_, rfl⟩, ⟨_, rfl⟩, ⟨_, rfl⟩, ⟨_, rfl⟩, ⟨_, rfl⟩, ⟨_, rfl⟩, ⟨_, rfl⟩, ⟨_, rfl⟩, ⟨_, rfl⟩, ⟨_, rfl⟩, ⟨_, rfl⟩, ⟨_, rfl⟩, ⟨_, rfl⟩, ⟨_, rfl⟩, ⟨_, rfl⟩, ⟨_, rfl⟩, ⟨_, rfl⟩, trivial⟩⟩ rfl
    case o9x1 => exact fun L ptrs x hx _ _ _ _ => opX_val (v := .int .i64 ((b : Nat) : Int)) rfl (rfl) ⟨hx, StM.vals [0, 1, 2, 3, 4, 5, 6, 7, 8, 9, 10, 11, 12, 13, 14, 15, 16, 17, 18, 19, 20, 21] (by kernel_rfl) ⟨⟨_, rfl⟩, ⟨_, rfl⟩, ⟨_, rfl⟩, ⟨_, rfl⟩, ⟨_, rfl⟩, ⟨_, rfl⟩, ⟨_, rfl⟩, ⟨_, rfl⟩, ⟨_, rfl⟩, ⟨_, rfl⟩, ⟨_, rfl⟩, ⟨_, rfl⟩, ⟨_, rfl⟩, ⟨_, rfl⟩, ⟨_, rfl⟩, ⟨_, rfl⟩, ⟨_, rfl⟩, ⟨_, rfl⟩, ⟨_, rfl⟩, ⟨_, rfl⟩, ⟨_, rfl⟩, ⟨_, rfl⟩, trivial⟩⟩ rfl
    case o10x1 => exact fun L ptrs x hx _ _ _ _ => opX_val (v := .int .i64 ((i : Nat) : Int)) rfl (rfl) ⟨hx, StM.vals [0, 1, 2, 3, 4, 5, 6, 7, 8, 9, 10, 11, 12, 13, 14, 15, 16, 17, 18, 19, 20, 21] (by kernel_rfl) ⟨⟨_, rfl⟩, ⟨_, rfl⟩, ⟨_, rfl⟩, ⟨_, rfl⟩, ⟨_, rfl⟩, ⟨_, rfl⟩, ⟨_, rfl⟩, ⟨_, rfl⟩, ⟨_, rfl⟩, ⟨_, rfl⟩, ⟨_, rfl⟩, ⟨_, rfl⟩, ⟨_, rfl⟩, ⟨_, rfl⟩, ⟨_, rfl⟩, ⟨_, rfl⟩, ⟨_, rfl⟩, ⟨_, rfl⟩, ⟨_, rfl⟩, ⟨_, rfl⟩, ⟨_, rfl⟩, ⟨_, rfl⟩, trivial⟩⟩ rfl
    case o11x1 => exact fun L ptrs x hx _ _ _ _ => opX_val (v := .int .i64 ((b + i : Nat) : Int)) rfl (run_addI 3 _ _ _ rfl ((b : Nat) : Int) ((i : Nat) : Int) ((b + i : Nat) : Int) rfl rfl (by omega) (by omega) (by omega) _) ⟨hx, StM.vals [0, 1, 2, 3, 4, 5, 6, 7, 8, 9, 10, 11, 12, 13, 14, 15, 16, 17, 18, 19, 20, 21] (by kernel_rfl) ⟨⟨_, rfl⟩, ⟨_, rfl⟩, ⟨_, rfl⟩, ⟨_, rfl⟩, ⟨_, rfl⟩, ⟨_, rfl⟩, ⟨_, rfl⟩, ⟨_, rfl⟩, ⟨_, rfl⟩, ⟨_, rfl⟩, ⟨_, rfl⟩, ⟨_, rfl⟩, ⟨_, rfl⟩, ⟨_, rfl⟩, ⟨_, rfl⟩, ⟨_, rfl⟩, ⟨_, rfl⟩, ⟨_, rfl⟩, ⟨_, rfl⟩, ⟨_, rfl⟩, ⟨_, rfl⟩, ⟨_, rfl⟩, trivial⟩⟩ rfl
    case o12x1 =>
      intro L ptrs x hx hL _ hs _
      have h15 : L 21 = false := hs 21 (by kernel_rfl)
      have HO : OW kC 33 x B ao cap (swr zC l a b i) := by have hx2 := hx.2; rw [h15] at hx2; exact hx2
      exact opX_val (v := .pointer (pK kC ao (b + i) 0)) rfl (run_ixK rC (HO.re) _ _ rfl (by rw [swr_len]; rfl) (b + i) rfl (by rw [swr_len]; omega)) ⟨hx, StM.vals [0, 1, 2, 3, 4, 5, 6, 7, 8, 9, 10, 11, 12, 13, 14, 15, 16, 17, 18, 19, 20, 21] (by kernel_rfl) ⟨⟨_, rfl⟩, ⟨_, rfl⟩, ⟨_, rfl⟩, ⟨_, rfl⟩, ⟨_, rfl⟩, ⟨_, rfl⟩, ⟨_, rfl⟩, ⟨_, rfl⟩, ⟨_, rfl⟩, ⟨_, rfl⟩, ⟨_, rfl⟩, ⟨_, rfl⟩, ⟨_, rfl⟩, ⟨_, rfl⟩, ⟨_, rfl⟩, ⟨_, rfl⟩, ⟨_, rfl⟩, ⟨_, rfl⟩, ⟨_, rfl⟩, ⟨_, rfl⟩, ⟨_, rfl⟩, ⟨_, rfl⟩, trivial⟩⟩ rfl
    case o13x1 =>
      intro L ptrs x hx hL _ hs _
      have h15 : L 21 = false := hs 21 (by kernel_rfl)
      have HO : OW kC 33 x B ao cap (swr zC l a b i) := by have hx2 := hx.2; rw [h15] at hx2; exact hx2
      exact opX_val (v := .agg (cdA ((swr zC l a b i).getD (b + i) zC))) rfl (run_ldKC (HO.re) _ rfl (b + i) rfl (by rw [swr_len]; omega)) ⟨hx, StM.vals [0, 1, 2, 3, 4, 5, 6, 7, 8, 9, 10, 11, 12, 13, 14, 15, 16, 17, 18, 19, 20, 21] (by kernel_rfl) ⟨⟨_, rfl⟩, ⟨_, rfl⟩, ⟨_, rfl⟩, ⟨_, rfl⟩, ⟨_, rfl⟩, ⟨_, rfl⟩, ⟨_, rfl⟩, ⟨_, rfl⟩, ⟨_, rfl⟩, ⟨_, rfl⟩, ⟨_, rfl⟩, ⟨_, rfl⟩, ⟨_, rfl⟩, ⟨_, rfl⟩, ⟨_, rfl⟩, ⟨_, rfl⟩, ⟨_, rfl⟩, ⟨_, rfl⟩, ⟨_, rfl⟩, ⟨_, rfl⟩, ⟨_, rfl⟩, ⟨_, rfl⟩, trivial⟩⟩ rfl
    case o14x1 => exact fun L ptrs x hx _ _ _ _ => opX_val (v := .slice ao l.length cap) rfl (rfl) ⟨hx, StM.vals [0, 1, 2, 3, 4, 5, 6, 7, 8, 9, 10, 11, 12, 13, 14, 15, 16, 17, 18, 19, 20, 21] (by kernel_rfl) ⟨⟨_, rfl⟩, ⟨_, rfl⟩, ⟨_, rfl⟩, ⟨_, rfl⟩, ⟨_, rfl⟩, ⟨_, rfl⟩, ⟨_, rfl⟩, ⟨_, rfl⟩, ⟨_, rfl⟩, ⟨_, rfl⟩, ⟨_, rfl⟩, ⟨_, rfl⟩, ⟨_, rfl⟩, ⟨_, rfl⟩, ⟨_, rfl⟩, ⟨_, rfl⟩, ⟨_, rfl⟩, ⟨_, rfl⟩, ⟨_, rfl⟩, ⟨_, rfl⟩, ⟨_, rfl⟩, ⟨_, rfl⟩, trivial⟩⟩ rfl
    case o15x1 => exact fun L ptrs x hx _ _ _ _ => opX_val (v := .int .i64 ((a : Nat) : Int)) rfl (rfl) ⟨hx, StM.vals [0, 1, 2, 3, 4, 5, 6, 7, 8, 9, 10, 11, 12, 13, 14, 15, 16, 17, 18, 19, 20, 21] (by kernel_rfl) ⟨⟨_, rfl⟩, ⟨_, rfl⟩, ⟨_, rfl⟩, ⟨_, rfl⟩, ⟨_, rfl⟩, ⟨_, rfl⟩, ⟨_, rfl⟩, ⟨_, rfl⟩, ⟨_, rfl⟩, ⟨_, rfl⟩, ⟨_, rfl⟩, ⟨_, rfl⟩, ⟨_, rfl⟩, ⟨_, rfl⟩, ⟨_, rfl⟩, ⟨_, rfl⟩, ⟨_, rfl⟩, ⟨_, rfl⟩, ⟨_, rfl⟩, ⟨_, rfl⟩, ⟨_, rfl⟩, ⟨_, rfl⟩, trivial⟩⟩ rfl
    case o16x1 => exact fun L ptrs x hx _ _ _ _ => opX_val (v := .int .i64 ((i : Nat) : Int)) rfl (rfl) ⟨hx, StM.vals [0, 1, 2, 3, 4, 5, 6, 7, 8, 9, 10, 11, 12, 13, 14, 15, 16, 17, 18, 19, 20, 21] (by kernel_rfl) ⟨⟨_, rfl⟩, ⟨_, rfl⟩, ⟨_, rfl⟩, ⟨_, rfl⟩, ⟨_, rfl⟩, ⟨_, rfl⟩, ⟨_, rfl⟩, ⟨_, rfl⟩, ⟨_, rfl⟩, ⟨_, rfl⟩, ⟨_, rfl⟩, ⟨_, rfl⟩, ⟨_, rfl⟩, ⟨_, rfl⟩, ⟨_, rfl⟩, ⟨_, rfl⟩, ⟨_, rfl⟩, ⟨_, rfl⟩, ⟨_, rfl⟩, ⟨_, rfl⟩, ⟨_, rfl⟩, ⟨_, rfl⟩, trivial⟩⟩ rfl
    case o17x1 => exact fun L ptrs x hx _ _ _ _ => opX_val (v := .int .i64 ((a + i : Nat) : Int)) rfl (run_addI 3 _ _ _ rfl ((a : Nat) : Int) ((i : Nat) : Int) ((a + i : Nat) : Int) rfl rfl (by omega) (by omega) (by omega) _) ⟨hx, StM.vals [0, 1, 2, 3, 4, 5, 6, 7, 8, 9, 10, 11, 12, 13, 14, 15, 16, 17, 18, 19, 20, 21] (by kernel_rfl) ⟨⟨_, rfl⟩, ⟨_, rfl⟩, ⟨_, rfl⟩, ⟨_, rfl⟩, ⟨_, rfl⟩, ⟨_, rfl⟩, ⟨_, rfl⟩, ⟨_, rfl⟩, ⟨_, rfl⟩, ⟨_, rfl⟩, ⟨_, rfl⟩, ⟨_, rfl⟩, ⟨_, rfl⟩, ⟨_, rfl⟩, ⟨_, rfl⟩, ⟨_, rfl⟩, ⟨_, rfl⟩, ⟨_, rfl⟩, ⟨_, rfl⟩, ⟨_, rfl⟩, ⟨_, rfl⟩, ⟨_, rfl⟩, trivial⟩⟩ rfl
    case o18x1 =>
      intro L ptrs x hx hL _ hs _
      have h15 : L 21 = false := hs 21 (by kernel_rfl)
      have HO : OW kC 33 x B ao cap (swr zC l a b i) := by have hx2 := hx.2; rw [h15] at hx2; exact hx2
      exact opX_val (v := .pointer (pK kC ao (a + i) 0)) rfl (run_ixK rC (HO.re) _ _ rfl (by rw [swr_len]; rfl) (a + i) rfl (by rw [swr_len]; omega)) ⟨hx, StM.vals [0, 1, 2, 3, 4, 5, 6, 7, 8, 9, 10, 11, 12, 13, 14, 15, 16, 17, 18, 19, 20, 21] (by kernel_rfl) ⟨⟨_, rfl⟩, ⟨_, rfl⟩, ⟨_, rfl⟩, ⟨_, rfl⟩, ⟨_, rfl⟩, ⟨_, rfl⟩, ⟨_, rfl⟩, ⟨_, rfl⟩, ⟨_, rfl⟩, ⟨_, rfl⟩, ⟨_, rfl⟩, ⟨_, rfl⟩, ⟨_, rfl⟩, ⟨_, rfl⟩, ⟨_, rfl⟩, ⟨_, rfl⟩, ⟨_, rfl⟩, ⟨_, rfl⟩, ⟨_, rfl⟩, ⟨_, rfl⟩, ⟨_, rfl⟩, ⟨_, rfl⟩, trivial⟩⟩ rfl
    case o19x1 =>
      intro L ptrs x hx hL _ hs _
      have h15 : L 21 = false := hs 21 (by kernel_rfl)
      have HO : OW kC 33 x B ao cap (swr zC l a b i) := by have hx2 := hx.2; rw [h15] at hx2; exact hx2
      exact opX_val (v := .agg (cdA ((swr zC l a b i).getD (a + i) zC))) rfl (run_ldKC (HO.re) _ rfl (a + i) rfl (by rw [swr_len]; omega)) ⟨hx, StM.vals [0, 1, 2, 3, 4, 5, 6, 7, 8, 9, 10, 11, 12, 13, 14, 15, 16, 17, 18, 19, 20, 21] (by kernel_rfl) ⟨⟨_, rfl⟩, ⟨_, rfl⟩, ⟨_, rfl⟩, ⟨_, rfl⟩, ⟨_, rfl⟩, ⟨_, rfl⟩, ⟨_, rfl⟩, ⟨_, rfl⟩, ⟨_, rfl⟩, ⟨_, rfl⟩, ⟨_, rfl⟩, ⟨_, rfl⟩, ⟨_, rfl⟩, ⟨_, rfl⟩, ⟨_, rfl⟩, ⟨_, rfl⟩, ⟨_, rfl⟩, ⟨_, rfl⟩, ⟨_, rfl⟩, ⟨_, rfl⟩, ⟨_, rfl⟩, ⟨_, rfl⟩, trivial⟩⟩ rfl
    case o20x1 =>
      intro L ptrs x hx hL _ hs _
      have h15 : L 21 = false := hs 21 (by kernel_rfl)
      have HO : OW kC 33 x B ao cap (swr zC l a b i) := by have hx2 := hx.2; rw [h15] at hx2; exact hx2
      exact opX_val (v := .pointer (pK kC ao (a + i) 0)) rfl (run_ixK rC (HO.re) _ _ rfl (by rw [swr_len]; rfl) (a + i) rfl (by rw [swr_len]; omega)) ⟨hx, StM.vals [0, 1, 2, 3, 4, 5, 6, 7, 8, 9, 10, 11, 12, 13, 14, 15, 16, 17, 18, 19, 20, 21] (by kernel_rfl) ⟨⟨_, rfl⟩, ⟨_, rfl⟩, ⟨_, rfl⟩, ⟨_, rfl⟩, ⟨_, rfl⟩, ⟨_, rfl⟩, ⟨_, rfl⟩, ⟨_, rfl⟩, ⟨_, rfl⟩, ⟨_, rfl⟩, ⟨_, rfl⟩, ⟨_, rfl⟩, ⟨_, rfl⟩, ⟨_, rfl⟩, ⟨_, rfl⟩, ⟨_, rfl⟩, ⟨_, rfl⟩, ⟨_, rfl⟩, ⟨_, rfl⟩, ⟨_, rfl⟩, ⟨_, rfl⟩, ⟨_, rfl⟩, trivial⟩⟩ rfl
    case o21x1 =>
      intro L ptrs x hx hL _ hs _
      have h15 : L 21 = false := hL
      have HO : OW kC 33 x B ao cap (swr zC l a b i) := by have hx2 := hx.2; rw [h15] at hx2; exact hx2
      refine opX_stK _ rfl 33 _ _ rfl HO (a + i) 0 (by rw [swr_len]; omega) rfl (.agg (cdA ((swr zC l a b i).getD (b + i) zC))) rfl (cdL ((swr zC l a b i).getD (b + i) zC)) rfl (siCl _) (by rw [cdL_len]; decide) (by rw [cdL_len]; decide) (cdL_one _) ((swr zC l a b i).getD (b + i) zC) (spl_cd _ _) (atC HO.re (by rw [swr_len]; omega)) ?_
      intro y HO2 G2
      exact ⟨⟨⟨hx.1.trans G2, HO2⟩, StM.vals [0, 1, 2, 3, 4, 5, 6, 7, 8, 9, 10, 11, 12, 13, 14, 15, 16, 17, 18, 19, 20, 21] (by kernel_rfl) ⟨⟨_, rfl⟩, ⟨_, rfl⟩, ⟨_, rfl⟩, ⟨_, rfl⟩, ⟨_, rfl⟩, ⟨_, rfl⟩, ⟨_, rfl⟩, ⟨_, rfl⟩, ⟨_, rfl⟩, ⟨_, rfl⟩, ⟨_, rfl⟩, ⟨_, rfl⟩, ⟨_, rfl⟩, ⟨_, rfl⟩, ⟨_, rfl⟩, ⟨_, rfl⟩, ⟨_, rfl⟩, ⟨_, rfl⟩, ⟨_, rfl⟩, ⟨_, rfl⟩, ⟨_, rfl⟩, ⟨_, rfl⟩, trivial⟩⟩, rfl⟩
    intro ptrs w1 HJ _
    simp only [List.drop_succ_cons, List.drop_zero]
    replace CK := CK.gros HJ.1 HO.own
    replace GG := GG.trans HJ.1
    have xO := atC HO.re (j := a + i) (by rw [swr_len]; omega)
    clear HO
    have HO : OW kC 33 w1 B ao cap ((swr zC l a b i).set (a + i) ((swr zC l a b i).getD (b + i) zC)) := HJ.2
    clear HJ
    refine s_val 37 rfl rfl (.pointer (pK kC ao (b + i) 0)) (run_ixK rC HO.re _ _ rfl (by rw [List.length_set, swr_len]; rfl) (b + i) rfl (by rw [List.length_set, swr_len]; omega)) ?_
    refine nr ?_; intro U h; simp only [z0, z1] at h; subst h
    refine s_stK rfl rfl 33 _ _ rfl HO (b + i) 0 (by rw [List.length_set, swr_len]; omega) rfl (.agg (cdA ((swr zC l a b i).getD (a + i) zC))) rfl (cdL ((swr zC l a b i).getD (a + i) zC)) rfl (siCl _) (by rw [cdL_len]; decide) (by rw [cdL_len]; decide) (cdL_one _) ((swr zC l a b i).getD (a + i) zC) (spl_cd _ _) xO ?_
    intro w2 HO2 G2
    replace CK := CK.gros G2 HO.own
    replace GG := GG.trans G2
    clear G2 HO xO
    have HO : OW kC 33 w2 B ao cap (swp zC (swr zC l a b i) (a + i) (b + i)) := HO2
    clear HO2
    refine wpList_nil ?_
    refine blk_n ?_
    refine then_n ?_
    refine wp_region_lit ?_
    refine s_val 14 rfl rfl (.int .i64 ((i : Nat) : Int)) (rfl) ?_
    refine nr ?_; intro U h; simp only [z0, z1] at h; subst h
    refine s_val 15 rfl rfl (.int .i64 ((i + 1 : Nat) : Int)) (run_addI 3 _ _ _ rfl ((i : Nat) : Int) 1 ((i + 1 : Nat) : Int) rfl rfl (by omega) (by omega) (by omega) _) ?_
    refine nr ?_; intro U h; simp only [z0, z1] at h; subst h
    refine s_val 10 rfl rfl (.int .i64 ((i + 1 : Nat) : Int)) (rfl) ?_
    refine nr ?_; intro U h; simp only [z0, z1] at h; subst h
    refine wpList_nil ?_
    refine then_n ?_
    exact ⟨n + 1 - (i + 1), by omega, i + 1, (fun kz => ([.int .i64 ((i : Nat) : Int), .int .i64 ((n : Nat) : Int), .bool true, .int .i64 ((i : Nat) : Int), .int .i64 ((i + 1 : Nat) : Int), .slice ao l.length cap, .int .i64 ((a : Nat) : Int), .int .i64 ((i : Nat) : Int), .int .i64 ((a + i : Nat) : Int), .slice ao l.length cap, .int .i64 ((b : Nat) : Int), .int .i64 ((i : Nat) : Int), .int .i64 ((b + i : Nat) : Int), .slice ao l.length cap, .int .i64 ((b : Nat) : Int), .int .i64 ((i : Nat) : Int), .int .i64 ((b + i : Nat) : Int), .pointer (pK kC ao (b + i) 0), .agg (cdA ((swr zC l a b i).getD (b + i) zC)), .slice ao l.length cap, .int .i64 ((a : Nat) : Int), .int .i64 ((i : Nat) : Int), .int .i64 ((a + i : Nat) : Int), .pointer (pK kC ao (a + i) 0), .agg (cdA ((swr zC l a b i).getD (a + i) zC)), .pointer (pK kC ao (a + i) 0), .pointer (pK kC ao (b + i) 0)] : List Value).getD kz undef), rfl, rfl, by omega, GG, HO, CK⟩
set_option maxRecDepth 100000 in
set_option maxHeartbeats 4000000 in
theorem rotate_any (w : World) (B : Nat) (ao : Option Addr) (cap : Nat) (l : List Cd) (c : Nat) (HO : OW kC 33 w B ao cap l) (CK : CloC w c) (hl : l.length ≤ 1000000) (a m b : Nat) (ha : a < m) (hm : m < b) (hb : b ≤ l.length) : Calls Try.prog 59 #[.slice ao l.length cap, .int .i64 ((a : Nat) : Int), .int .i64 ((m : Nat) : Int), .int .i64 ((b : Nat) : Int), .func (.func 40) #[] #[.pointer (some ⟨c, 0, none⟩)]] w (SrtP w B ao cap (tgt l m (m - a) (b - m))) := by
  refine s_enter Try.func59 rfl Try.ntmps59 [.slice ao l.length cap, .int .i64 ((a : Nat) : Int), .int .i64 ((m : Nat) : Int), .int .i64 ((b : Nat) : Int), .func (.func 40) #[] #[.pointer (some ⟨c, 0, none⟩)]] [.slice ao l.length cap, .int .i64 ((a : Nat) : Int), .int .i64 ((m : Nat) : Int), .int .i64 ((b : Nat) : Int), .func (.func 40) #[] #[.pointer (some ⟨c, 0, none⟩)], undef, undef, undef, undef, undef, undef, undef, undef, undef, undef, undef, undef, undef, undef, undef, undef, undef, undef, undef, undef, undef, undef, undef, undef, undef, undef, undef, undef, undef, undef, undef, undef, undef, undef, undef, undef, undef, undef, undef, undef, undef, undef, undef, undef, undef, undef, undef, undef, undef, undef, undef, undef, undef] rfl ?_
  have GG := GroS.refl (Go.Proofs.Ytfabgonoonanfaa.blk ao) w
  refine wp_seq ?_
  refine wp_region_lit ?_
  refine s_val 12 rfl rfl (.int .i64 ((m : Nat) : Int)) (rfl) ?_
  refine nr ?_; intro U h; simp only [z0, z1] at h; subst h
  refine s_val 13 rfl rfl (.int .i64 ((a : Nat) : Int)) (rfl) ?_
  refine nr ?_; intro U h; simp only [z0, z1] at h; subst h
  refine s_val 14 rfl rfl (.int .i64 ((m - a : Nat) : Int)) (run_subI 3 _ _ _ rfl ((m : Nat) : Int) ((a : Nat) : Int) ((m - a : Nat) : Int) rfl rfl (by omega) (by omega) (by omega) _) ?_
  refine nr ?_; intro U h; simp only [z0, z1] at h; subst h
  refine s_val 10 rfl rfl (.int .i64 ((m - a : Nat) : Int)) (rfl) ?_
  refine nr ?_; intro U h; simp only [z0, z1] at h; subst h
  refine wpList_nil ?_
  refine then_n ?_
  refine wp_seq ?_
  refine wp_region_lit ?_
  refine s_val 15 rfl rfl (.int .i64 ((b : Nat) : Int)) (rfl) ?_
  refine nr ?_; intro U h; simp only [z0, z1] at h; subst h
  refine s_val 16 rfl rfl (.int .i64 ((m : Nat) : Int)) (rfl) ?_
  refine nr ?_; intro U h; simp only [z0, z1] at h; subst h
  refine s_val 17 rfl rfl (.int .i64 ((b - m : Nat) : Int)) (run_subI 3 _ _ _ rfl ((b : Nat) : Int) ((m : Nat) : Int) ((b - m : Nat) : Int) rfl rfl (by omega) (by omega) (by omega) _) ?_
  refine nr ?_; intro U h; simp only [z0, z1] at h; subst h
  refine s_val 11 rfl rfl (.int .i64 ((b - m : Nat) : Int)) (rfl) ?_
  refine nr ?_; intro U h; simp only [z0, z1] at h; subst h
  refine wpList_nil ?_
  refine then_n ?_
  refine wp_seq ?_
  refine wp_block ?_
  refine wp_loopN (fun mz az wv => ∃ (i : Nat) (j : Nat) (r : List Cd) (us1 : Nat → Value), mz = i + j ∧ az = ⟨[.slice ao l.length cap, .int .i64 ((a : Nat) : Int), .int .i64 ((m : Nat) : Int), .int .i64 ((b : Nat) : Int), .func (.func 40) #[] #[.pointer (some ⟨c, 0, none⟩)], undef, undef, undef, undef, undef, .int .i64 ((i : Nat) : Int), .int .i64 ((j : Nat) : Int), .int .i64 ((m : Nat) : Int), .int .i64 ((a : Nat) : Int), .int .i64 ((m - a : Nat) : Int), .int .i64 ((b : Nat) : Int), .int .i64 ((m : Nat) : Int), .int .i64 ((b - m : Nat) : Int), us1 0, us1 1, us1 2, us1 3, us1 4, us1 5, us1 6, us1 7, us1 8, us1 9, us1 10, us1 11, us1 12, us1 13, us1 14, us1 15, us1 16, us1 17, us1 18, us1 19, us1 20, us1 21, us1 22, us1 23, us1 24, us1 25, us1 26, us1 27, us1 28, us1 29, us1 30, us1 31, undef, undef, undef, undef, undef, undef, undef, undef].toArray, []⟩ ∧ 0 < i ∧ 0 < j ∧ i ≤ m - a ∧ j ≤ b - m ∧ r.length = l.length ∧ tgt r m i j = tgt l m (m - a) (b - m) ∧ GroS (Go.Proofs.Ytfabgonoonanfaa.blk ao) w wv ∧ OW kC 33 wv B ao cap r ∧ CloC wv c) ?_ _ ⟨m - a, b - m, l, (fun kz => ([undef, undef, undef, undef, undef, undef, undef, undef, undef, undef, undef, undef, undef, undef, undef, undef, undef, undef, undef, undef, undef, undef, undef, undef, undef, undef, undef, undef, undef, undef, undef, undef] : List Value).getD kz undef), rfl, rfl, by omega, by omega, Nat.le_refl _, Nat.le_refl _, rfl, rfl, GG, HO, CK⟩
  clear GG HO CK
  rintro mz az wv ⟨i, j, r, us1, rfl, rfl, hi, hj, him, hjm, hr, ht, GG, HO, CK⟩
  refine wp_seq ?_
  refine wp_seq ?_
  refine wp_region_lit ?_
  refine s_val 18 rfl rfl (.int .i64 ((i : Nat) : Int)) (rfl) ?_
  refine nr ?_; intro U h; simp only [z0, z1] at h; subst h
  refine s_val 19 rfl rfl (.int .i64 ((j : Nat) : Int)) (rfl) ?_
  refine nr ?_; intro U h; simp only [z0, z1] at h; subst h
  cases hn : decide (((i : Nat) : Int) = ((j : Nat) : Int))
  · have hnl : i ≠ j := by have := of_decide_eq_false hn; omega
    refine s_val 20 rfl rfl (.bool true) (run_neq_k 3 .i64 _ _ _ rfl Try.underlying3 ((i : Nat) : Int) ((j : Nat) : Int) rfl rfl true hn _) ?_
    refine nr ?_; intro U h; simp only [z0, z1] at h; subst h
    refine wpList_nil ?_
    refine then_n ?_
    refine wp_cond_true rfl ?_
    refine wp_skip ?_
    refine then_n ?_
    refine wp_block ?_
    refine wp_seq ?_
    refine wp_region_lit ?_
    refine s_val 21 rfl rfl (.int .i64 ((i : Nat) : Int)) (rfl) ?_
    refine nr ?_; intro U h; simp only [z0, z1] at h; subst h
    refine s_val 22 rfl rfl (.int .i64 ((j : Nat) : Int)) (rfl) ?_
    refine nr ?_; intro U h; simp only [z0, z1] at h; subst h
    cases hg : decide (((j : Nat) : Int) < ((i : Nat) : Int))
    · have hgl : i < j := by have := of_decide_eq_false hg; omega
      refine s_val 23 rfl rfl (.bool false) (run_gtrT 3 _ _ _ rfl ((i : Nat) : Int) ((j : Nat) : Int) rfl rfl false hg _) ?_
      refine nr ?_; intro U h; simp only [z0, z1] at h; subst h
      refine wpList_nil ?_
      refine then_n ?_
      refine wp_cond_false rfl ?_
      refine wp_seq ?_
      refine wp_region_lit ?_
      refine s_val 35 rfl rfl (.slice ao l.length cap) (rfl) ?_
      refine nr ?_; intro U h; simp only [z0, z1] at h; subst h
      refine s_val 36 rfl rfl (.int .i64 ((m : Nat) : Int)) (rfl) ?_
      refine nr ?_; intro U h; simp only [z0, z1] at h; subst h
      refine s_val 37 rfl rfl (.int .i64 ((i : Nat) : Int)) (rfl) ?_
      refine nr ?_; intro U h; simp only [z0, z1] at h; subst h
      refine s_val 38 rfl rfl (.int .i64 ((m - i : Nat) : Int)) (run_subI 3 _ _ _ rfl ((m : Nat) : Int) ((i : Nat) : Int) ((m - i : Nat) : Int) rfl rfl (by omega) (by omega) (by omega) _) ?_
      refine nr ?_; intro U h; simp only [z0, z1] at h; subst h
      refine s_val 39 rfl rfl (.int .i64 ((m : Nat) : Int)) (rfl) ?_
      refine nr ?_; intro U h; simp only [z0, z1] at h; subst h
      refine s_val 40 rfl rfl (.int .i64 ((j : Nat) : Int)) (rfl) ?_
      refine nr ?_; intro U h; simp only [z0, z1] at h; subst h
      refine s_val 41 rfl rfl (.int .i64 ((m + j : Nat) : Int)) (run_addI 3 _ _ _ rfl ((m : Nat) : Int) ((j : Nat) : Int) ((m + j : Nat) : Int) rfl rfl (by omega) (by omega) (by omega) _) ?_
      refine nr ?_; intro U h; simp only [z0, z1] at h; subst h
      refine s_val 42 rfl rfl (.int .i64 ((i : Nat) : Int)) (rfl) ?_
      refine nr ?_; intro U h; simp only [z0, z1] at h; subst h
      refine s_val 43 rfl rfl (.int .i64 ((m + j - i : Nat) : Int)) (run_subI 3 _ _ _ rfl ((m + j : Nat) : Int) ((i : Nat) : Int) ((m + j - i : Nat) : Int) rfl rfl (by omega) (by omega) (by omega) _) ?_
      refine nr ?_; intro U h; simp only [z0, z1] at h; subst h
      refine s_val 44 rfl rfl (.int .i64 ((i : Nat) : Int)) (rfl) ?_
      refine nr ?_; intro U h; simp only [z0, z1] at h; subst h
      refine s_val 45 rfl rfl (.func (.func 40) #[] #[.pointer (some ⟨c, 0, none⟩)]) (rfl) ?_
      refine nr ?_; intro U h; simp only [z0, z1] at h; subst h
      refine s_callx 46 rfl rfl _ 63 Try.call63 rfl rfl _ rfl [.slice ao l.length cap, .int .i64 ((m - i : Nat) : Int), .int .i64 ((m + j - i : Nat) : Int), .int .i64 ((i : Nat) : Int), .func (.func 40) #[] #[.pointer (some ⟨c, 0, none⟩)]] rfl (by have h_ := swapRange_any _ B ao cap r c HO CK (by rw [hr]; exact hl) (m - i) (m + j - i) i (by rw [hr]; omega) (by rw [hr]; omega); rw [hr] at h_; exact h_) (by rintro _ _ ⟨he, _⟩; exact ⟨_, he⟩) ?_
      rintro v w1 ⟨he, G2, HO2⟩
      cases he
      replace CK := CK.gros G2 HO.own
      replace GG := GG.trans G2
      clear G2 HO
      have HO := HO2
      clear HO2
      refine nr ?_; intro U h; simp only [z0, z1] at h; subst h
      refine wpList_nil ?_
      refine then_n ?_
      refine wp_region_lit ?_
      refine s_val 47 rfl rfl (.int .i64 ((j : Nat) : Int)) (rfl) ?_
      refine nr ?_; intro U h; simp only [z0, z1] at h; subst h
      refine s_val 48 rfl rfl (.int .i64 ((i : Nat) : Int)) (rfl) ?_
      refine nr ?_; intro U h; simp only [z0, z1] at h; subst h
      refine s_val 49 rfl rfl (.int .i64 ((j - i : Nat) : Int)) (run_subI 3 _ _ _ rfl ((j : Nat) : Int) ((i : Nat) : Int) ((j - i : Nat) : Int) rfl rfl (by omega) (by omega) (by omega) _) ?_
      refine nr ?_; intro U h; simp only [z0, z1] at h; subst h
      refine s_val 11 rfl rfl (.int .i64 ((j - i : Nat) : Int)) (rfl) ?_
      refine nr ?_; intro U h; simp only [z0, z1] at h; subst h
      refine wpList_nil ?_
      refine blk_n ?_
      refine then_n ?_
      exact ⟨i + (j - i), by omega, i, j - i, _, (fun kz => ([.int .i64 ((i : Nat) : Int), .int .i64 ((j : Nat) : Int), .bool true, .int .i64 ((i : Nat) : Int), .int .i64 ((j : Nat) : Int), .bool false, us1 6, us1 7, us1 8, us1 9, us1 10, us1 11, us1 12, us1 13, us1 14, us1 15, us1 16, .slice ao l.length cap, .int .i64 ((m : Nat) : Int), .int .i64 ((i : Nat) : Int), .int .i64 ((m - i : Nat) : Int), .int .i64 ((m : Nat) : Int), .int .i64 ((j : Nat) : Int), .int .i64 ((m + j : Nat) : Int), .int .i64 ((i : Nat) : Int), .int .i64 ((m + j - i : Nat) : Int), .int .i64 ((i : Nat) : Int), .func (.func 40) #[] #[.pointer (some ⟨c, 0, none⟩)], .tuple #[], .int .i64 ((j : Nat) : Int), .int .i64 ((i : Nat) : Int), .int .i64 ((j - i : Nat) : Int)] : List Value).getD kz undef), rfl, rfl, by omega, by omega, by omega, by omega, by rw [swr_len]; exact hr, (tgt_lt zC hgl (by omega) (by omega)).trans ht, GG, HO, CK⟩
    · have hgl : j < i := by have := of_decide_eq_true hg; omega
      refine s_val 23 rfl rfl (.bool true) (run_gtrT 3 _ _ _ rfl ((i : Nat) : Int) ((j : Nat) : Int) rfl rfl true hg _) ?_
      refine nr ?_; intro U h; simp only [z0, z1] at h; subst h
      refine wpList_nil ?_
      refine then_n ?_
      refine wp_cond_true rfl ?_
      refine wp_seq ?_
      refine wp_region_lit ?_
      refine s_val 24 rfl rfl (.slice ao l.length cap) (rfl) ?_
      refine nr ?_; intro U h; simp only [z0, z1] at h; subst h
      refine s_val 25 rfl rfl (.int .i64 ((m : Nat) : Int)) (rfl) ?_
      refine nr ?_; intro U h; simp only [z0, z1] at h; subst h
      refine s_val 26 rfl rfl (.int .i64 ((i : Nat) : Int)) (rfl) ?_
      refine nr ?_; intro U h; simp only [z0, z1] at h; subst h
      refine s_val 27 rfl rfl (.int .i64 ((m - i : Nat) : Int)) (run_subI 3 _ _ _ rfl ((m : Nat) : Int) ((i : Nat) : Int) ((m - i : Nat) : Int) rfl rfl (by omega) (by omega) (by omega) _) ?_
      refine nr ?_; intro U h; simp only [z0, z1] at h; subst h
      refine s_val 28 rfl rfl (.int .i64 ((m : Nat) : Int)) (rfl) ?_
      refine nr ?_; intro U h; simp only [z0, z1] at h; subst h
      refine s_val 29 rfl rfl (.int .i64 ((j : Nat) : Int)) (rfl) ?_
      refine nr ?_; intro U h; simp only [z0, z1] at h; subst h
      refine s_val 30 rfl rfl (.func (.func 40) #[] #[.pointer (some ⟨c, 0, none⟩)]) (rfl) ?_
      refine nr ?_; intro U h; simp only [z0, z1] at h; subst h
      refine s_callx 31 rfl rfl _ 63 Try.call63 rfl rfl _ rfl [.slice ao l.length cap, .int .i64 ((m - i : Nat) : Int), .int .i64 ((m : Nat) : Int), .int .i64 ((j : Nat) : Int), .func (.func 40) #[] #[.pointer (some ⟨c, 0, none⟩)]] rfl (by have h_ := swapRange_any _ B ao cap r c HO CK (by rw [hr]; exact hl) (m - i) m j (by rw [hr]; omega) (by rw [hr]; omega); rw [hr] at h_; exact h_) (by rintro _ _ ⟨he, _⟩; exact ⟨_, he⟩) ?_
      rintro v w1 ⟨he, G2, HO2⟩
      cases he
      replace CK := CK.gros G2 HO.own
      replace GG := GG.trans G2
      clear G2 HO
      have HO := HO2
      clear HO2
      refine nr ?_; intro U h; simp only [z0, z1] at h; subst h
      refine wpList_nil ?_
      refine then_n ?_
      refine wp_region_lit ?_
      refine s_val 32 rfl rfl (.int .i64 ((i : Nat) : Int)) (rfl) ?_
      refine nr ?_; intro U h; simp only [z0, z1] at h; subst h
      refine s_val 33 rfl rfl (.int .i64 ((j : Nat) : Int)) (rfl) ?_
      refine nr ?_; intro U h; simp only [z0, z1] at h; subst h
      refine s_val 34 rfl rfl (.int .i64 ((i - j : Nat) : Int)) (run_subI 3 _ _ _ rfl ((i : Nat) : Int) ((j : Nat) : Int) ((i - j : Nat) : Int) rfl rfl (by omega) (by omega) (by omega) _) ?_
      refine nr ?_; intro U h; simp only [z0, z1] at h; subst h
      refine s_val 10 rfl rfl (.int .i64 ((i - j : Nat) : Int)) (rfl) ?_
      refine nr ?_; intro U h; simp only [z0, z1] at h; subst h
      refine wpList_nil ?_
      refine blk_n ?_
      refine then_n ?_
      exact ⟨i - j + j, by omega, i - j, j, _, (fun kz => ([.int .i64 ((i : Nat) : Int), .int .i64 ((j : Nat) : Int), .bool true, .int .i64 ((i : Nat) : Int), .int .i64 ((j : Nat) : Int), .bool true, .slice ao l.length cap, .int .i64 ((m : Nat) : Int), .int .i64 ((i : Nat) : Int), .int .i64 ((m - i : Nat) : Int), .int .i64 ((m : Nat) : Int), .int .i64 ((j : Nat) : Int), .func (.func 40) #[] #[.pointer (some ⟨c, 0, none⟩)], .tuple #[], .int .i64 ((i : Nat) : Int), .int .i64 ((j : Nat) : Int), .int .i64 ((i - j : Nat) : Int), us1 17, us1 18, us1 19, us1 20, us1 21, us1 22, us1 23, us1 24, us1 25, us1 26, us1 27, us1 28, us1 29, us1 30, us1 31] : List Value).getD kz undef), rfl, rfl, by omega, by omega, by omega, by omega, by rw [swr_len]; exact hr, (tgt_gt zC hgl (by omega) (by omega)).trans ht, GG, HO, CK⟩
  · have hne : i = j := by have := of_decide_eq_true hn; omega
    rw [← hne] at ht
    refine s_val 20 rfl rfl (.bool false) (run_neq_k 3 .i64 _ _ _ rfl Try.underlying3 ((i : Nat) : Int) ((j : Nat) : Int) rfl rfl false hn _) ?_
    refine nr ?_; intro U h; simp only [z0, z1] at h; subst h
    refine wpList_nil ?_
    refine then_n ?_
    refine wp_cond_false rfl ?_
    refine wp_exit ?_
    refine then_x ?_
    refine then_x ?_
    refine blk_x ?_
    refine then_n ?_
    refine wp_region_lit ?_
    refine s_val 50 rfl rfl (.slice ao l.length cap) (rfl) ?_
    refine nr ?_; intro U h; simp only [z0, z1] at h; subst h
    refine s_val 51 rfl rfl (.int .i64 ((m : Nat) : Int)) (rfl) ?_
    refine nr ?_; intro U h; simp only [z0, z1] at h; subst h
    refine s_val 52 rfl rfl (.int .i64 ((i : Nat) : Int)) (rfl) ?_
    refine nr ?_; intro U h; simp only [z0, z1] at h; subst h
    refine s_val 53 rfl rfl (.int .i64 ((m - i : Nat) : Int)) (run_subI 3 _ _ _ rfl ((m : Nat) : Int) ((i : Nat) : Int) ((m - i : Nat) : Int) rfl rfl (by omega) (by omega) (by omega) _) ?_
    refine nr ?_; intro U h; simp only [z0, z1] at h; subst h
    refine s_val 54 rfl rfl (.int .i64 ((m : Nat) : Int)) (rfl) ?_
    refine nr ?_; intro U h; simp only [z0, z1] at h; subst h
    refine s_val 55 rfl rfl (.int .i64 ((i : Nat) : Int)) (rfl) ?_
    refine nr ?_; intro U h; simp only [z0, z1] at h; subst h
    refine s_val 56 rfl rfl (.func (.func 40) #[] #[.pointer (some ⟨c, 0, none⟩)]) (rfl) ?_
    refine nr ?_; intro U h; simp only [z0, z1] at h; subst h
    refine s_callx 57 rfl rfl _ 63 Try.call63 rfl rfl _ rfl [.slice ao l.length cap, .int .i64 ((m - i : Nat) : Int), .int .i64 ((m : Nat) : Int), .int .i64 ((i : Nat) : Int), .func (.func 40) #[] #[.pointer (some ⟨c, 0, none⟩)]] rfl (by have h_ := swapRange_any _ B ao cap r c HO CK (by rw [hr]; exact hl) (m - i) m i (by rw [hr]; omega) (by rw [hr]; omega); rw [hr] at h_; exact h_) (by rintro _ _ ⟨he, _⟩; exact ⟨_, he⟩) ?_
    rintro v w1 ⟨he, G2, HO2⟩
    cases he
    replace CK := CK.gros G2 HO.own
    replace GG := GG.trans G2
    clear G2 HO
    have HO := HO2
    clear HO2
    refine nr ?_; intro U h; simp only [z0, z1] at h; subst h
    refine wpList_nil ?_
    refine post_n (results_none Try.results59 _ _ _) rfl ?_
    rw [tgt_eq zC (by omega) (by omega), ht] at HO
    exact ⟨rfl, GG, HO⟩
theorem mvl_at {l : List Cd} {i : Nat} (hi : i < l.length) : ∀ k, k ≤ i → (mvl zC l i k).getD (i - k) zC = l.getD i zC ∧ ∀ p, p < i - k → (mvl zC l i k).getD p zC = l.getD p zC
  | 0, _ => ⟨rfl, fun _ _ => rfl⟩
  | k + 1, hk => by
    obtain ⟨h1, h2⟩ := mvl_at hi k (by omega)
    have e : i - (k + 1) = i - k - 1 := by omega
    have hlen := mvl_len zC l i k
    rw [mvl]
    unfold swp
    refine ⟨?_, fun p hp => ?_⟩
    · rw [e, List.getD_eq_getElem?_getD, List.getElem?_set_self (by rw [List.length_set, hlen]; omega), h1]
      rfl
    · rw [List.getD_eq_getElem?_getD, List.getElem?_set_ne (by omega), List.getElem?_set_ne (by omega), ← List.getD_eq_getElem?_getD, h2 p (by omega)]
theorem isd_at {l : List Cd} {a i : Nat} (h : a ≤ i) (hi : i < l.length) : (isd ltC l a i).getD i zC = l.getD i zC := by
  have hlen : (l.take a ++ srt ltC (sub l a i)).length = i := by
    rw [List.length_append, srt_len, sub_len h (by omega), List.length_take]
    omega
  unfold isd
  rw [← List.append_assoc, List.getD_eq_getElem?_getD, List.getElem?_append_right (by omega), hlen, Nat.sub_self, List.getElem?_drop, ← List.getD_eq_getElem?_getD]
  rfl
theorem isd_first {w : World} {B : Nat} {ao : Option Addr} {cap : Nat} {l : List Cd} {a b : Nat} (hab : a ≤ b) (hb : b ≤ l.length) (HO : OW kC 33 w B ao cap l) : OW kC 33 w B ao cap (isd ltC l a (min (a + 1) b)) := by
  by_cases h : a = b
  · rw [show min (a + 1) b = a by omega, isd_self]; exact HO
  · rw [show min (a + 1) b = a + 1 by omega, isd_one (by omega)]; exact HO
section
variable {l : List Cd} {a b i k : Nat}
theorem ins_next (_hab : a ≤ b) (hb : b ≤ l.length) (hil : i < b) (_hk : k ≤ i - a) (hkl : k < i - a) (hc : ltC ((mvl zC (isd ltC l a i) i k).getD (i - k) zC) ((mvl zC (isd ltC l a i) i k).getD (i - k - 1) zC) = true) : ltC (l.getD i zC) ((isd ltC l a i).getD (i - 1 - k) zC) = true := by
  have hn : (isd ltC l a i).length = l.length := isd_len (by omega) (by omega)
  obtain ⟨h1, h2⟩ := mvl_at (l := isd ltC l a i) (i := i) (by omega) k (by omega)
  rw [h1, h2 _ (by omega), isd_at (by omega) (by omega)] at hc
  rw [show i - 1 - k = i - k - 1 by omega]
  exact hc
theorem ins_done (_hab : a ≤ b) (hb : b ≤ l.length) (hil : i < b) (hk : k ≤ i - a) (hz : ∀ t, t < k → ltC (l.getD i zC) ((isd ltC l a i).getD (i - 1 - t) zC) = true) (h : k = i - a ∨ (k < i - a ∧ ltC ((mvl zC (isd ltC l a i) i k).getD (i - k) zC) ((mvl zC (isd ltC l a i) i k).getD (i - k - 1) zC) = false)) (hai : a ≤ i := by omega) : mvl zC (isd ltC l a i) i k = isd ltC l a (i + 1) := by
  refine isd_step zC sw_C hai (by omega) hk hz ?_
  rcases h with h | ⟨h, hc⟩
  · exact .inl h
  · refine .inr ?_
    have hn : (isd ltC l a i).length = l.length := isd_len (by omega) (by omega)
    obtain ⟨h1, h2⟩ := mvl_at (l := isd ltC l a i) (i := i) (by omega) k (by omega)
    rw [h1, h2 _ (by omega), isd_at (by omega) (by omega)] at hc
    rw [show i - 1 - k = i - k - 1 by omega]
    exact hc
end
set_option maxRecDepth 100000 in
set_option maxHeartbeats 4000000 in
theorem insertion_any (w : World) (B : Nat) (ao : Option Addr) (cap : Nat) (l : List Cd) (c : Nat) (HO : OW kC 33 w B ao cap l) (CK : CloC w c) (hl : l.length ≤ 1000000) (a b : Nat) (hab : a ≤ b) (hb : b ≤ l.length) : Calls Try.prog 50 #[.slice ao l.length cap, .int .i64 ((a : Nat) : Int), .int .i64 ((b : Nat) : Int), .func (.func 40) #[] #[.pointer (some ⟨c, 0, none⟩)]] w (SrtP w B ao cap (isd ltC l a b)) := by
  refine s_enter Try.func50 rfl Try.ntmps50 [.slice ao l.length cap, .int .i64 ((a : Nat) : Int), .int .i64 ((b : Nat) : Int), .func (.func 40) #[] #[.pointer (some ⟨c, 0, none⟩)]] [.slice ao l.length cap, .int .i64 ((a : Nat) : Int), .int .i64 ((b : Nat) : Int), .func (.func 40) #[] #[.pointer (some ⟨c, 0, none⟩)], undef, undef, undef, undef, undef, undef, undef, undef, undef, undef, undef, undef, undef, undef, undef, undef, undef, undef, undef, undef, undef, undef, undef, undef, undef, undef, undef, undef, undef, undef, undef, undef, undef, undef, undef, undef, undef, undef, undef, undef, undef, undef, undef, undef, undef, undef, undef, undef, undef] rfl ?_
  have GG := GroS.refl (Go.Proofs.Ytfabgonoonanfaa.blk ao) w
  refine wp_seq ?_
  refine wp_region_lit ?_
  refine s_val 10 rfl rfl (.int .i64 ((a : Nat) : Int)) (rfl) ?_
  refine nr ?_; intro U h; simp only [z0, z1] at h; subst h
  refine s_val 11 rfl rfl (.int .i64 ((a + 1 : Nat) : Int)) (run_addI 3 _ _ _ rfl ((a : Nat) : Int) 1 ((a + 1 : Nat) : Int) rfl rfl (by omega) (by omega) (by omega) _) ?_
  refine nr ?_; intro U h; simp only [z0, z1] at h; subst h
  refine s_val 8 rfl rfl (.int .i64 ((a + 1 : Nat) : Int)) (rfl) ?_
  refine nr ?_; intro U h; simp only [z0, z1] at h; subst h
  refine wpList_nil ?_
  refine then_n ?_
  refine wp_block ?_
  refine wp_loopN (fun mz az wv => ∃ (i : Nat) (us1 : Nat → Value), mz = b + 1 - i ∧ az = ⟨[.slice ao l.length cap, .int .i64 ((a : Nat) : Int), .int .i64 ((b : Nat) : Int), .func (.func 40) #[] #[.pointer (some ⟨c, 0, none⟩)], undef, undef, undef, undef, .int .i64 ((i : Nat) : Int), us1 0, .int .i64 ((a : Nat) : Int), .int .i64 ((a + 1 : Nat) : Int), us1 1, us1 2, us1 3, us1 4, us1 5, us1 6, us1 7, us1 8, us1 9, us1 10, us1 11, us1 12, us1 13, us1 14, us1 15, us1 16, us1 17, us1 18, us1 19, us1 20, us1 21, us1 22, us1 23, us1 24, us1 25, us1 26, us1 27, us1 28, us1 29, us1 30, us1 31, us1 32, us1 33, us1 34, us1 35, us1 36, us1 37, us1 38, us1 39, us1 40, us1 41].toArray, []⟩ ∧ a + 1 ≤ i ∧ (i ≤ b ∨ a = b ∧ i = a + 1) ∧ GroS (Go.Proofs.Ytfabgonoonanfaa.blk ao) w wv ∧ OW kC 33 wv B ao cap (isd ltC l a (min i b)) ∧ CloC wv c) ?_ _ ⟨a + 1, (fun kz => ([undef, undef, undef, undef, undef, undef, undef, undef, undef, undef, undef, undef, undef, undef, undef, undef, undef, undef, undef, undef, undef, undef, undef, undef, undef, undef, undef, undef, undef, undef, undef, undef, undef, undef, undef, undef, undef, undef, undef, undef, undef, undef] : List Value).getD kz undef), rfl, rfl, Nat.le_refl _, by omega, GG, isd_first hab hb HO, CK⟩
  clear GG HO CK
  rintro mz az wv ⟨i, us1, rfl, rfl, hi, hib, GG, HO, CK⟩
  refine wp_seq ?_
  refine wp_seq ?_
  refine wp_region_lit ?_
  refine s_val 12 rfl rfl (.int .i64 ((i : Nat) : Int)) (rfl) ?_
  refine nr ?_; intro U h; simp only [z0, z1] at h; subst h
  refine s_val 13 rfl rfl (.int .i64 ((b : Nat) : Int)) (rfl) ?_
  refine nr ?_; intro U h; simp only [z0, z1] at h; subst h
  cases hi1 : decide (((i : Nat) : Int) < ((b : Nat) : Int))
  · have hie : min i b = b := by have := of_decide_eq_false hi1; omega
    refine s_val 14 rfl rfl (.bool false) (run_lssT 3 _ _ _ rfl ((i : Nat) : Int) ((b : Nat) : Int) rfl rfl false hi1 _) ?_
    refine nr ?_; intro U h; simp only [z0, z1] at h; subst h
    refine wpList_nil ?_
    refine then_n ?_
    refine wp_cond_false rfl ?_
    refine wp_exit ?_
    refine then_x ?_
    refine then_x ?_
    refine blk_x ?_
    refine post_n (results_none Try.results50 _ _ _) rfl ?_
    rw [hie] at HO
    exact ⟨rfl, GG, HO⟩
  · have hil : i < b := by have := of_decide_eq_true hi1; omega
    refine s_val 14 rfl rfl (.bool true) (run_lssT 3 _ _ _ rfl ((i : Nat) : Int) ((b : Nat) : Int) rfl rfl true hi1 _) ?_
    refine nr ?_; intro U h; simp only [z0, z1] at h; subst h
    refine wpList_nil ?_
    refine then_n ?_
    refine wp_cond_true rfl ?_
    refine wp_skip ?_
    refine then_n ?_
    refine wp_seq ?_
    refine wp_block ?_
    refine wp_seq ?_
    refine wp_region_lit ?_
    refine s_val 17 rfl rfl (.int .i64 ((i : Nat) : Int)) (rfl) ?_
    refine nr ?_; intro U h; simp only [z0, z1] at h; subst h
    refine s_val 9 rfl rfl (.int .i64 ((i : Nat) : Int)) (rfl) ?_
    refine nr ?_; intro U h; simp only [z0, z1] at h; subst h
    refine wpList_nil ?_
    refine then_n ?_
    refine wp_block ?_
    rw [show min i b = i by omega] at HO
    refine wp_loopN (fun mz az wv => ∃ (k : Nat) (us2 : Nat → Value), mz = i + 1 - k ∧ az = ⟨[.slice ao l.length cap, .int .i64 ((a : Nat) : Int), .int .i64 ((b : Nat) : Int), .func (.func 40) #[] #[.pointer (some ⟨c, 0, none⟩)], undef, undef, undef, undef, .int .i64 ((i : Nat) : Int), .int .i64 ((i - k : Nat) : Int), .int .i64 ((a : Nat) : Int), .int .i64 ((a + 1 : Nat) : Int), .int .i64 ((i : Nat) : Int), .int .i64 ((b : Nat) : Int), .bool true, us1 4, us1 5, .int .i64 ((i : Nat) : Int), us2 0, us2 1, us2 2, us2 3, us2 4, us2 5, us2 6, us2 7, us2 8, us2 9, us2 10, us2 11, us2 12, us2 13, us2 14, us2 15, us2 16, us2 17, us2 18, us2 19, us2 20, us2 21, us2 22, us2 23, us2 24, us2 25, us2 26, us2 27, us2 28, us2 29, us2 30, us2 31, us2 32, us2 33, us2 34].toArray, []⟩ ∧ k ≤ i - a ∧ (∀ t, t < k → ltC (l.getD i zC) ((isd ltC l a i).getD (i - 1 - t) zC) = true) ∧ GroS (Go.Proofs.Ytfabgonoonanfaa.blk ao) w wv ∧ OW kC 33 wv B ao cap (mvl zC (isd ltC l a i) i k) ∧ CloC wv c) ?_ _ ⟨0, (fun kz => ([us1 7, us1 8, us1 9, us1 10, us1 11, us1 12, us1 13, us1 14, us1 15, us1 16, us1 17, us1 18, us1 19, us1 20, us1 21, us1 22, us1 23, us1 24, us1 25, us1 26, us1 27, us1 28, us1 29, us1 30, us1 31, us1 32, us1 33, us1 34, us1 35, us1 36, us1 37, us1 38, us1 39, us1 40, us1 41] : List Value).getD kz undef), rfl, rfl, Nat.zero_le _, fun _ h => absurd h (by omega), GG, HO, CK⟩
    clear GG HO CK
    rintro mz az wv ⟨k, us2, rfl, rfl, hk, hz, GG, HO, CK⟩
    refine wp_seq ?_
    refine wp_seq ?_
    cases hj : decide (((a : Nat) : Int) < ((i - k : Nat) : Int))
    · have hke : k = i - a := by have := of_decide_eq_false hj; omega
      refine wp_region_exA (A := ?Ax2) 16 [(0, 18), (1, 19), (2, 20), (3, 21), (4, 22), (5, 23), (6, 24), (7, 25), (8, 26), (9, 27), (10, 28), (11, 29), (12, 30), (13, 31), (14, 32), (15, 33)] [.val (.int .i64 ((i - k : Nat) : Int)), .val (.int .i64 ((a : Nat) : Int)), .val (.bool false), .val (.bool false), .val undef, .val undef, .val undef, .val undef, .val undef, .val undef, .val undef, .val undef, .val undef, .val undef, .val undef, .val undef] follows (by kernel_rfl) rfl ?hAx2 (opsA_cons ?o0x2 (opsA_cons ?o1x2 (opsA_cons ?o2x2 (opsA_cons ?o3x2 (opsA_cons ?o4x2 (opsA_cons ?o5x2 (opsA_cons ?o6x2 (opsA_cons ?o7x2 (opsA_cons ?o8x2 (opsA_cons ?o9x2 (opsA_cons ?o10x2 (opsA_cons ?o11x2 (opsA_cons ?o12x2 (opsA_cons ?o13x2 (opsA_cons ?o14x2 (opsA_cons ?o15x2 opsA_nil)))))))))))))))) ?restx2
      case hAx2 =>
        intro ptrs
        simp only [full, foldSlots, filledE, postE, List.foldl_cons, List.foldl_nil, List.getD_cons_zero, List.getD_cons_succ, fill_val, List.set_cons_zero, List.set_cons_succ]
        exact rfl
      case o0x2 => exact fun _ _ _ _ => opE_move (v := .int .i64 ((i - k : Nat) : Int)) _ rfl rfl rfl
      case o1x2 => exact fun _ _ _ _ => opE_move (v := .int .i64 ((a : Nat) : Int)) _ rfl rfl rfl
      case o2x2 => exact fun _ _ _ _ => opE_value (v := .bool false) rfl (run_gtrT 3 _ _ _ rfl ((i - k : Nat) : Int) ((a : Nat) : Int) rfl rfl false hj _)
      case o3x2 => exact fun _ _ _ _ => opE_move (v := .bool false) _ rfl rfl rfl
      case o4x2 => exact fun _ _ _ _ => opE_skip rfl
      case o5x2 => exact fun _ _ _ _ => opE_skip rfl
      case o6x2 => exact fun _ _ _ _ => opE_skip rfl
      case o7x2 => exact fun _ _ _ _ => opE_skip rfl
      case o8x2 => exact fun _ _ _ _ => opE_skip rfl
      case o9x2 => exact fun _ _ _ _ => opE_skip rfl
      case o10x2 => exact fun _ _ _ _ => opE_skip rfl
      case o11x2 => exact fun _ _ _ _ => opE_skip rfl
      case o12x2 => exact fun _ _ _ _ => opE_skip rfl
      case o13x2 => exact fun _ _ _ _ => opE_skip rfl
      case o14x2 => exact fun _ _ _ _ => opE_skip rfl
      case o15x2 => exact fun _ _ _ _ => opE_skip rfl
      intro ptrs w1 GD hxE
      simp only [List.drop_succ_cons, List.drop_zero]
      replace HO := HO.gro ((Gro.refl _).drew.trans GD)
      replace CK := CK.gro ((Gro.refl _).drew.trans GD)
      replace GG := GG.drew.tg GD
      clear GD
      refine s_val 34 rfl rfl (.bool false) (rfl) ?_
      refine nr ?_; intro U h; simp only [z0, z1] at h; subst h
      refine wpList_nil ?_
      refine then_n ?_
      refine wp_cond_false rfl ?_
      refine wp_exit ?_
      refine then_x ?_
      refine then_x ?_
      refine blk_x ?_
      refine blk_n ?_
      refine then_n ?_
      rw [ins_done hab hb hil hk hz (.inl hke), ← show min (i + 1) b = i + 1 by omega] at HO
      refine wp_region_lit ?_
      refine s_val 15 rfl rfl (.int .i64 ((i : Nat) : Int)) (rfl) ?_
      refine nr ?_; intro U h; simp only [z0, z1] at h; subst h
      refine s_val 16 rfl rfl (.int .i64 ((i + 1 : Nat) : Int)) (run_addI 3 _ _ _ rfl ((i : Nat) : Int) 1 ((i + 1 : Nat) : Int) rfl rfl (by omega) (by omega) (by omega) _) ?_
      refine nr ?_; intro U h; simp only [z0, z1] at h; subst h
      refine s_val 8 rfl rfl (.int .i64 ((i + 1 : Nat) : Int)) (rfl) ?_
      refine nr ?_; intro U h; simp only [z0, z1] at h; subst h
      refine wpList_nil ?_
      refine then_n ?_
      exact ⟨b + 1 - (i + 1), by omega, i + 1, (fun kz => ([.int .i64 ((i - k : Nat) : Int), .int .i64 ((i : Nat) : Int), .int .i64 ((b : Nat) : Int), .bool true, .int .i64 ((i : Nat) : Int), .int .i64 ((i + 1 : Nat) : Int), .int .i64 ((i : Nat) : Int), .int .i64 ((i - k : Nat) : Int), .int .i64 ((a : Nat) : Int), .bool false, .bool false, undef, undef, undef, undef, undef, undef, undef, undef, undef, undef, undef, undef, .bool false, us2 17, us2 18, us2 19, us2 20, us2 21, us2 22, us2 23, us2 24, us2 25, us2 26, us2 27, us2 28, us2 29, us2 30, us2 31, us2 32, us2 33, us2 34] : List Value).getD kz undef), rfl, rfl, by omega, by omega, GG, HO, CK⟩
    · have hkl : k < i - a := by have := of_decide_eq_true hj; omega
      cases hc : decide (ltC ((mvl zC (isd ltC l a i) i k).getD (i - k) zC) ((mvl zC (isd ltC l a i) i k).getD (i - k - 1) zC) = true)
      · refine wp_region_exA (A := ?Ax3) 16 [(0, 18), (1, 19), (2, 20), (3, 21), (4, 22), (5, 23), (6, 24), (7, 25), (8, 26), (9, 27), (10, 28), (11, 29), (12, 30), (13, 31), (14, 32), (15, 33)] [.val (.int .i64 ((i - k : Nat) : Int)), .val (.int .i64 ((a : Nat) : Int)), .val (.bool true), .val (.bool true), .val (.func (.func 40) #[] #[.pointer (some ⟨c, 0, none⟩)]), .val (.slice ao l.length cap), .val (.int .i64 ((i - k : Nat) : Int)), .val (.pointer (pK kC ao (i - k) 0)), .val (.agg (cdA ((mvl zC (isd ltC l a i) i k).getD (i - k) zC))), .val (.slice ao l.length cap), .val (.int .i64 ((i - k : Nat) : Int)), .val (.int .i64 ((i - k - 1 : Nat) : Int)), .val (.pointer (pK kC ao (i - k - 1) 0)), .val (.agg (cdA ((mvl zC (isd ltC l a i) i k).getD (i - k - 1) zC))), .val (.int .i64 (cmpC ((mvl zC (isd ltC l a i) i k).getD (i - k) zC) ((mvl zC (isd ltC l a i) i k).getD (i - k - 1) zC))), .val (.bool false)] follows (by kernel_rfl) rfl ?hAx3 (opsA_cons ?o0x3 (opsA_cons ?o1x3 (opsA_cons ?o2x3 (opsA_cons ?o3x3 (opsA_cons ?o4x3 (opsA_cons ?o5x3 (opsA_cons ?o6x3 (opsA_cons ?o7x3 (opsA_cons ?o8x3 (opsA_cons ?o9x3 (opsA_cons ?o10x3 (opsA_cons ?o11x3 (opsA_cons ?o12x3 (opsA_cons ?o13x3 (opsA_cons ?o14x3 (opsA_cons ?o15x3 opsA_nil)))))))))))))))) ?restx3
        case hAx3 =>
          intro ptrs
          simp only [full, foldSlots, filledE, postE, List.foldl_cons, List.foldl_nil, List.getD_cons_zero, List.getD_cons_succ, fill_val, List.set_cons_zero, List.set_cons_succ]
          exact rfl
        case o0x3 => exact fun _ _ _ _ => opE_move (v := .int .i64 ((i - k : Nat) : Int)) _ rfl rfl rfl
        case o1x3 => exact fun _ _ _ _ => opE_move (v := .int .i64 ((a : Nat) : Int)) _ rfl rfl rfl
        case o2x3 => exact fun _ _ _ _ => opE_value (v := .bool true) rfl (run_gtrT 3 _ _ _ rfl ((i - k : Nat) : Int) ((a : Nat) : Int) rfl rfl true hj _)
        case o3x3 => exact fun _ _ _ _ => opE_move (v := .bool true) _ rfl rfl rfl
        case o4x3 => exact fun _ _ _ _ => opE_move (v := .func (.func 40) #[] #[.pointer (some ⟨c, 0, none⟩)]) _ rfl rfl rfl
        case o5x3 => exact fun _ _ _ _ => opE_move (v := .slice ao l.length cap) _ rfl rfl rfl
        case o6x3 => exact fun _ _ _ _ => opE_move (v := .int .i64 ((i - k : Nat) : Int)) _ rfl rfl rfl
        case o7x3 => exact fun _ _ hw _ => opE_value (v := .pointer (pK kC ao (i - k) 0)) rfl (run_ixK rC ((HO.gro ((Gro.refl _).drew.trans hw)).re) _ _ rfl (by rw [mvl_len, isd_len (by omega) (by omega)]; rfl) (i - k) rfl (by rw [mvl_len, isd_len (by omega) (by omega)]; omega))
        case o8x3 => exact fun _ _ hw _ => opE_value (v := .agg (cdA ((mvl zC (isd ltC l a i) i k).getD (i - k) zC))) rfl (run_ldKC ((HO.gro ((Gro.refl _).drew.trans hw)).re) _ rfl (i - k) rfl (by rw [mvl_len, isd_len (by omega) (by omega)]; omega))
        case o9x3 => exact fun _ _ _ _ => opE_move (v := .slice ao l.length cap) _ rfl rfl rfl
        case o10x3 => exact fun _ _ _ _ => opE_move (v := .int .i64 ((i - k : Nat) : Int)) _ rfl rfl rfl
        case o11x3 => exact fun _ _ _ _ => opE_value (v := .int .i64 ((i - k - 1 : Nat) : Int)) rfl (run_subI 3 _ _ _ rfl ((i - k : Nat) : Int) 1 ((i - k - 1 : Nat) : Int) rfl rfl (by omega) (by omega) (by omega) _)
        case o12x3 => exact fun _ _ hw _ => opE_value (v := .pointer (pK kC ao (i - k - 1) 0)) rfl (run_ixK rC ((HO.gro ((Gro.refl _).drew.trans hw)).re) _ _ rfl (by rw [mvl_len, isd_len (by omega) (by omega)]; rfl) (i - k - 1) rfl (by rw [mvl_len, isd_len (by omega) (by omega)]; omega))
        case o13x3 => exact fun _ _ hw _ => opE_value (v := .agg (cdA ((mvl zC (isd ltC l a i) i k).getD (i - k - 1) zC))) rfl (run_ldKC ((HO.gro ((Gro.refl _).drew.trans hw)).re) _ rfl (i - k - 1) rfl (by rw [mvl_len, isd_len (by omega) (by omega)]; omega))
        case o14x3 =>
          intro ptrs w' hw hE
          exact opE_callF (.val (.int .i64 (cmpC ((mvl zC (isd ltC l a i) i k).getD (i - k) zC) ((mvl zC (isd ltC l a i) i k).getD (i - k - 1) zC)))) rfl _ 40 #[.pointer (some ⟨c, 0, none⟩)] Try.call40 rfl _ rfl rfl _ rfl [.agg (cdA ((mvl zC (isd ltC l a i) i k).getD (i - k) zC)), .agg (cdA ((mvl zC (isd ltC l a i) i k).getD (i - k - 1) zC))] rfl ((cmp40_any ((mvl zC (isd ltC l a i) i k).getD (i - k) zC) ((mvl zC (isd ltC l a i) i k).getD (i - k - 1) zC) (atC HO.re (by rw [mvl_len, isd_len (by omega) (by omega)]; omega)) (atC HO.re (by rw [mvl_len, isd_len (by omega) (by omega)]; omega)) c _ (CK.gro ((Gro.refl _).drew.trans hw))).mono fun e w' ⟨he, hg⟩ => ⟨_, he, hg, rfl⟩)
        case o15x3 => exact fun _ _ _ _ => opE_value (v := .bool false) rfl (run_lssT 3 _ _ _ rfl (cmpC ((mvl zC (isd ltC l a i) i k).getD (i - k) zC) ((mvl zC (isd ltC l a i) i k).getD (i - k - 1) zC)) 0 rfl rfl false ((cmpC_neg _ _).trans ((dec_b _).trans hc)) _)
        intro ptrs w1 GD hxE
        simp only [List.drop_succ_cons, List.drop_zero]
        replace HO := HO.gro ((Gro.refl _).drew.trans GD)
        replace CK := CK.gro ((Gro.refl _).drew.trans GD)
        replace GG := GG.drew.tg GD
        clear GD
        refine s_val 34 rfl rfl (.bool false) (rfl) ?_
        refine nr ?_; intro U h; simp only [z0, z1] at h; subst h
        refine wpList_nil ?_
        refine then_n ?_
        refine wp_cond_false rfl ?_
        refine wp_exit ?_
        refine then_x ?_
        refine then_x ?_
        refine blk_x ?_
        refine blk_n ?_
        refine then_n ?_
        rw [ins_done hab hb hil hk hz (.inr ⟨hkl, Bool.eq_false_iff.2 (of_decide_eq_false hc)⟩), ← show min (i + 1) b = i + 1 by omega] at HO
        refine wp_region_lit ?_
        refine s_val 15 rfl rfl (.int .i64 ((i : Nat) : Int)) (rfl) ?_
        refine nr ?_; intro U h; simp only [z0, z1] at h; subst h
        refine s_val 16 rfl rfl (.int .i64 ((i + 1 : Nat) : Int)) (run_addI 3 _ _ _ rfl ((i : Nat) : Int) 1 ((i + 1 : Nat) : Int) rfl rfl (by omega) (by omega) (by omega) _) ?_
        refine nr ?_; intro U h; simp only [z0, z1] at h; subst h
        refine s_val 8 rfl rfl (.int .i64 ((i + 1 : Nat) : Int)) (rfl) ?_
        refine nr ?_; intro U h; simp only [z0, z1] at h; subst h
        refine wpList_nil ?_
        refine then_n ?_
        exact ⟨b + 1 - (i + 1), by omega, i + 1, (fun kz => ([.int .i64 ((i - k : Nat) : Int), .int .i64 ((i : Nat) : Int), .int .i64 ((b : Nat) : Int), .bool true, .int .i64 ((i : Nat) : Int), .int .i64 ((i + 1 : Nat) : Int), .int .i64 ((i : Nat) : Int), .int .i64 ((i - k : Nat) : Int), .int .i64 ((a : Nat) : Int), .bool true, .bool true, .func (.func 40) #[] #[.pointer (some ⟨c, 0, none⟩)], .slice ao l.length cap, .int .i64 ((i - k : Nat) : Int), .pointer (pK kC ao (i - k) 0), .agg (cdA ((mvl zC (isd ltC l a i) i k).getD (i - k) zC)), .slice ao l.length cap, .int .i64 ((i - k : Nat) : Int), .int .i64 ((i - k - 1 : Nat) : Int), .pointer (pK kC ao (i - k - 1) 0), .agg (cdA ((mvl zC (isd ltC l a i) i k).getD (i - k - 1) zC)), .int .i64 (cmpC ((mvl zC (isd ltC l a i) i k).getD (i - k) zC) ((mvl zC (isd ltC l a i) i k).getD (i - k - 1) zC)), .bool false, .bool false, us2 17, us2 18, us2 19, us2 20, us2 21, us2 22, us2 23, us2 24, us2 25, us2 26, us2 27, us2 28, us2 29, us2 30, us2 31, us2 32, us2 33, us2 34] : List Value).getD kz undef), rfl, rfl, by omega, by omega, GG, HO, CK⟩
      · refine wp_region_exA (A := ?Ax4) 16 [(0, 18), (1, 19), (2, 20), (3, 21), (4, 22), (5, 23), (6, 24), (7, 25), (8, 26), (9, 27), (10, 28), (11, 29), (12, 30), (13, 31), (14, 32), (15, 33)] [.val (.int .i64 ((i - k : Nat) : Int)), .val (.int .i64 ((a : Nat) : Int)), .val (.bool true), .val (.bool true), .val (.func (.func 40) #[] #[.pointer (some ⟨c, 0, none⟩)]), .val (.slice ao l.length cap), .val (.int .i64 ((i - k : Nat) : Int)), .val (.pointer (pK kC ao (i - k) 0)), .val (.agg (cdA ((mvl zC (isd ltC l a i) i k).getD (i - k) zC))), .val (.slice ao l.length cap), .val (.int .i64 ((i - k : Nat) : Int)), .val (.int .i64 ((i - k - 1 : Nat) : Int)), .val (.pointer (pK kC ao (i - k - 1) 0)), .val (.agg (cdA ((mvl zC (isd ltC l a i) i k).getD (i - k - 1) zC))), .val (.int .i64 (cmpC ((mvl zC (isd ltC l a i) i k).getD (i - k) zC) ((mvl zC (isd ltC l a i) i k).getD (i - k - 1) zC))), .val (.bool true)] follows (by kernel_rfl) rfl ?hAx4 (opsA_cons ?o0x4 (opsA_cons ?o1x4 (opsA_cons ?o2x4 (opsA_cons ?o3x4 (opsA_cons ?o4x4 (opsA_cons ?o5x4 (opsA_cons ?o6x4 (opsA_cons ?o7x4 (opsA_cons ?o8x4 (opsA_cons ?o9x4 (opsA_cons ?o10x4 (opsA_cons ?o11x4 (opsA_cons ?o12x4 (opsA_cons ?o13x4 (opsA_cons ?o14x4 (opsA_cons ?o15x4 opsA_nil)))))))))))))))) ?restx4
        case hAx4 =>
          intro ptrs
          simp only [full, foldSlots, filledE, postE, List.foldl_cons, List.foldl_nil, List.getD_cons_zero, List.getD_cons_succ, fill_val, List.set_cons_zero, List.set_cons_succ]
          exact rfl
        case o0x4 => exact fun _ _ _ _ => opE_move (v := .int .i64 ((i - k : Nat) : Int)) _ rfl rfl rfl
        case o1x4 => exact fun _ _ _ _ => opE_move (v := .int .i64 ((a : Nat) : Int)) _ rfl rfl rfl
        case o2x4 => exact fun _ _ _ _ => opE_value (v := .bool true) rfl (run_gtrT 3 _ _ _ rfl ((i - k : Nat) : Int) ((a : Nat) : Int) rfl rfl true hj _)
        case o3x4 => exact fun _ _ _ _ => opE_move (v := .bool true) _ rfl rfl rfl
        case o4x4 => exact fun _ _ _ _ => opE_move (v := .func (.func 40) #[] #[.pointer (some ⟨c, 0, none⟩)]) _ rfl rfl rfl
        case o5x4 => exact fun _ _ _ _ => opE_move (v := .slice ao l.length cap) _ rfl rfl rfl
        case o6x4 => exact fun _ _ _ _ => opE_move (v := .int .i64 ((i - k : Nat) : Int)) _ rfl rfl rfl
        case o7x4 => exact fun _ _ hw _ => opE_value (v := .pointer (pK kC ao (i - k) 0)) rfl (run_ixK rC ((HO.gro ((Gro.refl _).drew.trans hw)).re) _ _ rfl (by rw [mvl_len, isd_len (by omega) (by omega)]; rfl) (i - k) rfl (by rw [mvl_len, isd_len (by omega) (by omega)]; omega))
        case o8x4 => exact fun _ _ hw _ => opE_value (v := .agg (cdA ((mvl zC (isd ltC l a i) i k).getD (i - k) zC))) rfl (run_ldKC ((HO.gro ((Gro.refl _).drew.trans hw)).re) _ rfl (i - k) rfl (by rw [mvl_len, isd_len (by omega) (by omega)]; omega))
        case o9x4 => exact fun _ _ _ _ => opE_move (v := .slice ao l.length cap) _ rfl rfl rfl
        case o10x4 => exact fun _ _ _ _ => opE_move (v := .int .i64 ((i - k : Nat) : Int)) _ rfl rfl rfl
        case o11x4 => exact fun _ _ _ _ => opE_value (v := .int .i64 ((i - k - 1 : Nat) : Int)) rfl (run_subI 3 _ _ _ rfl ((i - k : Nat) : Int) 1 ((i - k - 1 : Nat) : Int) rfl rfl (by omega) (by omega) (by omega) _)
        case o12x4 => exact fun _ _ hw _ => opE_value (v := .pointer (pK kC ao (i - k - 1) 0)) rfl (run_ixK rC ((HO.gro ((Gro.refl _).drew.trans hw)).re) _ _ rfl (by rw [mvl_len, isd_len (by omega) (by omega)]; rfl) (i - k - 1) rfl (by rw [mvl_len, isd_len (by omega) (by omega)]; omega))
        case o13x4 => exact fun _ _ hw _ => opE_value (v := .agg (cdA ((mvl zC (isd ltC l a i) i k).getD (i - k - 1) zC))) rfl (run_ldKC ((HO.gro ((Gro.refl _).drew.trans hw)).re) _ rfl (i - k - 1) rfl (by rw [mvl_len, isd_len (by omega) (by omega)]; omega))
        case o14x4 =>
          intro ptrs w' hw hE
          exact opE_callF (.val (.int .i64 (cmpC ((mvl zC (isd ltC l a i) i k).getD (i - k) zC) ((mvl zC (isd ltC l a i) i k).getD (i - k - 1) zC)))) rfl _ 40 #[.pointer (some ⟨c, 0, none⟩)] Try.call40 rfl _ rfl rfl _ rfl [.agg (cdA ((mvl zC (isd ltC l a i) i k).getD (i - k) zC)), .agg (cdA ((mvl zC (isd ltC l a i) i k).getD (i - k - 1) zC))] rfl ((cmp40_any ((mvl zC (isd ltC l a i) i k).getD (i - k) zC) ((mvl zC (isd ltC l a i) i k).getD (i - k - 1) zC) (atC HO.re (by rw [mvl_len, isd_len (by omega) (by omega)]; omega)) (atC HO.re (by rw [mvl_len, isd_len (by omega) (by omega)]; omega)) c _ (CK.gro ((Gro.refl _).drew.trans hw))).mono fun e w' ⟨he, hg⟩ => ⟨_, he, hg, rfl⟩)
        case o15x4 => exact fun _ _ _ _ => opE_value (v := .bool true) rfl (run_lssT 3 _ _ _ rfl (cmpC ((mvl zC (isd ltC l a i) i k).getD (i - k) zC) ((mvl zC (isd ltC l a i) i k).getD (i - k - 1) zC)) 0 rfl rfl true ((cmpC_neg _ _).trans ((dec_b _).trans hc)) _)
        intro ptrs w1 GD hxE
        simp only [List.drop_succ_cons, List.drop_zero]
        replace HO := HO.gro ((Gro.refl _).drew.trans GD)
        replace CK := CK.gro ((Gro.refl _).drew.trans GD)
        replace GG := GG.drew.tg GD
        clear GD
        refine s_val 34 rfl rfl (.bool true) (rfl) ?_
        refine nr ?_; intro U h; simp only [z0, z1] at h; subst h
        refine wpList_nil ?_
        refine then_n ?_
        refine wp_cond_true rfl ?_
        refine wp_skip ?_
        refine then_n ?_
        refine wp_seq ?_
        refine wp_block ?_
        refine wp_region_pm (A := ?Ax5) (fun L x => GroS (Go.Proofs.Ytfabgonoonanfaa.blk ao) w1 x ∧ OW kC 33 x B ao cap (wrt (L 15) (mvl zC (isd ltC l a i) i k) (i - k) ((mvl zC (isd ltC l a i) i k).getD (i - k - 1) zC))) 16 [(0, 37), (1, 38), (2, 39), (3, 40), (4, 41), (5, 42), (6, 43), (7, 44), (8, 45), (9, 46), (10, 47), (11, 48), (12, 49), (13, 50), (14, 51)] [.val (.slice ao l.length cap), .val (.int .i64 ((i - k : Nat) : Int)), .val (.slice ao l.length cap), .val (.int .i64 ((i - k : Nat) : Int)), .val (.int .i64 ((i - k - 1 : Nat) : Int)), .val (.slice ao l.length cap), .val (.int .i64 ((i - k : Nat) : Int)), .val (.int .i64 ((i - k - 1 : Nat) : Int)), .val (.pointer (pK kC ao (i - k - 1) 0)), .val (.agg (cdA ((mvl zC (isd ltC l a i) i k).getD (i - k - 1) zC))), .val (.slice ao l.length cap), .val (.int .i64 ((i - k : Nat) : Int)), .val (.pointer (pK kC ao (i - k) 0)), .val (.agg (cdA ((mvl zC (isd ltC l a i) i k).getD (i - k) zC))), .val (.pointer (pK kC ao (i - k) 0)), .val undef] [] [] follows (by kernel_rfl) rfl (by kernel_rfl) (by decide) ⟨(GroS.refl _ _).drew, HO.gro (Gro.refl _).drew⟩ ?hAx5 (opsM_w ?o0x5 (opsM_w ?o1x5 (opsM_w ?o2x5 (opsM_w ?o3x5 (opsM_w ?o4x5 (opsM_w ?o5x5 (opsM_w ?o6x5 (opsM_w ?o7x5 (opsM_w ?o8x5 (opsM_w ?o9x5 (opsM_w ?o10x5 (opsM_w ?o11x5 (opsM_w ?o12x5 (opsM_w ?o13x5 (opsM_w ?o14x5 (opsM_w ?o15x5 opsM_nil)))))))))))))))) ?restx5
        case hAx5 =>
          intro ptrs
          simp only [full, foldSlots, filledE, postE, List.foldl_cons, List.foldl_nil, List.getD_cons_zero, List.getD_cons_succ, fill_val, List.set_cons_zero, List.set_cons_succ]
          exact rfl
        case o0x5 => exact fun L ptrs x hx _ _ _ _ => opX_val (v := .slice ao l.length cap) rfl (rfl) ⟨hx, StM.vals [0, 1, 2, 3, 4, 5, 6, 7, 8, 9, 10, 11, 12, 13, 14, 15] (by kernel_rfl) ⟨⟨_, rfl⟩, ⟨_, rfl⟩, ⟨_, rfl⟩, ⟨_, rfl⟩, ⟨_, rfl⟩, ⟨_, rfl⟩, ⟨_, rfl⟩, ⟨_, rfl⟩, ⟨_, rfl⟩, ⟨_, rfl⟩, ⟨_, rfl⟩, ⟨_, rfl⟩, ⟨_, rfl⟩, ⟨_, rfl⟩, ⟨_, rfl⟩, ⟨_, rfl⟩, trivial⟩⟩ rfl
        case o1x5 => exact fun L ptrs x hx _ _ _ _ => opX_val (v := .int .i64 ((i - k : Nat) : Int)) rfl (rfl) ⟨hx, StM.vals [0, 1, 2, 3, 4, 5, 6, 7, 8, 9, 10, 11, 12, 13, 14, 15] (by kernel_rfl) ⟨⟨_, rfl⟩, ⟨_, rfl⟩, ⟨_, rfl⟩, ⟨_, rfl⟩, ⟨_, rfl⟩, ⟨_, rfl⟩, ⟨_, rfl⟩, ⟨_, rfl⟩, ⟨_, rfl⟩, ⟨_, rfl⟩, ⟨_, rfl⟩, ⟨_, rfl⟩, ⟨_, rfl⟩, ⟨_, rfl⟩, ⟨_, rfl⟩, ⟨_, rfl⟩, trivial⟩⟩ rfl
        case o2x5 => exact fun L ptrs x hx _ _ _ _ => opX_val (v := .slice ao l.length cap) rfl (rfl) ⟨hx, StM.vals [0, 1, 2, 3, 4, 5, 6, 7, 8, 9, 10, 11, 12, 13, 14, 15] (by kernel_rfl) ⟨⟨_, rfl⟩, ⟨_, rfl⟩, ⟨_, rfl⟩, ⟨_, rfl⟩, ⟨_, rfl⟩, ⟨_, rfl⟩, ⟨_, rfl⟩, ⟨_, rfl⟩, ⟨_, rfl⟩, ⟨_, rfl⟩, ⟨_, rfl⟩, ⟨_, rfl⟩, ⟨_, rfl⟩, ⟨_, rfl⟩, ⟨_, rfl⟩, ⟨_, rfl⟩, trivial⟩⟩ rfl
        case o3x5 => exact fun L ptrs x hx _ _ _ _ => opX_val (v := .int .i64 ((i - k : Nat) : Int)) rfl (rfl) ⟨hx, StM.vals [0, 1, 2, 3, 4, 5, 6, 7, 8, 9, 10, 11, 12, 13, 14, 15] (by kernel_rfl) ⟨⟨_, rfl⟩, ⟨_, rfl⟩, ⟨_, rfl⟩, ⟨_, rfl⟩, ⟨_, rfl⟩, ⟨_, rfl⟩, ⟨_, rfl⟩, ⟨_, rfl⟩, ⟨_, rfl⟩, ⟨_, rfl⟩, ⟨_, rfl⟩, ⟨_, rfl⟩, ⟨_, rfl⟩, ⟨_, rfl⟩, ⟨_, rfl⟩, ⟨_, rfl⟩, trivial⟩⟩ rfl
        case o4x5 => exact fun L ptrs x hx _ _ _ _ => opX_val (v := .int .i64 ((i - k - 1 : Nat) : Int)) rfl (run_subI 3 _ _ _ rfl ((i - k : Nat) : Int) 1 ((i - k - 1 : Nat) : Int) rfl rfl (by omega) (by omega) (by omega) _) ⟨hx, StM.vals [0, 1, 2, 3, 4, 5, 6, 7, 8, 9, 10, 11, 12, 13, 14, 15] (by kernel_rfl) ⟨⟨_, rfl⟩, ⟨_, rfl⟩, ⟨_, rfl⟩, ⟨_, rfl⟩, ⟨_, rfl⟩, ⟨_, rfl⟩, ⟨_, rfl⟩, ⟨_, rfl⟩, ⟨_, rfl⟩, ⟨_, rfl⟩, ⟨_, rfl⟩, ⟨_, rfl⟩, ⟨_, rfl⟩, ⟨_, rfl⟩, ⟨_, rfl⟩, ⟨_, rfl⟩, trivial⟩⟩ rfl
        case o5x5 => exact fun L ptrs x hx _ _ _ _ => opX_val (v := .slice ao l.length cap) rfl (rfl) ⟨hx, StM.vals [0, 1, 2, 3, 4, 5, 6, 7, 8, 9, 10, 11, 12, 13, 14, 15] (by kernel_rfl) ⟨⟨_, rfl⟩, ⟨_, rfl⟩, ⟨_, rfl⟩, ⟨_, rfl⟩, ⟨_, rfl⟩, ⟨_, rfl⟩, ⟨_, rfl⟩, ⟨_, rfl⟩, ⟨_, rfl⟩, ⟨_, rfl⟩, ⟨_, rfl⟩, ⟨_, rfl⟩, ⟨_, rfl⟩, ⟨_, rfl⟩, ⟨_, rfl⟩, ⟨_, rfl⟩, trivial⟩⟩ rfl
        case o6x5 => exact fun L ptrs x hx _ _ _ _ => opX_val (v := .int .i64 ((i - k : Nat) : Int)) rfl (rfl) ⟨hx, StM.vals [0, 1, 2, 3, 4, 5, 6, 7, 8, 9, 10, 11, 12, 13, 14, 15] (by kernel_rfl) ⟨⟨_, rfl⟩, ⟨_, rfl⟩, ⟨_, rfl⟩, ⟨_, rfl⟩, ⟨_, rfl⟩, ⟨_, rfl⟩, ⟨_, rfl⟩, ⟨_, rfl⟩, ⟨_, rfl⟩, ⟨_, rfl⟩, ⟨_, rfl⟩, ⟨_, rfl⟩, ⟨_, rfl⟩, ⟨_, rfl⟩, ⟨_, rfl⟩, ⟨_, rfl⟩, trivial⟩⟩ rfl
        case o7x5 => exact fun L ptrs x hx _ _ _ _ => opX_val (v := .int .i64 ((i - k - 1 : Nat) : Int)) rfl (run_subI 3 _ _ _ rfl ((i - k : Nat) : Int) 1 ((i - k - 1 : Nat) : Int) rfl rfl (by omega) (by omega) (by omega) _) ⟨hx, StM.vals [0, 1, 2, 3, 4, 5, 6, 7, 8, 9, 10, 11, 12, 13, 14, 15] (by kernel_rfl) ⟨⟨_, rfl⟩, ⟨_, rfl⟩, ⟨_, rfl⟩, ⟨_, rfl⟩, ⟨_, rfl⟩, ⟨_, rfl⟩, ⟨_, rfl⟩, ⟨_, rfl⟩, ⟨_, rfl⟩, ⟨_, rfl⟩, ⟨_, rfl⟩, ⟨_, rfl⟩, ⟨_, rfl⟩, ⟨_, rfl⟩, ⟨_, rfl⟩, ⟨_, rfl⟩, trivial⟩⟩ rfl
        case o8x5 =>
          intro L ptrs x hx hL _ hs _
          have h15 : L 15 = false := hs 15 (by kernel_rfl)
          have HO : OW kC 33 x B ao cap (mvl zC (isd ltC l a i) i k) := by have hx2 := hx.2; rw [h15] at hx2; exact hx2
          exact opX_val (v := .pointer (pK kC ao (i - k - 1) 0)) rfl (run_ixK rC (HO.re) _ _ rfl (by rw [mvl_len, isd_len (by omega) (by omega)]; rfl) (i - k - 1) rfl (by rw [mvl_len, isd_len (by omega) (by omega)]; omega)) ⟨hx, StM.vals [0, 1, 2, 3, 4, 5, 6, 7, 8, 9, 10, 11, 12, 13, 14, 15] (by kernel_rfl) ⟨⟨_, rfl⟩, ⟨_, rfl⟩, ⟨_, rfl⟩, ⟨_, rfl⟩, ⟨_, rfl⟩, ⟨_, rfl⟩, ⟨_, rfl⟩, ⟨_, rfl⟩, ⟨_, rfl⟩, ⟨_, rfl⟩, ⟨_, rfl⟩, ⟨_, rfl⟩, ⟨_, rfl⟩, ⟨_, rfl⟩, ⟨_, rfl⟩, ⟨_, rfl⟩, trivial⟩⟩ rfl
        case o9x5 =>
          intro L ptrs x hx hL _ hs _
          have h15 : L 15 = false := hs 15 (by kernel_rfl)
          have HO : OW kC 33 x B ao cap (mvl zC (isd ltC l a i) i k) := by have hx2 := hx.2; rw [h15] at hx2; exact hx2
          exact opX_val (v := .agg (cdA ((mvl zC (isd ltC l a i) i k).getD (i - k - 1) zC))) rfl (run_ldKC (HO.re) _ rfl (i - k - 1) rfl (by rw [mvl_len, isd_len (by omega) (by omega)]; omega)) ⟨hx, StM.vals [0, 1, 2, 3, 4, 5, 6, 7, 8, 9, 10, 11, 12, 13, 14, 15] (by kernel_rfl) ⟨⟨_, rfl⟩, ⟨_, rfl⟩, ⟨_, rfl⟩, ⟨_, rfl⟩, ⟨_, rfl⟩, ⟨_, rfl⟩, ⟨_, rfl⟩, ⟨_, rfl⟩, ⟨_, rfl⟩, ⟨_, rfl⟩, ⟨_, rfl⟩, ⟨_, rfl⟩, ⟨_, rfl⟩, ⟨_, rfl⟩, ⟨_, rfl⟩, ⟨_, rfl⟩, trivial⟩⟩ rfl
        case o10x5 => exact fun L ptrs x hx _ _ _ _ => opX_val (v := .slice ao l.length cap) rfl (rfl) ⟨hx, StM.vals [0, 1, 2, 3, 4, 5, 6, 7, 8, 9, 10, 11, 12, 13, 14, 15] (by kernel_rfl) ⟨⟨_, rfl⟩, ⟨_, rfl⟩, ⟨_, rfl⟩, ⟨_, rfl⟩, ⟨_, rfl⟩, ⟨_, rfl⟩, ⟨_, rfl⟩, ⟨_, rfl⟩, ⟨_, rfl⟩, ⟨_, rfl⟩, ⟨_, rfl⟩, ⟨_, rfl⟩, ⟨_, rfl⟩, ⟨_, rfl⟩, ⟨_, rfl⟩, ⟨_, rfl⟩, trivial⟩⟩ rfl
        case o11x5 => exact fun L ptrs x hx _ _ _ _ => opX_val (v := .int .i64 ((i - k : Nat) : Int)) rfl (rfl) ⟨hx, StM.vals [0, 1, 2, 3, 4, 5, 6, 7, 8, 9, 10, 11, 12, 13, 14, 15] (by kernel_rfl) ⟨⟨_, rfl⟩, ⟨_, rfl⟩, ⟨_, rfl⟩, ⟨_, rfl⟩, ⟨_, rfl⟩, ⟨_, rfl⟩, ⟨_, rfl⟩, ⟨_, rfl⟩, ⟨_, rfl⟩, ⟨_, rfl⟩, ⟨_, rfl⟩, ⟨_, rfl⟩, ⟨_, rfl⟩, ⟨_, rfl⟩, ⟨_, rfl⟩, ⟨_, rfl⟩, trivial⟩⟩ rfl
        case o12x5 =>
          intro L ptrs x hx hL _ hs _
          have h15 : L 15 = false := hs 15 (by kernel_rfl)
          have HO : OW kC 33 x B ao cap (mvl zC (isd ltC l a i) i k) := by have hx2 := hx.2; rw [h15] at hx2; exact hx2
          exact opX_val (v := .pointer (pK kC ao (i - k) 0)) rfl (run_ixK rC (HO.re) _ _ rfl (by rw [mvl_len, isd_len (by omega) (by omega)]; rfl) (i - k) rfl (by rw [mvl_len, isd_len (by omega) (by omega)]; omega)) ⟨hx, StM.vals [0, 1, 2, 3, 4, 5, 6, 7, 8, 9, 10, 11, 12, 13, 14, 15] (by kernel_rfl) ⟨⟨_, rfl⟩, ⟨_, rfl⟩, ⟨_, rfl⟩, ⟨_, rfl⟩, ⟨_, rfl⟩, ⟨_, rfl⟩, ⟨_, rfl⟩, ⟨_, rfl⟩, ⟨_, rfl⟩, ⟨_, rfl⟩, ⟨_, rfl⟩, ⟨_, rfl⟩, ⟨_, rfl⟩, ⟨_, rfl⟩, ⟨_, rfl⟩, ⟨_, rfl⟩, trivial⟩⟩ rfl
        case o13x5 =>
          intro L ptrs x hx hL _ hs _
          have h15 : L 15 = false := hs 15 (by kernel_rfl)
          have HO : OW kC 33 x B ao cap (mvl zC (isd ltC l a i) i k) := by have hx2 := hx.2; rw [h15] at hx2; exact hx2
          exact opX_val (v := .agg (cdA ((mvl zC (isd ltC l a i) i k).getD (i - k) zC))) rfl (run_ldKC (HO.re) _ rfl (i - k) rfl (by rw [mvl_len, isd_len (by omega) (by omega)]; omega)) ⟨hx, StM.vals [0, 1, 2, 3, 4, 5, 6, 7, 8, 9, 10, 11, 12, 13, 14, 15] (by kernel_rfl) ⟨⟨_, rfl⟩, ⟨_, rfl⟩, ⟨_, rfl⟩, ⟨_, rfl⟩, ⟨_, rfl⟩, ⟨_, rfl⟩, ⟨_, rfl⟩, ⟨_, rfl⟩, ⟨_, rfl⟩, ⟨_, rfl⟩, ⟨_, rfl⟩, ⟨_, rfl⟩, ⟨_, rfl⟩, ⟨_, rfl⟩, ⟨_, rfl⟩, ⟨_, rfl⟩, trivial⟩⟩ rfl
        case o14x5 =>
          intro L ptrs x hx hL _ hs _
          have h15 : L 15 = false := hs 15 (by kernel_rfl)
          have HO : OW kC 33 x B ao cap (mvl zC (isd ltC l a i) i k) := by have hx2 := hx.2; rw [h15] at hx2; exact hx2
          exact opX_val (v := .pointer (pK kC ao (i - k) 0)) rfl (run_ixK rC (HO.re) _ _ rfl (by rw [mvl_len, isd_len (by omega) (by omega)]; rfl) (i - k) rfl (by rw [mvl_len, isd_len (by omega) (by omega)]; omega)) ⟨hx, StM.vals [0, 1, 2, 3, 4, 5, 6, 7, 8, 9, 10, 11, 12, 13, 14, 15] (by kernel_rfl) ⟨⟨_, rfl⟩, ⟨_, rfl⟩, ⟨_, rfl⟩, ⟨_, rfl⟩, ⟨_, rfl⟩, ⟨_, rfl⟩, ⟨_, rfl⟩, ⟨_, rfl⟩, ⟨_, rfl⟩, ⟨_, rfl⟩, ⟨_, rfl⟩, ⟨_, rfl⟩, ⟨_, rfl⟩, ⟨_, rfl⟩, ⟨_, rfl⟩, ⟨_, rfl⟩, trivial⟩⟩ rfl
        case o15x5 =>
          intro L ptrs x hx hL _ hs _
          have h15 : L 15 = false := hL
          have HO : OW kC 33 x B ao cap (mvl zC (isd ltC l a i) i k) := by have hx2 := hx.2; rw [h15] at hx2; exact hx2
          refine opX_stK _ rfl 33 _ _ rfl HO (i - k) 0 (by rw [mvl_len, isd_len (by omega) (by omega)]; omega) rfl (.agg (cdA ((mvl zC (isd ltC l a i) i k).getD (i - k - 1) zC))) rfl (cdL ((mvl zC (isd ltC l a i) i k).getD (i - k - 1) zC)) rfl (siCl _) (by rw [cdL_len]; decide) (by rw [cdL_len]; decide) (cdL_one _) ((mvl zC (isd ltC l a i) i k).getD (i - k - 1) zC) (spl_cd _ _) (atC HO.re (by rw [mvl_len, isd_len (by omega) (by omega)]; omega)) ?_
          intro y HO2 G2
          exact ⟨⟨⟨hx.1.trans G2, HO2⟩, StM.vals [0, 1, 2, 3, 4, 5, 6, 7, 8, 9, 10, 11, 12, 13, 14, 15] (by kernel_rfl) ⟨⟨_, rfl⟩, ⟨_, rfl⟩, ⟨_, rfl⟩, ⟨_, rfl⟩, ⟨_, rfl⟩, ⟨_, rfl⟩, ⟨_, rfl⟩, ⟨_, rfl⟩, ⟨_, rfl⟩, ⟨_, rfl⟩, ⟨_, rfl⟩, ⟨_, rfl⟩, ⟨_, rfl⟩, ⟨_, rfl⟩, ⟨_, rfl⟩, ⟨_, rfl⟩, trivial⟩⟩, rfl⟩
        intro ptrs w2 HJ _
        simp only [List.drop_succ_cons, List.drop_zero]
        replace CK := CK.gros HJ.1 HO.own
        replace GG := GG.trans HJ.1
        have xO := atC HO.re (j := i - k) (by rw [mvl_len, isd_len (by omega) (by omega)]; omega)
        clear HO
        have HO : OW kC 33 w2 B ao cap ((mvl zC (isd ltC l a i) i k).set (i - k) ((mvl zC (isd ltC l a i) i k).getD (i - k - 1) zC)) := HJ.2
        clear HJ
        refine s_val 52 rfl rfl (.pointer (pK kC ao (i - k - 1) 0)) (run_ixK rC HO.re _ _ rfl (by rw [List.length_set, mvl_len, isd_len (by omega) (by omega)]; rfl) (i - k - 1) rfl (by rw [List.length_set, mvl_len, isd_len (by omega) (by omega)]; omega)) ?_
        refine nr ?_; intro U h; simp only [z0, z1] at h; subst h
        refine s_stK rfl rfl 33 _ _ rfl HO (i - k - 1) 0 (by rw [List.length_set, mvl_len, isd_len (by omega) (by omega)]; omega) rfl (.agg (cdA ((mvl zC (isd ltC l a i) i k).getD (i - k) zC))) rfl (cdL ((mvl zC (isd ltC l a i) i k).getD (i - k) zC)) rfl (siCl _) (by rw [cdL_len]; decide) (by rw [cdL_len]; decide) (cdL_one _) ((mvl zC (isd ltC l a i) i k).getD (i - k) zC) (spl_cd _ _) xO ?_
        intro w3 HO2 G2
        replace CK := CK.gros G2 HO.own
        replace GG := GG.trans G2
        clear G2 HO xO
        have HO : OW kC 33 w3 B ao cap (swp zC (mvl zC (isd ltC l a i) i k) (i - k) (i - k - 1)) := HO2
        clear HO2
        refine wpList_nil ?_
        refine blk_n ?_
        refine then_n ?_
        refine wp_region_lit ?_
        refine s_val 35 rfl rfl (.int .i64 ((i - k : Nat) : Int)) (rfl) ?_
        refine nr ?_; intro U h; simp only [z0, z1] at h; subst h
        refine s_val 36 rfl rfl (.int .i64 ((i - (k + 1) : Nat) : Int)) (run_subI 3 _ _ _ rfl ((i - k : Nat) : Int) 1 ((i - (k + 1) : Nat) : Int) rfl rfl (by omega) (by omega) (by omega) _) ?_
        refine nr ?_; intro U h; simp only [z0, z1] at h; subst h
        refine s_val 9 rfl rfl (.int .i64 ((i - (k + 1) : Nat) : Int)) (rfl) ?_
        refine nr ?_; intro U h; simp only [z0, z1] at h; subst h
        refine wpList_nil ?_
        refine then_n ?_
        exact ⟨i + 1 - (k + 1), by omega, k + 1, (fun kz => ([.int .i64 ((i - k : Nat) : Int), .int .i64 ((a : Nat) : Int), .bool true, .bool true, .func (.func 40) #[] #[.pointer (some ⟨c, 0, none⟩)], .slice ao l.length cap, .int .i64 ((i - k : Nat) : Int), .pointer (pK kC ao (i - k) 0), .agg (cdA ((mvl zC (isd ltC l a i) i k).getD (i - k) zC)), .slice ao l.length cap, .int .i64 ((i - k : Nat) : Int), .int .i64 ((i - k - 1 : Nat) : Int), .pointer (pK kC ao (i - k - 1) 0), .agg (cdA ((mvl zC (isd ltC l a i) i k).getD (i - k - 1) zC)), .int .i64 (cmpC ((mvl zC (isd ltC l a i) i k).getD (i - k) zC) ((mvl zC (isd ltC l a i) i k).getD (i - k - 1) zC)), .bool true, .bool true, .int .i64 ((i - k : Nat) : Int), .int .i64 ((i - (k + 1) : Nat) : Int), .slice ao l.length cap, .int .i64 ((i - k : Nat) : Int), .slice ao l.length cap, .int .i64 ((i - k : Nat) : Int), .int .i64 ((i - k - 1 : Nat) : Int), .slice ao l.length cap, .int .i64 ((i - k : Nat) : Int), .int .i64 ((i - k - 1 : Nat) : Int), .pointer (pK kC ao (i - k - 1) 0), .agg (cdA ((mvl zC (isd ltC l a i) i k).getD (i - k - 1) zC)), .slice ao l.length cap, .int .i64 ((i - k : Nat) : Int), .pointer (pK kC ao (i - k) 0), .agg (cdA ((mvl zC (isd ltC l a i) i k).getD (i - k) zC)), .pointer (pK kC ao (i - k) 0), .pointer (pK kC ao (i - k - 1) 0)] : List Value).getD kz undef), rfl, rfl, by omega, uptoZ hz (ins_next hab hb hil hk hkl (of_decide_eq_true hc)), GG, HO, CK⟩
end Go.Proofs.Ytfabgonoonanfaa
