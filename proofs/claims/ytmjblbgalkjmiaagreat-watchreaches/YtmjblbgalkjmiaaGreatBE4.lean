/- The places that are asked for; who reaches whom. -/
import Derived.Test.YtmjblbgalkjmiaaGreatBE2
namespace Go.Proofs.YtmjblbgalkjmiaaGreat
open Go.RowKit
/-- Whatever a closure answers of places. -/
def CloN (F : FuncId) (cb : Array Value) (w : World) (n : Nat) (p : Nat → Bool) : Prop := ∀ b, b < n → ∀ w', Gro w w' → Calls Tryz.prog F (#[.int .i64 (b : Int)] ++ cb) w' fun e w'' => e = .returned (.bool (p b)) ∧ Gro w' w''
/-- A new row of places. -/
def RowO (L : List Nat) (w : World) (e : Ending) (w' : World) : Prop := ∃ ao cap, e = .returned (.slice ao L.length cap) ∧ Gro w w' ∧ OW kZ 3 w' w.heap.size ao cap L
theorem RowO.to {f : FuncId} {args : Array Value} {w : World} {L M : List Nat} (h : L = M) (H : Calls Tryz.prog f args w (RowO L w)) : Calls Tryz.prog f args w (RowO M w) := h ▸ H
/-- A row of places that is read. -/
def RowZ (L : List Nat) (w : World) (e : Ending) (w' : World) : Prop := ∃ ao cap, e = .returned (.slice ao L.length cap) ∧ Gro w w' ∧ RK kZ w' ao cap L
theorem RowZ.to {f : FuncId} {args : Array Value} {w : World} {L M : List Nat} (h : L = M) (H : Calls Tryz.prog f args w (RowZ L w)) : Calls Tryz.prog f args w (RowZ M w) := h ▸ H
theorem filt_step (p : Nat → Bool) (i : Nat) (v : Bool) (h : p i = v) : (List.range (i + 1)).filter p = (List.range i).filter p ++ (if v = true then [i] else []) := by
  rw [List.range_succ, List.filter_append]
  congr 1
  cases v <;> simp [h]
theorem filt_len (p : Nat → Bool) (i : Nat) : ((List.range i).filter p).length ≤ i := by
  have := List.length_filter_le p (List.range i)
  simpa using this
def upF (l : List VW) : Nat → Bool := fun b => (l.getD b zW).up
theorem nxt_lt {n : Nat} {up : Nat → Bool} {L : Nat → Nat → Bool} {M : Nat → Bool} {q : Nat} {X : List Nat} (h : nxt n up L M q = X) {j : Nat} (hj : j < X.length) : X.getD j 0 < n := by
  have : X.getD j 0 ∈ X := by
    rw [List.getD_eq_getElem?_getD, List.getElem?_eq_getElem hj]
    exact List.getElem_mem hj
  subst h
  exact List.mem_range.1 (List.mem_filter.1 (show _ ∈ (List.range n).filter _ from this)).1
theorem head_cons {Q : List Nat} (h : 0 < Q.length) : Q = Q.getD 0 0 :: Q.drop 1 := by
  cases Q with
  | nil => cases h
  | cons q Q => rfl
theorem drop_app {Q X : List Nat} (h : 0 < Q.length) : (Q ++ X).drop 1 = Q.drop 1 ++ X := by
  cases Q with
  | nil => cases h
  | cons q Q => rfl
set_option maxRecDepth 100000 in
set_option maxHeartbeats 4000000 in
theorem places_any (ao : Option Addr) (cap : Nat) (l : List VW) (F : FuncId) (cb : Array Value) (p : Nat → Bool) (w : World) (_HL : RK kvw w ao cap l) (hll : l.length ≤ 6) (hen : ∀ args w, (callFunc F args).run Tryz.prog w = .ok (.enter F args) w) (hC : CloN F cb w l.length p) : Calls Tryz.prog 64 #[.slice ao l.length cap, .func (.func F) #[] cb] w (RowO ((List.range l.length).filter p) w) := by
  refine s_enter Tryz.func64 rfl Tryz.ntmps64 [.slice ao l.length cap, .func (.func F) #[] cb] [.slice ao l.length cap, .func (.func F) #[] cb, undef, undef, undef, undef, undef, undef, undef, undef, undef, undef, undef, undef, undef, undef, undef, undef, undef, undef, undef] rfl ?_
  have GG := Gro.refl w
  refine wp_seq ?_
  refine wp_region_lit ?_
  refine s_val 4 rfl rfl (.slice none 0 0) (rfl) ?_
  refine nr ?_; intro U h; simp only [z0, z1] at h; subst h
  refine wpList_nil ?_
  refine then_n ?_
  refine wp_seq ?_
  refine wp_region_lit ?_
  refine s_val 5 rfl rfl (.slice none 0 0) (rfl) ?_
  refine nr ?_; intro U h; simp only [z0, z1] at h; subst h
  refine wpList_nil ?_
  refine then_n ?_
  refine wp_seq ?_
  refine wp_seq ?_
  refine wp_region_lit ?_
  refine s_val 7 rfl rfl (.slice ao l.length cap) (rfl) ?_
  refine nr ?_; intro U h; simp only [z0, z1] at h; subst h
  refine s_val 8 rfl rfl (.int .i64 ((l.length : Nat) : Int)) (run_len Tryz.underlying22 _ rfl _ _ _ rfl _) ?_
  refine nr ?_; intro U h; simp only [z0, z1] at h; subst h
  refine s_val 9 rfl rfl (.int .i64 0) (rfl) ?_
  refine nr ?_; intro U h; simp only [z0, z1] at h; subst h
  refine wpList_nil ?_
  refine then_n ?_
  refine wp_block ?_
  refine wp_loopN (fun mz az wv => ∃ (i : Nat) (ao1 : Option Addr) (cap1 : Nat) (us1 : Nat → Value), mz = l.length - i ∧ az = ⟨[.slice ao l.length cap, .func (.func F) #[] cb, undef, undef, .slice none 0 0, .slice ao1 ((List.range i).filter p).length cap1, us1 0, .slice ao l.length cap, .int .i64 ((l.length : Nat) : Int), .int .i64 ((i : Nat) : Int), us1 1, us1 2, us1 3, us1 4, us1 5, us1 6, us1 7, us1 8, us1 9, us1 10, undef].toArray, []⟩ ∧ Gro w wv ∧ i ≤ l.length ∧ OW kZ 3 wv w.heap.size ao1 cap1 ((List.range i).filter p)) ?_ _ ⟨0, none, 0, (fun kz => ([undef, undef, undef, undef, undef, undef, undef, undef, undef, undef, undef] : List Value).getD kz undef), rfl, rfl, GG, Nat.zero_le _, OW.nil _ _⟩
  clear GG
  rintro mz az wv ⟨i, ao1, cap1, us1, rfl, rfl, GG, hi, HO⟩
  refine wp_seq ?_
  cases hi1 : decide (((i : Nat) : Int) < ((l.length : Nat) : Int))
  · have hi1e : i = l.length := by have := of_decide_eq_false hi1; omega
    refine wp_region_lit ?_
    refine s_val 10 rfl rfl (.bool false) (run_lssT 3 _ _ _ rfl ((i : Nat) : Int) ((l.length : Nat) : Int) rfl rfl false hi1 _) ?_
    refine nr ?_; intro U h; simp only [z0, z1] at h; subst h
    refine wpList_nil ?_
    refine then_n ?_
    refine wp_seq ?_
    refine wp_cond_false rfl ?_
    refine wp_exit ?_
    refine then_x ?_
    refine then_x ?_
    refine blk_x ?_
    refine then_n ?_
    refine wp_seq ?_
    refine wp_region_lit ?_
    refine s_val 20 rfl rfl (.slice ao1 ((List.range i).filter p).length cap1) (rfl) ?_
    refine nr ?_; intro U h; simp only [z0, z1] at h; subst h
    refine s_val 4 rfl rfl (.slice ao1 ((List.range i).filter p).length cap1) (rfl) ?_
    refine nr ?_; intro U h; simp only [z0, z1] at h; subst h
    refine wpList_nil ?_
    refine then_n ?_
    refine wp_ret ?_
    refine bodyPost_ret (results_tmp Tryz.results64 _ _ _) rfl ?_
    rw [hi1e] at HO ⊢
    exact ⟨_, _, rfl, GG, HO⟩
  · have hi1l : i < l.length := by have := of_decide_eq_true hi1; omega
    refine wp_region_lit ?_
    refine s_val 10 rfl rfl (.bool true) (run_lssT 3 _ _ _ rfl ((i : Nat) : Int) ((l.length : Nat) : Int) rfl rfl true hi1 _) ?_
    refine nr ?_; intro U h; simp only [z0, z1] at h; subst h
    refine wpList_nil ?_
    refine then_n ?_
    refine wp_seq ?_
    refine wp_cond_true rfl ?_
    refine wp_skip ?_
    refine then_n ?_
    refine wp_seq ?_
    refine wp_block ?_
    refine wp_seq ?_
    refine wp_region_lit ?_
    refine s_val 11 rfl rfl (.int .i64 ((i : Nat) : Int)) (rfl) ?_
    refine nr ?_; intro U h; simp only [z0, z1] at h; subst h
    refine s_val 6 rfl rfl (.int .i64 ((i : Nat) : Int)) (rfl) ?_
    refine nr ?_; intro U h; simp only [z0, z1] at h; subst h
    refine wpList_nil ?_
    refine then_n ?_
    refine wp_seq ?_
    cases t2 : p i
    · refine wp_region_lit ?_
      refine s_val 12 rfl rfl (.func (.func F) #[] cb) (rfl) ?_
      refine nr ?_; intro U h; simp only [z0, z1] at h; subst h
      refine s_val 13 rfl rfl (.int .i64 ((i : Nat) : Int)) (rfl) ?_
      refine nr ?_; intro U h; simp only [z0, z1] at h; subst h
      refine s_callF 14 rfl rfl _ F cb hen rfl _ rfl rfl _ rfl [.int .i64 ((i : Nat) : Int)] rfl (Calls.bool (hC i hi1l _ GG) t2) ?_
      intro w1 G
      replace HO := HO.gro G
      replace GG := GG.trans G
      clear G
      refine nr ?_; intro U h; simp only [z0, z1] at h; subst h
      refine wpList_nil ?_
      refine then_n ?_
      refine wp_cond_false rfl ?_
      refine wp_skip ?_
      refine blk_n ?_
      refine then_n ?_
      refine wp_region_lit ?_
      refine s_val 19 rfl rfl (.int .i64 ((i + 1 : Nat) : Int)) (run_addI 3 _ _ _ rfl ((i : Nat) : Int) 1 ((i + 1 : Nat) : Int) rfl rfl (by omega) (by omega) (by omega) _) ?_
      refine nr ?_; intro U h; simp only [z0, z1] at h; subst h
      refine s_val 9 rfl rfl (.int .i64 ((i + 1 : Nat) : Int)) (rfl) ?_
      refine nr ?_; intro U h; simp only [z0, z1] at h; subst h
      refine wpList_nil ?_
      refine then_n ?_
      exact ⟨_, by omega, i + 1, ao1, cap1, (fun kz => ([.int .i64 ((i : Nat) : Int), .bool true, .int .i64 ((i : Nat) : Int), .func (.func F) #[] cb, .int .i64 ((i : Nat) : Int), .bool false, us1 6, us1 7, us1 8, us1 9, .int .i64 ((i + 1 : Nat) : Int)] : List Value).getD kz undef), rfl, by rw [filt_step p i false t2, if_neg (by decide), List.append_nil]; rfl, GG, by omega, by rw [filt_step p i false t2, if_neg (by decide), List.append_nil]; exact HO⟩
    · refine wp_region_lit ?_
      refine s_val 12 rfl rfl (.func (.func F) #[] cb) (rfl) ?_
      refine nr ?_; intro U h; simp only [z0, z1] at h; subst h
      refine s_val 13 rfl rfl (.int .i64 ((i : Nat) : Int)) (rfl) ?_
      refine nr ?_; intro U h; simp only [z0, z1] at h; subst h
      refine s_callF 14 rfl rfl _ F cb hen rfl _ rfl rfl _ rfl [.int .i64 ((i : Nat) : Int)] rfl (Calls.bool (hC i hi1l _ GG) t2) ?_
      intro w1 G
      replace HO := HO.gro G
      replace GG := GG.trans G
      clear G
      refine nr ?_; intro U h; simp only [z0, z1] at h; subst h
      refine wpList_nil ?_
      refine then_n ?_
      refine wp_cond_true rfl ?_
      refine wp_region_lit ?_
      refine s_val 15 rfl rfl (.slice ao1 ((List.range i).filter p).length cap1) (rfl) ?_
      refine nr ?_; intro U h; simp only [z0, z1] at h; subst h
      refine s_val 16 rfl rfl (.int .i64 ((i : Nat) : Int)) (rfl) ?_
      refine nr ?_; intro U h; simp only [z0, z1] at h; subst h
      refine s_bsl 17 rfl rfl 53 1 _ rfl [(0, .int .i64 ((i : Nat) : Int))] rfl ([i].flatMap kZ.E).toArray 3 (bs_kZ i _) ?_
      intro w2 q1 G eq1 kq1
      have bq1 := size_base GG eq1
      replace HO := HO.gro G
      replace GG := GG.trans G
      clear G
      have HQ1 : OW kZ 3 w2 w.heap.size (some ⟨q1, 0, none⟩) 1 [i] := OW.blk kq1 (one_all (show kZ.ok _ from trivial)) bq1 (by simp)
      clear eq1 kq1
      refine nr ?_; intro U h; simp only [z0, z1] at h; subst h
      refine s_appK rkZ (by decide) 18 rfl rfl _ _ rfl rfl HO (l' := [i]) rfl HQ1.re (by have := filt_len p i; simp only [List.length_singleton]; omega) GG.size ?_
      intro aq2 cq2 w3 HZ2 G2 KP2
      clear HQ1
      replace GG := G2.gro GG HO.own.base
      clear G2 KP2 HO
      have HO := HZ2
      clear HZ2
      refine nr ?_; intro U h; simp only [z0, z1] at h; subst h
      refine s_val 5 rfl rfl (.slice aq2 (((List.range i).filter p) ++ [i]).length cq2) (rfl) ?_
      refine nr ?_; intro U h; simp only [z0, z1] at h; subst h
      refine wpList_nil ?_
      refine blk_n ?_
      refine then_n ?_
      refine wp_region_lit ?_
      refine s_val 19 rfl rfl (.int .i64 ((i + 1 : Nat) : Int)) (run_addI 3 _ _ _ rfl ((i : Nat) : Int) 1 ((i + 1 : Nat) : Int) rfl rfl (by omega) (by omega) (by omega) _) ?_
      refine nr ?_; intro U h; simp only [z0, z1] at h; subst h
      refine s_val 9 rfl rfl (.int .i64 ((i + 1 : Nat) : Int)) (rfl) ?_
      refine nr ?_; intro U h; simp only [z0, z1] at h; subst h
      refine wpList_nil ?_
      refine then_n ?_
      exact ⟨_, by omega, i + 1, aq2, cq2, (fun kz => ([.int .i64 ((i : Nat) : Int), .bool true, .int .i64 ((i : Nat) : Int), .func (.func F) #[] cb, .int .i64 ((i : Nat) : Int), .bool true, .slice ao1 ((List.range i).filter p).length cap1, .int .i64 ((i : Nat) : Int), .slice (some ⟨q1, 0, none⟩) 1 1, .slice aq2 (((List.range i).filter p) ++ [i]).length cq2, .int .i64 ((i + 1 : Nat) : Int)] : List Value).getD kz undef), rfl, by rw [filt_step p i true t2]; rfl, GG, by omega, by rw [filt_step p i true t2]; exact HO⟩
set_option maxRecDepth 100000 in
set_option maxHeartbeats 4000000 in
theorem clo2_any (l : List VW) (b g7 gM : Nat) (M : Nat → Bool) (w : World) (hb : b < l.length) (kg7 : w.heap[g7]? = some (.cells #[.slice (some ⟨gM, 0, none⟩) l.length l.length] 118 (0, 0))) (kgM : w.heap[gM]? = some (.cells (mtA l.length M) 4 (0, 0))) : Calls Tryz.prog 66 #[.int .i64 ((b : Nat) : Int), .pointer (some ⟨g7, 0, none⟩)] w (fun e w' => e = .returned (.bool (M b)) ∧ Gro w w') := by
  refine s_enter Tryz.func66 rfl Tryz.ntmps66 [.int .i64 ((b : Nat) : Int), .pointer (some ⟨g7, 0, none⟩)] [.int .i64 ((b : Nat) : Int), .pointer (some ⟨g7, 0, none⟩), undef, undef, undef, undef, undef, undef] rfl ?_
  have GG := Gro.refl w
  refine wp_seq ?_
  refine wp_region_lit ?_
  refine s_val 3 rfl rfl (.bool false) (rfl) ?_
  refine nr ?_; intro U h; simp only [z0, z1] at h; subst h
  refine wpList_nil ?_
  refine then_n ?_
  refine wp_seq ?_
  refine wp_region_lit ?_
  refine s_val 4 rfl rfl (.slice (some ⟨gM, 0, none⟩) l.length l.length) (ldO118 (.slice (some ⟨gM, 0, none⟩) l.length l.length) _ rfl g7 rfl (kg7)) ?_
  refine nr ?_; intro U h; simp only [z0, z1] at h; subst h
  refine s_val 5 rfl rfl (.int .i64 ((b : Nat) : Int)) (rfl) ?_
  refine nr ?_; intro U h; simp only [z0, z1] at h; subst h
  refine s_val 6 rfl rfl (.pointer (some ⟨gM, b, none⟩)) (run_ixM _ _ rfl gM l.length b rfl rfl hb _) ?_
  refine nr ?_; intro U h; simp only [z0, z1] at h; subst h
  refine s_val 7 rfl rfl (.bool (M b)) (ldMt _ rfl gM b rfl (kgM) hb _ rfl) ?_
  refine nr ?_; intro U h; simp only [z0, z1] at h; subst h
  refine s_val 3 rfl rfl (.bool (M b)) (rfl) ?_
  refine nr ?_; intro U h; simp only [z0, z1] at h; subst h
  refine wpList_nil ?_
  refine then_n ?_
  refine wp_ret ?_
  refine bodyPost_ret (results_tmp Tryz.results66 _ _ _) rfl ?_
  exact ⟨rfl, GG⟩
set_option maxRecDepth 100000 in
set_option maxHeartbeats 4000000 in
theorem clo1_any (ao : Option Addr) (cap : Nat) (l : List VW) (b g7 g3 g4 g8 gM : Nat) (M : Nat → Bool) (R : Nat → Nat → Bool) (aq : Option Addr) (cq : Nat) (Q : List Nat) (w : World) (HL : RK kvw w ao cap l) (hll : l.length ≤ 6) (hb : b < l.length) (HQ : RK kZ w aq cq Q) (hq0 : 0 < Q.length) (hq6 : Q.getD 0 0 < 6) (kg7 : w.heap[g7]? = some (.cells #[.slice (some ⟨gM, 0, none⟩) l.length l.length] 118 (0, 0))) (kgM : w.heap[gM]? = some (.cells (mtA l.length M) 4 (0, 0))) (kg3 : w.heap[g3]? = some (.cells #[.slice ao l.length cap] 22 (0, 0))) (kg4 : w.heap[g4]? = some (.cells #[.func (.func 22) #[.agg (mxA R)] #[]] 49 (0, 0))) (kg8 : w.heap[g8]? = some (.cells #[.slice aq Q.length cq] 53 (0, 0))) : Calls Tryz.prog 65 #[.int .i64 ((b : Nat) : Int), .pointer (some ⟨g7, 0, none⟩), .pointer (some ⟨g3, 0, none⟩), .pointer (some ⟨g4, 0, none⟩), .pointer (some ⟨g8, 0, none⟩)] w (fun e w' => e = .returned (.bool ((!M b && upF l b) && R (Q.getD 0 0) b)) ∧ Gro w w') := by
  refine s_enter Tryz.func65 rfl Tryz.ntmps65 [.int .i64 ((b : Nat) : Int), .pointer (some ⟨g7, 0, none⟩), .pointer (some ⟨g3, 0, none⟩), .pointer (some ⟨g4, 0, none⟩), .pointer (some ⟨g8, 0, none⟩)] [.int .i64 ((b : Nat) : Int), .pointer (some ⟨g7, 0, none⟩), .pointer (some ⟨g3, 0, none⟩), .pointer (some ⟨g4, 0, none⟩), .pointer (some ⟨g8, 0, none⟩), undef, undef, undef, undef, undef, undef, undef, undef, undef, undef, undef, undef, undef, undef, undef, undef, undef, undef, undef, undef] rfl ?_
  have GG := Gro.refl w
  refine wp_seq ?_
  refine wp_region_lit ?_
  refine s_val 6 rfl rfl (.bool false) (rfl) ?_
  refine nr ?_; intro U h; simp only [z0, z1] at h; subst h
  refine wpList_nil ?_
  refine then_n ?_
  refine wp_seq ?_
  cases m1 : M b
  · cases u2 : (l.getD b zW).up
    · refine wp_region_exA (A := ?Ax1) 17 [(0, 7), (1, 8), (2, 9), (3, 10), (4, 11), (5, 12), (6, 13), (7, 14), (8, 15), (9, 16), (10, 17), (11, 18), (12, 19), (13, 20), (14, 21), (15, 22), (16, 23)] [.val (.slice (some ⟨gM, 0, none⟩) l.length l.length), .val (.int .i64 ((b : Nat) : Int)), .val (.pointer (some ⟨gM, b, none⟩)), .val (.bool false), .val (.bool true), .val (.bool true), .val (.slice ao l.length cap), .val (.int .i64 ((b : Nat) : Int)), .val (.bool false), .val (.bool false), .val (.bool false), .val undef, .val undef, .val undef, .val undef, .val undef, .val undef] follows (by kernel_rfl) rfl ?hAx1 (opsA_cons ?o0x1 (opsA_cons ?o1x1 (opsA_cons ?o2x1 (opsA_cons ?o3x1 (opsA_cons ?o4x1 (opsA_cons ?o5x1 (opsA_cons ?o6x1 (opsA_cons ?o7x1 (opsA_cons ?o8x1 (opsA_cons ?o9x1 (opsA_cons ?o10x1 (opsA_cons ?o11x1 (opsA_cons ?o12x1 (opsA_cons ?o13x1 (opsA_cons ?o14x1 (opsA_cons ?o15x1 (opsA_cons ?o16x1 opsA_nil))))))))))))))))) ?restx1
      case hAx1 =>
        intro ptrs
        simp only [full, foldSlots, filledE, postE, List.foldl_cons, List.foldl_nil, List.getD_cons_zero, List.getD_cons_succ, fill_val, List.set_cons_zero, List.set_cons_succ]
        exact rfl
      case o0x1 => exact fun _ _ hw _ => opE_value (v := .slice (some ⟨gM, 0, none⟩) l.length l.length) rfl (ldO118 (.slice (some ⟨gM, 0, none⟩) l.length l.length) _ rfl g7 rfl (hw.has kg7))
      case o1x1 => exact fun _ _ _ _ => opE_move (v := .int .i64 ((b : Nat) : Int)) _ rfl rfl rfl
      case o2x1 => exact fun _ _ _ _ => opE_value (v := .pointer (some ⟨gM, b, none⟩)) rfl (run_ixM _ _ rfl gM l.length b rfl rfl hb _)
      case o3x1 => exact fun _ _ hw _ => opE_value (v := .bool false) rfl (ldMt _ rfl gM b rfl (hw.has kgM) hb _ m1)
      case o4x1 => exact fun _ _ _ _ => opE_value (v := .bool true) rfl (run_nt _ _ rfl false rfl)
      case o5x1 => exact fun _ _ _ _ => opE_move (v := .bool true) _ rfl rfl rfl
      case o6x1 => exact fun _ _ hw _ => opE_value (v := .slice ao l.length cap) rfl (ldO22 (.slice ao l.length cap) _ rfl g3 rfl (hw.has kg3))
      case o7x1 => exact fun _ _ _ _ => opE_move (v := .int .i64 ((b : Nat) : Int)) _ rfl rfl rfl
      case o8x1 =>
        intro ptrs w' hw hE
        exact opE_call (.val (.bool false)) rfl _ 54 Tryz.call54 rfl rfl _ rfl [.slice ao l.length cap, .int .i64 ((b : Nat) : Int)] rfl ((Calls.bool (runs_any ao cap l b _ ((HL).gro ((Gro.refl _).drew.trans hw)) hb) u2).mono fun e w' ⟨he, hg⟩ => ⟨_, he, hg, rfl⟩)
      case o9x1 => exact fun _ _ _ _ => opE_pick (v := .bool false) _ _ _ rfl rfl true rfl rfl
      case o10x1 => exact fun _ _ _ _ => opE_move (v := .bool false) _ rfl rfl rfl
      case o11x1 => exact fun _ _ _ _ => opE_skip rfl
      case o12x1 => exact fun _ _ _ _ => opE_skip rfl
      case o13x1 => exact fun _ _ _ _ => opE_skip rfl
      case o14x1 => exact fun _ _ _ _ => opE_skip rfl
      case o15x1 => exact fun _ _ _ _ => opE_skip rfl
      case o16x1 => exact fun _ _ _ _ => opE_skip rfl
      intro ptrs w1 GD hxE
      simp only [List.drop_succ_cons, List.drop_zero]
      replace kg7 := GD.has kg7
      replace kgM := GD.has kgM
      replace kg3 := GD.has kg3
      replace kg4 := GD.has kg4
      replace kg8 := GD.has kg8
      replace HL := HL.gro ((Gro.refl _).drew.trans GD)
      replace HQ := HQ.gro ((Gro.refl _).drew.trans GD)
      replace GG := GG.drew.trans GD
      clear GD
      refine s_val 24 rfl rfl (.bool false) (rfl) ?_
      refine nr ?_; intro U h; simp only [z0, z1] at h; subst h
      refine s_val 6 rfl rfl (.bool false) (rfl) ?_
      refine nr ?_; intro U h; simp only [z0, z1] at h; subst h
      refine wpList_nil ?_
      refine then_n ?_
      refine wp_ret ?_
      refine bodyPost_ret (results_tmp Tryz.results65 _ _ _) rfl ?_
      refine ⟨?_, GG⟩
      unfold upF
      rw [u2]
      rfl
    · cases u3 : R (Q.getD 0 0) b
      · refine wp_region_exA (A := ?Ax2) 17 [(0, 7), (1, 8), (2, 9), (3, 10), (4, 11), (5, 12), (6, 13), (7, 14), (8, 15), (9, 16), (10, 17), (11, 18), (12, 19), (13, 20), (14, 21), (15, 22), (16, 23)] [.val (.slice (some ⟨gM, 0, none⟩) l.length l.length), .val (.int .i64 ((b : Nat) : Int)), .val (.pointer (some ⟨gM, b, none⟩)), .val (.bool false), .val (.bool true), .val (.bool true), .val (.slice ao l.length cap), .val (.int .i64 ((b : Nat) : Int)), .val (.bool true), .val (.bool true), .val (.bool true), .val (.func (.func 22) #[.agg (mxA R)] #[]), .val (.slice aq Q.length cq), .val (.pointer (pK kZ aq 0 0)), .val (.int .i64 (((Q.getD 0 0) : Nat) : Int)), .val (.int .i64 ((b : Nat) : Int)), .val (.bool false)] follows (by kernel_rfl) rfl ?hAx2 (opsA_cons ?o0x2 (opsA_cons ?o1x2 (opsA_cons ?o2x2 (opsA_cons ?o3x2 (opsA_cons ?o4x2 (opsA_cons ?o5x2 (opsA_cons ?o6x2 (opsA_cons ?o7x2 (opsA_cons ?o8x2 (opsA_cons ?o9x2 (opsA_cons ?o10x2 (opsA_cons ?o11x2 (opsA_cons ?o12x2 (opsA_cons ?o13x2 (opsA_cons ?o14x2 (opsA_cons ?o15x2 (opsA_cons ?o16x2 opsA_nil))))))))))))))))) ?restx2
        case hAx2 =>
          intro ptrs
          simp only [full, foldSlots, filledE, postE, List.foldl_cons, List.foldl_nil, List.getD_cons_zero, List.getD_cons_succ, fill_val, List.set_cons_zero, List.set_cons_succ]
          exact rfl
        case o0x2 => exact fun _ _ hw _ => opE_value (v := .slice (some ⟨gM, 0, none⟩) l.length l.length) rfl (ldO118 (.slice (some ⟨gM, 0, none⟩) l.length l.length) _ rfl g7 rfl (hw.has kg7))
        case o1x2 => exact fun _ _ _ _ => opE_move (v := .int .i64 ((b : Nat) : Int)) _ rfl rfl rfl
        case o2x2 => exact fun _ _ _ _ => opE_value (v := .pointer (some ⟨gM, b, none⟩)) rfl (run_ixM _ _ rfl gM l.length b rfl rfl hb _)
        case o3x2 => exact fun _ _ hw _ => opE_value (v := .bool false) rfl (ldMt _ rfl gM b rfl (hw.has kgM) hb _ m1)
        case o4x2 => exact fun _ _ _ _ => opE_value (v := .bool true) rfl (run_nt _ _ rfl false rfl)
        case o5x2 => exact fun _ _ _ _ => opE_move (v := .bool true) _ rfl rfl rfl
        case o6x2 => exact fun _ _ hw _ => opE_value (v := .slice ao l.length cap) rfl (ldO22 (.slice ao l.length cap) _ rfl g3 rfl (hw.has kg3))
        case o7x2 => exact fun _ _ _ _ => opE_move (v := .int .i64 ((b : Nat) : Int)) _ rfl rfl rfl
        case o8x2 =>
          intro ptrs w' hw hE
          exact opE_call (.val (.bool true)) rfl _ 54 Tryz.call54 rfl rfl _ rfl [.slice ao l.length cap, .int .i64 ((b : Nat) : Int)] rfl ((Calls.bool (runs_any ao cap l b _ ((HL).gro ((Gro.refl _).drew.trans hw)) hb) u2).mono fun e w' ⟨he, hg⟩ => ⟨_, he, hg, rfl⟩)
        case o9x2 => exact fun _ _ _ _ => opE_pick (v := .bool true) _ _ _ rfl rfl true rfl rfl
        case o10x2 => exact fun _ _ _ _ => opE_move (v := .bool true) _ rfl rfl rfl
        case o11x2 => exact fun _ _ hw _ => opE_value (v := .func (.func 22) #[.agg (mxA R)] #[]) rfl (ldO49 (.func (.func 22) #[.agg (mxA R)] #[]) _ rfl g4 rfl (hw.has kg4))
        case o12x2 => exact fun _ _ hw _ => opE_value (v := .slice aq Q.length cq) rfl (ldO53 (.slice aq Q.length cq) _ rfl g8 rfl (hw.has kg8))
        case o13x2 => exact fun _ _ hw _ => opE_value (v := .pointer (pK kZ aq 0 0)) rfl (run_ixK rkZ ((HQ).gro ((Gro.refl _).drew.trans hw)) _ _ rfl rfl 0 rfl hq0)
        case o14x2 => exact fun _ _ hw _ => opE_value (v := .int .i64 (((Q.getD 0 0) : Nat) : Int)) rfl (run_ld_kZ ((HQ).gro ((Gro.refl _).drew.trans hw)) _ rfl 0 rfl hq0)
        case o15x2 => exact fun _ _ _ _ => opE_move (v := .int .i64 ((b : Nat) : Int)) _ rfl rfl rfl
        case o16x2 =>
          intro ptrs w' hw hE
          exact opE_callB (.val (.bool false)) rfl _ 22 #[.agg (mxA R)] #[] Tryz.call22 rfl _ rfl rfl _ rfl [.int .i64 ((Q.getD 0 0 : Nat) : Int), .int .i64 ((b : Nat) : Int)] rfl ((Calls.bool (on_any R (Q.getD 0 0) b _ hq6 (by omega)) u3).mono fun e w' ⟨he, hg⟩ => ⟨_, he, hg, rfl⟩)
        intro ptrs w1 GD hxE
        simp only [List.drop_succ_cons, List.drop_zero]
        replace kg7 := GD.has kg7
        replace kgM := GD.has kgM
        replace kg3 := GD.has kg3
        replace kg4 := GD.has kg4
        replace kg8 := GD.has kg8
        replace HL := HL.gro ((Gro.refl _).drew.trans GD)
        replace HQ := HQ.gro ((Gro.refl _).drew.trans GD)
        replace GG := GG.drew.trans GD
        clear GD
        refine s_val 24 rfl rfl (.bool false) (rfl) ?_
        refine nr ?_; intro U h; simp only [z0, z1] at h; subst h
        refine s_val 6 rfl rfl (.bool false) (rfl) ?_
        refine nr ?_; intro U h; simp only [z0, z1] at h; subst h
        refine wpList_nil ?_
        refine then_n ?_
        refine wp_ret ?_
        refine bodyPost_ret (results_tmp Tryz.results65 _ _ _) rfl ?_
        refine ⟨?_, GG⟩
        unfold upF
        rw [u2]
        rfl
      · refine wp_region_exA (A := ?Ax3) 17 [(0, 7), (1, 8), (2, 9), (3, 10), (4, 11), (5, 12), (6, 13), (7, 14), (8, 15), (9, 16), (10, 17), (11, 18), (12, 19), (13, 20), (14, 21), (15, 22), (16, 23)] [.val (.slice (some ⟨gM, 0, none⟩) l.length l.length), .val (.int .i64 ((b : Nat) : Int)), .val (.pointer (some ⟨gM, b, none⟩)), .val (.bool false), .val (.bool true), .val (.bool true), .val (.slice ao l.length cap), .val (.int .i64 ((b : Nat) : Int)), .val (.bool true), .val (.bool true), .val (.bool true), .val (.func (.func 22) #[.agg (mxA R)] #[]), .val (.slice aq Q.length cq), .val (.pointer (pK kZ aq 0 0)), .val (.int .i64 (((Q.getD 0 0) : Nat) : Int)), .val (.int .i64 ((b : Nat) : Int)), .val (.bool true)] follows (by kernel_rfl) rfl ?hAx3 (opsA_cons ?o0x3 (opsA_cons ?o1x3 (opsA_cons ?o2x3 (opsA_cons ?o3x3 (opsA_cons ?o4x3 (opsA_cons ?o5x3 (opsA_cons ?o6x3 (opsA_cons ?o7x3 (opsA_cons ?o8x3 (opsA_cons ?o9x3 (opsA_cons ?o10x3 (opsA_cons ?o11x3 (opsA_cons ?o12x3 (opsA_cons ?o13x3 (opsA_cons ?o14x3 (opsA_cons ?o15x3 (opsA_cons ?o16x3 opsA_nil))))))))))))))))) ?restx3
        case hAx3 =>
          intro ptrs
          simp only [full, foldSlots, filledE, postE, List.foldl_cons, List.foldl_nil, List.getD_cons_zero, List.getD_cons_succ, fill_val, List.set_cons_zero, List.set_cons_succ]
          exact rfl
        case o0x3 => exact fun _ _ hw _ => opE_value (v := .slice (some ⟨gM, 0, none⟩) l.length l.length) rfl (ldO118 (.slice (some ⟨gM, 0, none⟩) l.length l.length) _ rfl g7 rfl (hw.has kg7))
        case o1x3 => exact fun _ _ _ _ => opE_move (v := .int .i64 ((b : Nat) : Int)) _ rfl rfl rfl
        case o2x3 => exact fun _ _ _ _ => opE_value (v := .pointer (some ⟨gM, b, none⟩)) rfl (run_ixM _ _ rfl gM l.length b rfl rfl hb _)
        case o3x3 => exact fun _ _ hw _ => opE_value (v := .bool false) rfl (ldMt _ rfl gM b rfl (hw.has kgM) hb _ m1)
        case o4x3 => exact fun _ _ _ _ => opE_value (v := .bool true) rfl (run_nt _ _ rfl false rfl)
        case o5x3 => exact fun _ _ _ _ => opE_move (v := .bool true) _ rfl rfl rfl
        case o6x3 => exact fun _ _ hw _ => opE_value (v := .slice ao l.length cap) rfl (ldO22 (.slice ao l.length cap) _ rfl g3 rfl (hw.has kg3))
        case o7x3 => exact fun _ _ _ _ => opE_move (v := .int .i64 ((b : Nat) : Int)) _ rfl rfl rfl
        case o8x3 =>
          intro ptrs w' hw hE
          exact opE_call (.val (.bool true)) rfl _ 54 Tryz.call54 rfl rfl _ rfl [.slice ao l.length cap, .int .i64 ((b : Nat) : Int)] rfl ((Calls.bool (runs_any ao cap l b _ ((HL).gro ((Gro.refl _).drew.trans hw)) hb) u2).mono fun e w' ⟨he, hg⟩ => ⟨_, he, hg, rfl⟩)
        case o9x3 => exact fun _ _ _ _ => opE_pick (v := .bool true) _ _ _ rfl rfl true rfl rfl
        case o10x3 => exact fun _ _ _ _ => opE_move (v := .bool true) _ rfl rfl rfl
        case o11x3 => exact fun _ _ hw _ => opE_value (v := .func (.func 22) #[.agg (mxA R)] #[]) rfl (ldO49 (.func (.func 22) #[.agg (mxA R)] #[]) _ rfl g4 rfl (hw.has kg4))
        case o12x3 => exact fun _ _ hw _ => opE_value (v := .slice aq Q.length cq) rfl (ldO53 (.slice aq Q.length cq) _ rfl g8 rfl (hw.has kg8))
        case o13x3 => exact fun _ _ hw _ => opE_value (v := .pointer (pK kZ aq 0 0)) rfl (run_ixK rkZ ((HQ).gro ((Gro.refl _).drew.trans hw)) _ _ rfl rfl 0 rfl hq0)
        case o14x3 => exact fun _ _ hw _ => opE_value (v := .int .i64 (((Q.getD 0 0) : Nat) : Int)) rfl (run_ld_kZ ((HQ).gro ((Gro.refl _).drew.trans hw)) _ rfl 0 rfl hq0)
        case o15x3 => exact fun _ _ _ _ => opE_move (v := .int .i64 ((b : Nat) : Int)) _ rfl rfl rfl
        case o16x3 =>
          intro ptrs w' hw hE
          exact opE_callB (.val (.bool true)) rfl _ 22 #[.agg (mxA R)] #[] Tryz.call22 rfl _ rfl rfl _ rfl [.int .i64 ((Q.getD 0 0 : Nat) : Int), .int .i64 ((b : Nat) : Int)] rfl ((Calls.bool (on_any R (Q.getD 0 0) b _ hq6 (by omega)) u3).mono fun e w' ⟨he, hg⟩ => ⟨_, he, hg, rfl⟩)
        intro ptrs w1 GD hxE
        simp only [List.drop_succ_cons, List.drop_zero]
        replace kg7 := GD.has kg7
        replace kgM := GD.has kgM
        replace kg3 := GD.has kg3
        replace kg4 := GD.has kg4
        replace kg8 := GD.has kg8
        replace HL := HL.gro ((Gro.refl _).drew.trans GD)
        replace HQ := HQ.gro ((Gro.refl _).drew.trans GD)
        replace GG := GG.drew.trans GD
        clear GD
        refine s_val 24 rfl rfl (.bool true) (rfl) ?_
        refine nr ?_; intro U h; simp only [z0, z1] at h; subst h
        refine s_val 6 rfl rfl (.bool true) (rfl) ?_
        refine nr ?_; intro U h; simp only [z0, z1] at h; subst h
        refine wpList_nil ?_
        refine then_n ?_
        refine wp_ret ?_
        refine bodyPost_ret (results_tmp Tryz.results65 _ _ _) rfl ?_
        refine ⟨?_, GG⟩
        unfold upF
        rw [u2]
        rfl
  · refine wp_region_exA (A := ?Ax4) 17 [(0, 7), (1, 8), (2, 9), (3, 10), (4, 11), (5, 12), (6, 13), (7, 14), (8, 15), (9, 16), (10, 17), (11, 18), (12, 19), (13, 20), (14, 21), (15, 22), (16, 23)] [.val (.slice (some ⟨gM, 0, none⟩) l.length l.length), .val (.int .i64 ((b : Nat) : Int)), .val (.pointer (some ⟨gM, b, none⟩)), .val (.bool true), .val (.bool false), .val (.bool false), .val undef, .val undef, .val undef, .val (.bool false), .val (.bool false), .val undef, .val undef, .val undef, .val undef, .val undef, .val undef] follows (by kernel_rfl) rfl ?hAx4 (opsA_cons ?o0x4 (opsA_cons ?o1x4 (opsA_cons ?o2x4 (opsA_cons ?o3x4 (opsA_cons ?o4x4 (opsA_cons ?o5x4 (opsA_cons ?o6x4 (opsA_cons ?o7x4 (opsA_cons ?o8x4 (opsA_cons ?o9x4 (opsA_cons ?o10x4 (opsA_cons ?o11x4 (opsA_cons ?o12x4 (opsA_cons ?o13x4 (opsA_cons ?o14x4 (opsA_cons ?o15x4 (opsA_cons ?o16x4 opsA_nil))))))))))))))))) ?restx4
    case hAx4 =>
      intro ptrs
      simp only [full, foldSlots, filledE, postE, List.foldl_cons, List.foldl_nil, List.getD_cons_zero, List.getD_cons_succ, fill_val, List.set_cons_zero, List.set_cons_succ]
      exact rfl
    case o0x4 => exact fun _ _ hw _ => opE_value (v := .slice (some ⟨gM, 0, none⟩) l.length l.length) rfl (ldO118 (.slice (some ⟨gM, 0, none⟩) l.length l.length) _ rfl g7 rfl (hw.has kg7))
    case o1x4 => exact fun _ _ _ _ => opE_move (v := .int .i64 ((b : Nat) : Int)) _ rfl rfl rfl
    case o2x4 => exact fun _ _ _ _ => opE_value (v := .pointer (some ⟨gM, b, none⟩)) rfl (run_ixM _ _ rfl gM l.length b rfl rfl hb _)
    case o3x4 => exact fun _ _ hw _ => opE_value (v := .bool true) rfl (ldMt _ rfl gM b rfl (hw.has kgM) hb _ m1)
    case o4x4 => exact fun _ _ _ _ => opE_value (v := .bool false) rfl (run_nt _ _ rfl true rfl)
    case o5x4 => exact fun _ _ _ _ => opE_move (v := .bool false) _ rfl rfl rfl
    case o6x4 => exact fun _ _ _ _ => opE_skip rfl
    case o7x4 => exact fun _ _ _ _ => opE_skip rfl
    case o8x4 => exact fun _ _ _ _ => opE_skip rfl
    case o9x4 => exact fun _ _ _ _ => opE_pick (v := .bool false) _ _ _ rfl rfl false rfl rfl
    case o10x4 => exact fun _ _ _ _ => opE_move (v := .bool false) _ rfl rfl rfl
    case o11x4 => exact fun _ _ _ _ => opE_skip rfl
    case o12x4 => exact fun _ _ _ _ => opE_skip rfl
    case o13x4 => exact fun _ _ _ _ => opE_skip rfl
    case o14x4 => exact fun _ _ _ _ => opE_skip rfl
    case o15x4 => exact fun _ _ _ _ => opE_skip rfl
    case o16x4 => exact fun _ _ _ _ => opE_skip rfl
    intro ptrs w1 GD hxE
    simp only [List.drop_succ_cons, List.drop_zero]
    replace kg7 := GD.has kg7
    replace kgM := GD.has kgM
    replace kg3 := GD.has kg3
    replace kg4 := GD.has kg4
    replace kg8 := GD.has kg8
    replace HL := HL.gro ((Gro.refl _).drew.trans GD)
    replace HQ := HQ.gro ((Gro.refl _).drew.trans GD)
    replace GG := GG.drew.trans GD
    clear GD
    refine s_val 24 rfl rfl (.bool false) (rfl) ?_
    refine nr ?_; intro U h; simp only [z0, z1] at h; subst h
    refine s_val 6 rfl rfl (.bool false) (rfl) ?_
    refine nr ?_; intro U h; simp only [z0, z1] at h; subst h
    refine wpList_nil ?_
    refine then_n ?_
    refine wp_ret ?_
    refine bodyPost_ret (results_tmp Tryz.results65 _ _ _) rfl ?_
    refine ⟨?_, GG⟩
    rfl
set_option maxRecDepth 100000 in
set_option maxHeartbeats 4000000 in
theorem reach_any (ao : Option Addr) (cap : Nat) (l : List VW) (R : Nat → Nat → Bool) (a : Nat) (w : World) (HL : RK kvw w ao cap l) (hll : l.length ≤ 6) (ha : a < l.length) : Calls Tryz.prog 26 #[.slice ao l.length cap, .func (.func 22) #[.agg (mxA R)] #[], .int .i64 ((a : Nat) : Int)] w (RowZ (rch l.length (upF l) R a) w) := by
  refine s_enter Tryz.func26 rfl Tryz.ntmps26 [.slice ao l.length cap, .func (.func 22) #[.agg (mxA R)] #[], .int .i64 ((a : Nat) : Int)] [.slice ao l.length cap, .func (.func 22) #[.agg (mxA R)] #[], .int .i64 ((a : Nat) : Int), undef, undef, undef, undef, undef, undef, undef, undef, undef, undef, undef, undef, undef, undef, undef, undef, undef, undef, undef, undef, undef, undef, undef, undef, undef, undef, undef, undef, undef, undef, undef, undef, undef, undef, undef, undef, undef, undef, undef, undef, undef, undef, undef, undef, undef, undef] rfl ?_
  have GG := Gro.refl w
  refine wp_seq ?_
  refine wp_region_lit ?_
  refine s_box 3 rfl rfl 22 _ rfl _ rfl #[.slice ao l.length cap] rfl ?_
  intro w1 g3 G eg3 kg3
  have bg3 := size_base GG eg3
  replace GG := GG.trans G
  clear G
  clear eg3
  refine nr ?_; intro U h; simp only [z0, z1] at h; subst h
  refine s_box 4 rfl rfl 49 _ rfl _ rfl #[.func (.func 22) #[.agg (mxA R)] #[]] rfl ?_
  intro w2 g4 G eg4 kg4
  have bg4 := size_base GG eg4
  have dg3g4 := lt_new kg3 eg4
  replace kg3 := G.has kg3
  replace GG := GG.trans G
  clear G
  clear eg4
  refine nr ?_; intro U h; simp only [z0, z1] at h; subst h
  refine s_val 6 rfl rfl (.slice none 0 0) (rfl) ?_
  refine nr ?_; intro U h; simp only [z0, z1] at h; subst h
  refine wpList_nil ?_
  refine then_n ?_
  refine wp_seq ?_
  refine wp_seq ?_
  cases u : (l.getD a zW).up
  · refine wp_region_lit ?_
    refine s_val 12 rfl rfl (.slice ao l.length cap) (ldO22 (.slice ao l.length cap) _ rfl g3 rfl (kg3)) ?_
    refine nr ?_; intro U h; simp only [z0, z1] at h; subst h
    refine s_val 13 rfl rfl (.int .i64 ((a : Nat) : Int)) (rfl) ?_
    refine nr ?_; intro U h; simp only [z0, z1] at h; subst h
    refine s_callv 14 rfl rfl _ 54 Tryz.call54 rfl rfl _ rfl [.slice ao l.length cap, .int .i64 ((a : Nat) : Int)] rfl (Calls.bool (runs_any ao cap l a _ (HL.gro GG) ha) u) ?_
    intro w3 G
    replace kg3 := G.has kg3
    replace kg4 := G.has kg4
    replace GG := GG.trans G
    clear G
    refine nr ?_; intro U h; simp only [z0, z1] at h; subst h
    refine s_val 15 rfl rfl (.bool true) (run_nt _ _ rfl false rfl) ?_
    refine nr ?_; intro U h; simp only [z0, z1] at h; subst h
    refine wpList_nil ?_
    refine then_n ?_
    refine wp_cond_true rfl ?_
    refine wp_seq ?_
    refine wp_region_lit ?_
    refine s_val 6 rfl rfl (.slice none 0 0) (rfl) ?_
    refine nr ?_; intro U h; simp only [z0, z1] at h; subst h
    refine wpList_nil ?_
    refine then_n ?_
    refine wp_ret ?_
    refine then_r ?_
    refine bodyPost_ret (results_tmp Tryz.results26 _ _ _) rfl ?_
    rw [rch_no l.length (upF l) R (fun h => by have := h.2; unfold upF at this; rw [u] at this; cases this)]
    exact ⟨none, 0, rfl, GG, RK.nil _⟩
  · refine wp_region_lit ?_
    refine s_val 12 rfl rfl (.slice ao l.length cap) (ldO22 (.slice ao l.length cap) _ rfl g3 rfl (kg3)) ?_
    refine nr ?_; intro U h; simp only [z0, z1] at h; subst h
    refine s_val 13 rfl rfl (.int .i64 ((a : Nat) : Int)) (rfl) ?_
    refine nr ?_; intro U h; simp only [z0, z1] at h; subst h
    refine s_callv 14 rfl rfl _ 54 Tryz.call54 rfl rfl _ rfl [.slice ao l.length cap, .int .i64 ((a : Nat) : Int)] rfl (Calls.bool (runs_any ao cap l a _ (HL.gro GG) ha) u) ?_
    intro w3 G
    replace kg3 := G.has kg3
    replace kg4 := G.has kg4
    replace GG := GG.trans G
    clear G
    refine nr ?_; intro U h; simp only [z0, z1] at h; subst h
    refine s_val 15 rfl rfl (.bool false) (run_nt _ _ rfl true rfl) ?_
    refine nr ?_; intro U h; simp only [z0, z1] at h; subst h
    refine wpList_nil ?_
    refine then_n ?_
    refine wp_cond_false rfl ?_
    refine wp_skip ?_
    refine then_n ?_
    refine wp_seq ?_
    refine wp_region_lit ?_
    refine s_val 16 rfl rfl (.slice ao l.length cap) (ldO22 (.slice ao l.length cap) _ rfl g3 rfl (kg3)) ?_
    refine nr ?_; intro U h; simp only [z0, z1] at h; subst h
    refine s_val 17 rfl rfl (.int .i64 ((l.length : Nat) : Int)) (run_len Tryz.underlying22 _ rfl _ _ _ rfl _) ?_
    refine nr ?_; intro U h; simp only [z0, z1] at h; subst h
    refine s_mkK (K := kB) rkB rfl 18 rfl rfl _ _ rfl l.length rfl rfl (by omega) (by decide) ?_
    intro w4 gM G egM kgM
    replace kgM : w4.heap[gM]? = some (.cells (mtA l.length (fun _ => false)) 4 (0, 0)) := by rw [← mtA_0]; exact kgM
    have bgM := size_base GG egM
    have dg3gM := lt_new kg3 egM
    have dg4gM := lt_new kg4 egM
    replace kg3 := G.has kg3
    replace kg4 := G.has kg4
    replace GG := GG.trans G
    clear G
    clear egM
    refine nr ?_; intro U h; simp only [z0, z1] at h; subst h
    refine s_alloc 7 rfl rfl 118 rfl _ zO118 #[.slice none 0 0] rfl ?_
    intro w5 g7 G eg7 kg7
    have bg7 := size_base GG eg7
    have dg3g7 := lt_new kg3 eg7
    have dg4g7 := lt_new kg4 eg7
    have dgMg7 := lt_new kgM eg7
    replace kg3 := G.has kg3
    replace kg4 := G.has kg4
    replace kgM := G.has kgM
    replace GG := GG.trans G
    clear G
    clear eg7
    refine nr ?_; intro U h; simp only [z0, z1] at h; subst h
    refine s_store rfl rfl 118 _ _ rfl g7 0 rfl (.slice (some ⟨gM, 0, none⟩) l.length l.length) rfl 118 _ kg7 #[.slice (some ⟨gM, 0, none⟩) l.length l.length] rfl si1_118 (Nat.le_refl 1) (sl_one _ _ _) #[.slice (some ⟨gM, 0, none⟩) l.length l.length] (splice_whole _ _ rfl) ?_
    intro w6 St
    replace kg3 := St.has (by omega) kg3
    replace kg4 := St.has (by omega) kg4
    replace kgM := St.has (by omega) kgM
    replace GG := GG.store St bg7
    replace kg7 := St.new
    clear St
    refine wpList_nil ?_
    refine then_n ?_
    refine wp_seq ?_
    refine wp_region_lit ?_
    refine s_val 19 rfl rfl (.slice (some ⟨gM, 0, none⟩) l.length l.length) (ldO118 (.slice (some ⟨gM, 0, none⟩) l.length l.length) _ rfl g7 rfl (kg7)) ?_
    refine nr ?_; intro U h; simp only [z0, z1] at h; subst h
    refine s_val 20 rfl rfl (.int .i64 ((a : Nat) : Int)) (rfl) ?_
    refine nr ?_; intro U h; simp only [z0, z1] at h; subst h
    refine s_val 21 rfl rfl (.pointer (some ⟨gM, a, none⟩)) (run_ixM _ _ rfl gM l.length a rfl rfl ha _) ?_
    refine nr ?_; intro U h; simp only [z0, z1] at h; subst h
    refine s_store rfl rfl 4 _ _ rfl gM a rfl (.bool true) rfl 4 _ kgM #[.bool true] rfl si4 (by rw [mtA_size]; show _ + 1 ≤ _; have := ha; omega) (b_one _) (mtA l.length (updB (fun _ => false) a)) (mtA_set (fun _ => false) ha) ?_
    intro w7 St
    replace kg3 := St.has (by omega) kg3
    replace kg4 := St.has (by omega) kg4
    replace kg7 := St.has (by omega) kg7
    replace GG := GG.store St bgM
    replace kgM := St.new
    clear St
    refine wpList_nil ?_
    refine then_n ?_
    refine wp_seq ?_
    refine wp_seq ?_
    refine wp_region_lit ?_
    refine s_val 22 rfl rfl (.int .i64 ((a : Nat) : Int)) (rfl) ?_
    refine nr ?_; intro U h; simp only [z0, z1] at h; subst h
    refine s_bsl 23 rfl rfl 53 1 _ rfl [(0, .int .i64 ((a : Nat) : Int))] rfl ([a].flatMap kZ.E).toArray 3 (bs_kZ a _) ?_
    intro w8 qq G eqq kqq
    have bqq := size_base GG eqq
    replace kg3 := G.has kg3
    replace kg4 := G.has kg4
    replace kgM := G.has kgM
    replace kg7 := G.has kg7
    replace GG := GG.trans G
    clear G
    have HQq : OW kZ 3 w8 w.heap.size (some ⟨qq, 0, none⟩) 1 [a] := OW.blk kqq (one_all (show kZ.ok _ from trivial)) bqq (by simp)
    clear eqq kqq
    refine nr ?_; intro U h; simp only [z0, z1] at h; subst h
    refine s_alloc 8 rfl rfl 53 rfl _ zO53 #[.slice none 0 0] rfl ?_
    intro w9 g5 G eg5 kg5
    have bg5 := size_base GG eg5
    have dg3g5 := lt_new kg3 eg5
    have dg4g5 := lt_new kg4 eg5
    have dgMg5 := lt_new kgM eg5
    have dg7g5 := lt_new kg7 eg5
    have dHQqg5 := HQq.ne eg5
    replace kg3 := G.has kg3
    replace kg4 := G.has kg4
    replace kgM := G.has kgM
    replace kg7 := G.has kg7
    replace HQq := HQq.gro G
    replace GG := GG.trans G
    clear G
    clear eg5
    refine nr ?_; intro U h; simp only [z0, z1] at h; subst h
    refine s_store rfl rfl 53 _ _ rfl g5 0 rfl (.slice (some ⟨qq, 0, none⟩) 1 1) rfl 53 _ kg5 #[.slice (some ⟨qq, 0, none⟩) 1 1] rfl si1_53 (Nat.le_refl 1) (sl_one _ _ _) #[.slice (some ⟨qq, 0, none⟩) 1 1] (splice_whole _ _ rfl) ?_
    intro w10 St
    replace kg3 := St.has (by omega) kg3
    replace kg4 := St.has (by omega) kg4
    replace kgM := St.has (by omega) kgM
    replace kg7 := St.has (by omega) kg7
    replace HQq := HQq.st St dHQqg5
    replace GG := GG.store St bg5
    replace kg5 := St.new
    clear St
    refine wpList_nil ?_
    refine then_n ?_
    refine wp_block ?_
    rw [updB_one] at kgM
    refine wp_loopN (fun mz az wv => ∃ (g8 : Nat) (M : Nat → Bool) (Q : List Nat) (aq : Option Addr) (cq : Nat) (us1 : Nat → Value), mz = unm l.length M + Q.length ∧ az = ⟨[.slice ao l.length cap, .func (.func 22) #[.agg (mxA R)] #[], .int .i64 ((a : Nat) : Int), .pointer (some ⟨g3, 0, none⟩), .pointer (some ⟨g4, 0, none⟩), undef, .slice none 0 0, .pointer (some ⟨g7, 0, none⟩), .pointer (some ⟨g8, 0, none⟩), us1 0, undef, us1 1, .slice ao l.length cap, .int .i64 ((a : Nat) : Int), .bool true, .bool false, .slice ao l.length cap, .int .i64 ((l.length : Nat) : Int), .slice (some ⟨gM, 0, none⟩) l.length l.length, .slice (some ⟨gM, 0, none⟩) l.length l.length, .int .i64 ((a : Nat) : Int), .pointer (some ⟨gM, a, none⟩), .int .i64 ((a : Nat) : Int), .slice (some ⟨qq, 0, none⟩) 1 1, us1 2, us1 3, us1 4, us1 5, us1 6, us1 7, us1 8, us1 9, us1 10, us1 11, us1 12, us1 13, us1 14, us1 15, us1 16, us1 17, us1 18, us1 19, us1 20, us1 21, us1 22, us1 23, undef, undef, undef].toArray, []⟩ ∧ Gro w wv ∧ wv.heap[g3]? = some (.cells #[.slice ao l.length cap] 22 (0, 0)) ∧ wv.heap[g4]? = some (.cells #[.func (.func 22) #[.agg (mxA R)] #[]] 49 (0, 0)) ∧ wv.heap[g7]? = some (.cells #[.slice (some ⟨gM, 0, none⟩) l.length l.length] 118 (0, 0)) ∧ wv.heap[gM]? = some (.cells (mtA l.length M) 4 (0, 0)) ∧ wv.heap[g8]? = some (.cells #[.slice aq Q.length cq] 53 (0, 0)) ∧ w.heap.size ≤ g8 ∧ g3 < g8 ∧ g4 < g8 ∧ g7 < g8 ∧ gM < g8 ∧ OW kZ 3 wv w.heap.size aq cq Q ∧ Met l.length (upF l) R a M Q ∧ unm l.length M + Q.length ≤ l.length + 1) ?_ _ ⟨g5, fun b => b == a, [a], (some ⟨qq, 0, none⟩), 1, (fun kz => ([undef, undef, undef, undef, undef, undef, undef, undef, undef, undef, undef, undef, undef, undef, undef, undef, undef, undef, undef, undef, undef, undef, undef, undef] : List Value).getD kz undef), rfl, rfl, GG, kg3, kg4, kg7, kgM, kg5, bg5, dg3g5, dg4g5, dg7g5, dgMg5, HQq, Met.first _ _ _ ha u, by unfold unm; have := filt_len (fun b => !(b == a)) l.length; simp only [List.length_singleton]; omega⟩
    clear GG kg3 kg4 kgM kg7 HQq
    rintro mz az wv ⟨g8, M, Q, aq, cq, us1, rfl, rfl, GG, kg3, kg4, kg7, kgM, kg8, bg8, e3, e4, e7, eM, HQ, HM, hm⟩
    refine wp_seq ?_
    refine wp_seq ?_
    cases hq1 : decide ((0 : Int) < ((Q.length : Nat) : Int))
    · have hQ0 : Q = [] := List.eq_nil_of_length_eq_zero (by have := of_decide_eq_false hq1; omega)
      refine wp_region_lit ?_
      refine s_val 24 rfl rfl (.slice aq Q.length cq) (ldO53 (.slice aq Q.length cq) _ rfl g8 rfl (kg8)) ?_
      refine nr ?_; intro U h; simp only [z0, z1] at h; subst h
      refine s_val 25 rfl rfl (.int .i64 ((Q.length : Nat) : Int)) (run_len Tryz.underlying53 _ rfl _ _ _ rfl _) ?_
      refine nr ?_; intro U h; simp only [z0, z1] at h; subst h
      refine s_val 26 rfl rfl (.bool false) (run_gtrT 3 _ _ _ rfl ((Q.length : Nat) : Int) 0 rfl rfl false hq1 _) ?_
      refine nr ?_; intro U h; simp only [z0, z1] at h; subst h
      refine wpList_nil ?_
      refine then_n ?_
      refine wp_cond_false rfl ?_
      refine wp_exit ?_
      refine then_x ?_
      refine then_x ?_
      refine blk_x ?_
      refine then_n ?_
      refine wp_seq ?_
      have HM0 : Met l.length (upF l) R a M [] := hQ0 ▸ HM
      refine wp_region_lit ?_
      refine s_val 46 rfl rfl (.slice ao l.length cap) (ldO22 (.slice ao l.length cap) _ rfl g3 rfl (kg3)) ?_
      refine nr ?_; intro U h; simp only [z0, z1] at h; subst h
      refine s_val 47 rfl rfl (.func (.func 66) #[] #[.pointer (some ⟨g7, 0, none⟩)]) (run_mkF 66 _ rfl _ rfl) ?_
      refine nr ?_; intro U h; simp only [z0, z1] at h; subst h
      refine s_callx 48 rfl rfl _ 64 Tryz.call64 rfl rfl _ rfl [.slice ao l.length cap, .func (.func 66) #[] #[.pointer (some ⟨g7, 0, none⟩)]] rfl (RowO.to (Met.done _ _ _ ha u HM0) (places_any ao cap l 66 #[.pointer (some ⟨g7, 0, none⟩)] M _ (HL.gro GG) hll Tryz.call66 (fun b hb w2 h2 => clo2_any l b g7 gM M w2 hb (h2.has kg7) (h2.has kgM)))) (by rintro _ _ ⟨_, _, he, _, _⟩; exact ⟨_, he⟩) ?_
      rintro v w11 ⟨an, cn, he, G, HN⟩
      cases he
      replace kg3 := G.has kg3
      replace kg4 := G.has kg4
      replace kg7 := G.has kg7
      replace kgM := G.has kgM
      replace kg8 := G.has kg8
      replace HQ := HQ.gro G
      replace GG := GG.trans G
      clear G
      refine nr ?_; intro U h; simp only [z0, z1] at h; subst h
      refine s_val 6 rfl rfl (.slice an (rch l.length (upF l) R a).length cn) (rfl) ?_
      refine nr ?_; intro U h; simp only [z0, z1] at h; subst h
      refine wpList_nil ?_
      refine then_n ?_
      refine wp_ret ?_
      refine bodyPost_ret (results_tmp Tryz.results26 _ _ _) rfl ?_
      exact ⟨_, _, rfl, GG, HN.re⟩
    · have hq1p : 0 < Q.length := by have := of_decide_eq_true hq1; omega
      refine wp_region_lit ?_
      refine s_val 24 rfl rfl (.slice aq Q.length cq) (ldO53 (.slice aq Q.length cq) _ rfl g8 rfl (kg8)) ?_
      refine nr ?_; intro U h; simp only [z0, z1] at h; subst h
      refine s_val 25 rfl rfl (.int .i64 ((Q.length : Nat) : Int)) (run_len Tryz.underlying53 _ rfl _ _ _ rfl _) ?_
      refine nr ?_; intro U h; simp only [z0, z1] at h; subst h
      refine s_val 26 rfl rfl (.bool true) (run_gtrT 3 _ _ _ rfl ((Q.length : Nat) : Int) 0 rfl rfl true hq1 _) ?_
      refine nr ?_; intro U h; simp only [z0, z1] at h; subst h
      refine wpList_nil ?_
      refine then_n ?_
      refine wp_cond_true rfl ?_
      refine wp_skip ?_
      refine then_n ?_
      refine wp_seq ?_
      refine wp_block ?_
      refine wp_seq ?_
      obtain ⟨NX, hNX⟩ : ∃ NX, nxt l.length (upF l) R M (Q.getD 0 0) = NX := ⟨_, rfl⟩
      have HMq : Met l.length (upF l) R a M (Q.getD 0 0 :: Q.drop 1) := by rw [← head_cons hq1p]; exact HM
      have hun := unm_also l.length (upF l) R M (Q.getD 0 0)
      rw [hNX] at hun
      have hq6 : Q.getD 0 0 < 6 := by have := (HMq.run (Q.getD 0 0) (HMq.sub (Q.getD 0 0) List.mem_cons_self)).1; omega
      refine wp_region_lit ?_
      refine s_val 29 rfl rfl (.slice ao l.length cap) (ldO22 (.slice ao l.length cap) _ rfl g3 rfl (kg3)) ?_
      refine nr ?_; intro U h; simp only [z0, z1] at h; subst h
      refine s_val 30 rfl rfl (.func (.func 65) #[] #[.pointer (some ⟨g7, 0, none⟩), .pointer (some ⟨g3, 0, none⟩), .pointer (some ⟨g4, 0, none⟩), .pointer (some ⟨g8, 0, none⟩)]) (run_mkF4 65 _ _ _ _ rfl _ _ _ _ rfl rfl rfl rfl) ?_
      refine nr ?_; intro U h; simp only [z0, z1] at h; subst h
      refine s_callx 31 rfl rfl _ 64 Tryz.call64 rfl rfl _ rfl [.slice ao l.length cap, .func (.func 65) #[] #[.pointer (some ⟨g7, 0, none⟩), .pointer (some ⟨g3, 0, none⟩), .pointer (some ⟨g4, 0, none⟩), .pointer (some ⟨g8, 0, none⟩)]] rfl (RowO.to hNX (places_any ao cap l 65 #[.pointer (some ⟨g7, 0, none⟩), .pointer (some ⟨g3, 0, none⟩), .pointer (some ⟨g4, 0, none⟩), .pointer (some ⟨g8, 0, none⟩)] (fun b => (!M b && upF l b) && R (Q.getD 0 0) b) _ (HL.gro GG) hll Tryz.call65 (fun b hb w2 h2 => clo1_any ao cap l b g7 g3 g4 g8 gM M R aq cq Q w2 ((HL.gro GG).gro h2) hll hb (HQ.re.gro h2) hq1p hq6 (h2.has kg7) (h2.has kgM) (h2.has kg3) (h2.has kg4) (h2.has kg8)))) (by rintro _ _ ⟨_, _, he, _, _⟩; exact ⟨_, he⟩) ?_
      rintro v w11 ⟨an, cn, he, G, HN⟩
      cases he
      replace HN := HN.mono GG.size
      replace kg3 := G.has kg3
      replace kg4 := G.has kg4
      replace kg7 := G.has kg7
      replace kgM := G.has kgM
      replace kg8 := G.has kg8
      replace HQ := HQ.gro G
      replace GG := GG.trans G
      clear G
      refine nr ?_; intro U h; simp only [z0, z1] at h; subst h
      refine s_val 9 rfl rfl (.slice an NX.length cn) (rfl) ?_
      refine nr ?_; intro U h; simp only [z0, z1] at h; subst h
      refine wpList_nil ?_
      refine then_n ?_
      refine wp_seq ?_
      refine wp_seq ?_
      refine wp_region_lit ?_
      refine s_val 32 rfl rfl (.slice an NX.length cn) (rfl) ?_
      refine nr ?_; intro U h; simp only [z0, z1] at h; subst h
      refine s_val 33 rfl rfl (.int .i64 ((NX.length : Nat) : Int)) (run_len Tryz.underlying53 _ rfl _ _ _ rfl _) ?_
      refine nr ?_; intro U h; simp only [z0, z1] at h; subst h
      refine s_val 34 rfl rfl (.int .i64 0) (rfl) ?_
      refine nr ?_; intro U h; simp only [z0, z1] at h; subst h
      refine wpList_nil ?_
      refine then_n ?_
      refine wp_block ?_
      refine wp_loopN (fun mz az wv => ∃ (j : Nat) (us2 : Nat → Value), mz = NX.length - j ∧ az = ⟨[.slice ao l.length cap, .func (.func 22) #[.agg (mxA R)] #[], .int .i64 ((a : Nat) : Int), .pointer (some ⟨g3, 0, none⟩), .pointer (some ⟨g4, 0, none⟩), undef, .slice none 0 0, .pointer (some ⟨g7, 0, none⟩), .pointer (some ⟨g8, 0, none⟩), .slice an NX.length cn, undef, us2 0, .slice ao l.length cap, .int .i64 ((a : Nat) : Int), .bool true, .bool false, .slice ao l.length cap, .int .i64 ((l.length : Nat) : Int), .slice (some ⟨gM, 0, none⟩) l.length l.length, .slice (some ⟨gM, 0, none⟩) l.length l.length, .int .i64 ((a : Nat) : Int), .pointer (some ⟨gM, a, none⟩), .int .i64 ((a : Nat) : Int), .slice (some ⟨qq, 0, none⟩) 1 1, .slice aq Q.length cq, .int .i64 ((Q.length : Nat) : Int), .bool true, us1 5, us1 6, .slice ao l.length cap, .func (.func 65) #[] #[.pointer (some ⟨g7, 0, none⟩), .pointer (some ⟨g3, 0, none⟩), .pointer (some ⟨g4, 0, none⟩), .pointer (some ⟨g8, 0, none⟩)], .slice an NX.length cn, .slice an NX.length cn, .int .i64 ((NX.length : Nat) : Int), .int .i64 ((j : Nat) : Int), us2 1, us2 2, us2 3, us2 4, us2 5, us2 6, us2 7, us1 20, us1 21, us1 22, us1 23, undef, undef, undef].toArray, []⟩ ∧ Gro w wv ∧ wv.heap[g3]? = some (.cells #[.slice ao l.length cap] 22 (0, 0)) ∧ wv.heap[g4]? = some (.cells #[.func (.func 22) #[.agg (mxA R)] #[]] 49 (0, 0)) ∧ wv.heap[g7]? = some (.cells #[.slice (some ⟨gM, 0, none⟩) l.length l.length] 118 (0, 0)) ∧ wv.heap[gM]? = some (.cells (mtA l.length (also M (NX.take j))) 4 (0, 0)) ∧ wv.heap[g8]? = some (.cells #[.slice aq Q.length cq] 53 (0, 0)) ∧ OW kZ 3 wv w.heap.size aq cq Q ∧ OW kZ 3 wv w.heap.size an cn NX ∧ j ≤ NX.length) ?_ _ ⟨0, (fun kz => ([us1 1, us1 13, us1 14, us1 15, us1 16, us1 17, us1 18, us1 19] : List Value).getD kz undef), rfl, rfl, GG, kg3, kg4, kg7, by rw [List.take_zero, also_nil]; exact kgM, kg8, HQ, HN, Nat.zero_le _⟩
      clear GG kg3 kg4 kg7 kgM kg8 HQ HN
      rintro mz az wv ⟨j, us2, rfl, rfl, GG, kg3, kg4, kg7, kgM, kg8, HQ, HN, hj⟩
      refine wp_seq ?_
      cases hj1 : decide (((j : Nat) : Int) < ((NX.length : Nat) : Int))
      · have hj1e : j = NX.length := by have := of_decide_eq_false hj1; omega
        refine wp_region_lit ?_
        refine s_val 35 rfl rfl (.bool false) (run_lssT 3 _ _ _ rfl ((j : Nat) : Int) ((NX.length : Nat) : Int) rfl rfl false hj1 _) ?_
        refine nr ?_; intro U h; simp only [z0, z1] at h; subst h
        refine wpList_nil ?_
        refine then_n ?_
        refine wp_seq ?_
        refine wp_cond_false rfl ?_
        refine wp_exit ?_
        refine then_x ?_
        refine then_x ?_
        refine blk_x ?_
        refine then_n ?_
        rw [hj1e, List.take_length] at kgM
        refine wp_region_lit ?_
        refine s_val 42 rfl rfl (.slice aq Q.length cq) (ldO53 (.slice aq Q.length cq) _ rfl g8 rfl (kg8)) ?_
        refine nr ?_; intro U h; simp only [z0, z1] at h; subst h
        refine s_val 43 rfl rfl (.slice an NX.length cn) (rfl) ?_
        refine nr ?_; intro U h; simp only [z0, z1] at h; subst h
        refine s_appK rkZ (by decide) 44 rfl rfl _ _ rfl rfl HQ (l' := NX) rfl HN.re (by omega) GG.size ?_
        intro aq3 cq3 w12 HZ2 G2 KP2
        replace kg3 := G2.has kg3 (HQ.own.ne kg3 (by decide))
        replace kg4 := G2.has kg4 (HQ.own.ne kg4 (by decide))
        replace kg7 := G2.has kg7 (HQ.own.ne kg7 (by decide))
        replace kgM := G2.has kgM (HQ.own.ne kgM (by decide))
        replace kg8 := G2.has kg8 (HQ.own.ne kg8 (by decide))
        clear HN
        replace GG := G2.gro GG HQ.own.base
        clear G2 KP2 HQ
        have HQ := HZ2
        clear HZ2
        refine nr ?_; intro U h; simp only [z0, z1] at h; subst h
        refine s_store rfl rfl 53 _ _ rfl g8 0 rfl (.slice aq3 (Q ++ NX).length cq3) rfl 53 _ kg8 #[.slice aq3 (Q ++ NX).length cq3] rfl si1_53 (Nat.le_refl 1) (sl_one _ _ _) #[.slice aq3 (Q ++ NX).length cq3] (splice_whole _ _ rfl) ?_
        have dHQg8 := HQ.own.ne kg8 (by decide)
        intro w13 St
        replace kg3 := St.has (by omega) kg3
        replace kg4 := St.has (by omega) kg4
        replace kg7 := St.has (by omega) kg7
        replace kgM := St.has (by omega) kgM
        replace HQ := HQ.st St dHQg8
        replace GG := GG.store St bg8
        replace kg8 := St.new
        clear St
        clear dHQg8
        refine wpList_nil ?_
        refine blk_n ?_
        refine then_n ?_
        refine wp_seq ?_
        refine wp_seq ?_
        refine wp_region_lit ?_
        refine s_val 45 rfl rfl (.slice aq3 (Q ++ NX).length cq3) (ldO53 (.slice aq3 (Q ++ NX).length cq3) _ rfl g8 rfl (kg8)) ?_
        refine nr ?_; intro U h; simp only [z0, z1] at h; subst h
        refine wpList_nil ?_
        refine then_n ?_
        refine wp_region_lit ?_
        refine s_alloc 8 rfl rfl 53 rfl _ zO53 #[.slice none 0 0] rfl ?_
        intro w14 g9 G eg9 kg9
        have bg9 := size_base GG eg9
        have dg3g9 := lt_new kg3 eg9
        have dg4g9 := lt_new kg4 eg9
        have dg7g9 := lt_new kg7 eg9
        have dgMg9 := lt_new kgM eg9
        have dg8g9 := lt_new kg8 eg9
        have dHQg9 := HQ.ne eg9
        replace kg3 := G.has kg3
        replace kg4 := G.has kg4
        replace kg7 := G.has kg7
        replace kgM := G.has kgM
        replace kg8 := G.has kg8
        replace HQ := HQ.gro G
        replace GG := GG.trans G
        clear G
        clear eg9
        refine nr ?_; intro U h; simp only [z0, z1] at h; subst h
        refine s_store rfl rfl 53 _ _ rfl g9 0 rfl (.slice aq3 (Q ++ NX).length cq3) rfl 53 _ kg9 #[.slice aq3 (Q ++ NX).length cq3] rfl si1_53 (Nat.le_refl 1) (sl_one _ _ _) #[.slice aq3 (Q ++ NX).length cq3] (splice_whole _ _ rfl) ?_
        intro w15 St
        replace kg3 := St.has (by omega) kg3
        replace kg4 := St.has (by omega) kg4
        replace kg7 := St.has (by omega) kg7
        replace kgM := St.has (by omega) kgM
        replace kg8 := St.has (by omega) kg8
        replace HQ := HQ.st St dHQg9
        replace GG := GG.store St bg9
        replace kg9 := St.new
        clear St
        refine wpList_nil ?_
        refine then_n ?_
        refine wp_region_lit ?_
        refine s_val 27 rfl rfl (.slice aq3 (Q ++ NX).length cq3) (ldO53 (.slice aq3 (Q ++ NX).length cq3) _ rfl g9 rfl (kg9)) ?_
        refine nr ?_; intro U h; simp only [z0, z1] at h; subst h
        have hqz : 0 < (Q ++ NX).length := by rw [List.length_append]; omega
        refine s_val 28 rfl rfl (.slice (dpA aq3 cq3) ((Q ++ NX).drop 1).length (cq3 - 1)) (run_dropZ _ _ rfl aq3 cq3 (Q ++ NX) rfl rfl hqz _) ?_
        refine nr ?_; intro U h; simp only [z0, z1] at h; subst h
        replace HQ := HQ.tl hqz
        refine s_store rfl rfl 53 _ _ rfl g9 0 rfl (.slice (dpA aq3 cq3) ((Q ++ NX).drop 1).length (cq3 - 1)) rfl 53 _ kg9 #[.slice (dpA aq3 cq3) ((Q ++ NX).drop 1).length (cq3 - 1)] rfl si1_53 (Nat.le_refl 1) (sl_one _ _ _) #[.slice (dpA aq3 cq3) ((Q ++ NX).drop 1).length (cq3 - 1)] (splice_whole _ _ rfl) ?_
        have dHQg9 := HQ.own.ne kg9 (by decide)
        intro w16 St
        replace kg3 := St.has (by omega) kg3
        replace kg4 := St.has (by omega) kg4
        replace kg7 := St.has (by omega) kg7
        replace kgM := St.has (by omega) kgM
        replace kg8 := St.has (by omega) kg8
        replace HQ := HQ.st St dHQg9
        replace GG := GG.store St bg9
        replace kg9 := St.new
        clear St
        clear dHQg9
        refine wpList_nil ?_
        refine then_n ?_
        exact ⟨_, by simp only [List.length_drop, List.length_append]; omega, g9, also M NX, (Q ++ NX).drop 1, (dpA aq3 cq3), (cq3 - 1), (fun kz => ([.slice an NX.length cn, us2 0, .slice aq Q.length cq, .int .i64 ((Q.length : Nat) : Int), .bool true, .slice aq3 (Q ++ NX).length cq3, .slice (dpA aq3 cq3) ((Q ++ NX).drop 1).length (cq3 - 1), .slice ao l.length cap, .func (.func 65) #[] #[.pointer (some ⟨g7, 0, none⟩), .pointer (some ⟨g3, 0, none⟩), .pointer (some ⟨g4, 0, none⟩), .pointer (some ⟨g8, 0, none⟩)], .slice an NX.length cn, .slice an NX.length cn, .int .i64 ((NX.length : Nat) : Int), .int .i64 ((j : Nat) : Int), .bool false, us2 2, us2 3, us2 4, us2 5, us2 6, us2 7, .slice aq Q.length cq, .slice an NX.length cn, .slice aq3 (Q ++ NX).length cq3, .slice aq3 (Q ++ NX).length cq3] : List Value).getD kz undef), rfl, rfl, GG, kg3, kg4, kg7, kgM, kg9, bg9, dg3g9, dg4g9, dg7g9, dgMg9, HQ, by rw [drop_app hq1p, ← hNX]; exact HMq.step, by simp only [List.length_drop, List.length_append]; omega⟩
      · have hj1l : j < NX.length := by have := of_decide_eq_true hj1; omega
        refine wp_region_lit ?_
        refine s_val 35 rfl rfl (.bool true) (run_lssT 3 _ _ _ rfl ((j : Nat) : Int) ((NX.length : Nat) : Int) rfl rfl true hj1 _) ?_
        refine nr ?_; intro U h; simp only [z0, z1] at h; subst h
        refine wpList_nil ?_
        refine then_n ?_
        refine wp_seq ?_
        refine wp_cond_true rfl ?_
        refine wp_skip ?_
        refine then_n ?_
        refine wp_seq ?_
        refine wp_block ?_
        refine wp_seq ?_
        have hxl := nxt_lt hNX hj1l
        refine wp_region_lit ?_
        refine s_val 36 rfl rfl (.pointer (pK kZ an j 0)) (run_ixK rkZ (HN.re) _ _ rfl rfl j rfl hj1l) ?_
        refine nr ?_; intro U h; simp only [z0, z1] at h; subst h
        refine s_val 37 rfl rfl (.int .i64 (((NX.getD j 0) : Nat) : Int)) (run_ld_kZ (HN.re) _ rfl j rfl hj1l) ?_
        refine nr ?_; intro U h; simp only [z0, z1] at h; subst h
        refine s_val 11 rfl rfl (.int .i64 (((NX.getD j 0) : Nat) : Int)) (rfl) ?_
        refine nr ?_; intro U h; simp only [z0, z1] at h; subst h
        refine wpList_nil ?_
        refine then_n ?_
        refine wp_region_lit ?_
        refine s_val 38 rfl rfl (.slice (some ⟨gM, 0, none⟩) l.length l.length) (ldO118 (.slice (some ⟨gM, 0, none⟩) l.length l.length) _ rfl g7 rfl (kg7)) ?_
        refine nr ?_; intro U h; simp only [z0, z1] at h; subst h
        refine s_val 39 rfl rfl (.int .i64 (((NX.getD j 0) : Nat) : Int)) (rfl) ?_
        refine nr ?_; intro U h; simp only [z0, z1] at h; subst h
        refine s_val 40 rfl rfl (.pointer (some ⟨gM, (NX.getD j 0), none⟩)) (run_ixM _ _ rfl gM l.length (NX.getD j 0) rfl rfl hxl _) ?_
        refine nr ?_; intro U h; simp only [z0, z1] at h; subst h
        refine s_store rfl rfl 4 _ _ rfl gM (NX.getD j 0) rfl (.bool true) rfl 4 _ kgM #[.bool true] rfl si4 (by rw [mtA_size]; show _ + 1 ≤ _; have := hxl; omega) (b_one _) (mtA l.length (updB (also M (NX.take j)) (NX.getD j 0))) (mtA_set (also M (NX.take j)) hxl) ?_
        have dHQgM := HQ.own.ne kgM (by decide)
        have dHNgM := HN.own.ne kgM (by decide)
        intro w12 St
        replace kg3 := St.has (by omega) kg3
        replace kg4 := St.has (by omega) kg4
        replace kg7 := St.has (by omega) kg7
        replace kg8 := St.has (by omega) kg8
        replace HQ := HQ.st St dHQgM
        replace HN := HN.st St dHNgM
        replace GG := GG.store St bgM
        replace kgM := St.new
        clear St
        clear dHQgM
        clear dHNgM
        refine wpList_nil ?_
        refine blk_n ?_
        refine then_n ?_
        refine wp_region_lit ?_
        refine s_val 41 rfl rfl (.int .i64 ((j + 1 : Nat) : Int)) (run_addI 3 _ _ _ rfl ((j : Nat) : Int) 1 ((j + 1 : Nat) : Int) rfl rfl (by omega) (by omega) (by omega) _) ?_
        refine nr ?_; intro U h; simp only [z0, z1] at h; subst h
        refine s_val 34 rfl rfl (.int .i64 ((j + 1 : Nat) : Int)) (rfl) ?_
        refine nr ?_; intro U h; simp only [z0, z1] at h; subst h
        refine wpList_nil ?_
        refine then_n ?_
        exact ⟨_, by omega, j + 1, (fun kz => ([.int .i64 (((NX.getD j 0) : Nat) : Int), .bool true, .pointer (pK kZ an j 0), .int .i64 (((NX.getD j 0) : Nat) : Int), .slice (some ⟨gM, 0, none⟩) l.length l.length, .int .i64 (((NX.getD j 0) : Nat) : Int), .pointer (some ⟨gM, (NX.getD j 0), none⟩), .int .i64 ((j + 1 : Nat) : Int)] : List Value).getD kz undef), rfl, rfl, GG, kg3, kg4, kg7, by rw [updB_also _ _ _ hj1l] at kgM; exact kgM, kg8, HQ, HN, by omega⟩
end Go.Proofs.YtmjblbgalkjmiaaGreat
