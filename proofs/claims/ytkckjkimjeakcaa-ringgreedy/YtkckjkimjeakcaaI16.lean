/- The law that whoever isn't the nearest one wants one who is nearer. -/
import Derived.Test.YtkckjkimjeakcaaI15
import Derived.Test.YtkckjkimjeakcaaW20
namespace Go.Proofs.Ytkckjkimjeakcaa
open Go.RowKit
theorem part_of_get (l : List Nat) (off : Nat) (cs : Array Value) (hs : off + l.length * 16 ≤ cs.size) (h : ∀ j, j < l.length * 16 → cs[off + j]? = some (.int .u8 (byt (l.getD (j / 16) 0) (j % 16) : Int))) :
    ∀ i, i < l.length → off + i * 16 + 16 ≤ cs.size ∧ cs.extract (off + i * 16) (off + i * 16 + 16) = idA (l.getD i 0) := by
  intro i hi
  have hle : off + i * 16 + 16 ≤ cs.size := by omega
  refine ⟨hle, ?_⟩
  apply Array.ext_getElem?
  intro r
  rw [Array.getElem?_extract]
  by_cases hr : r < 16
  · rw [idA_get _ _ hr, if_pos (by omega)]
    have := h (i * 16 + r) (by omega)
    have e1 : (i * 16 + r) / 16 = i := by omega
    have e2 : (i * 16 + r) % 16 = r := by omega
    rw [e1, e2] at this
    rw [show off + i * 16 + r = off + (i * 16 + r) by omega]
    exact this
  · rw [if_neg (by omega), Array.getElem?_eq_none (by rw [idA_size]; omega)]

theorem getD_at {l : List Nat} {j : Nat} (hj : j < l.length) : l.getD j 0 = l[j] := by simp [List.getD_eq_getElem?_getD, hj]
theorem heap_of_cell {w : World} {a : Addr} {v : Value} (h : w.cell? a = some v) : ∃ cs t fr, w.heap[a.block]? = some (.cells cs t fr) := by
  unfold World.cell? at h
  split at h
  · rename_i c t fr hh
    exact ⟨c, t, fr, hh⟩
  · cases h
theorem RC.sl {w : World} {ao : Option Addr} {cap : Nat} {l : List Nat} (h : RC w ao cap l) : SL w (.slice ao l.length cap) l := by
  refine ⟨fun i hi => h.at hi, ?_⟩
  by_cases h0 : l.length = 0
  · have e := List.eq_nil_of_length_eq_zero h0
    exact .inl ⟨e, ao, cap, by rw [h0], h.xc.bare⟩
  · right
    obtain ⟨ad, hao⟩ := h.xc.some (by omega)
    have hc : ∀ j, j < l.length * 16 → w.cell? (ad.add j) = some (.int .u8 (byt (l.getD (j / 16) 0) (j % 16) : Int)) := fun j hj => by
      refine h.xc.cell ad hao j _ ?_
      rw [fl_get l j hj, Array.getElem?_toList]
      exact idA_get _ _ (by omega)
    have h00 := hc 0 (by omega)
    obtain ⟨b, off, spot⟩ := ad
    have hsp : spot = none := by simpa [Addr.add] using World.cell?_spot h00
    subst hsp
    obtain ⟨cs, t, fr, hh⟩ := heap_of_cell h00
    rw [add_at] at hh
    have hcs : ∀ j, j < l.length * 16 → cs[off + j]? = some (.int .u8 (byt (l.getD (j / 16) 0) (j % 16) : Int)) := fun j hj => by
      have h1 := hc j hj
      rw [add_at, cell_of_row w b _ cs t fr hh] at h1
      exact h1
    refine ⟨b, off, cap, cs, t, fr, by rw [hao], hh, part_of_get l off cs ?_ hcs⟩
    have h1 := hcs (l.length * 16 - 1) (by omega)
    have := (Array.getElem?_eq_some_iff.1 h1).1
    omega
/-- A number as a word of 64 bits; what is left of it by three. -/
def u3 (h : Int) : Int := IntKind.u64.wrap h % 3
theorem u3_bd (h : Int) : 0 ≤ u3 h ∧ u3 h < 3 := by unfold u3; omega
theorem u64_bd (h : Int) : 0 ≤ IntKind.u64.wrap h := by
  rw [IntKind.wrap_u64]
  omega
section
variable {o : Oper} {A : Act} {w : World}
theorem run_cvU (x : Operand) (ho : o.op = .convert 3 38 x) (h : Int) (hx : A.eval x = .int .i64 h) : (execOp A.eval o).run Try.prog w = .ok (.value (.int .u64 (IntKind.u64.wrap h))) w := by
  unfold execOp
  simp only [ho, hx]
  simp [convert, run_underlying Try.underlying3, run_underlying Try.underlying38, go_sem]
theorem run_rem3 (x y : Operand) (t2 : TypeId) (ho : o.op = .binOp .rem 38 x y t2) (h : Int) (hx : A.eval x = .int .u64 (IntKind.u64.wrap h)) (hy : A.eval y = .int .u64 3) : (execOp A.eval o).run Try.prog w = .ok (.value (.int .u64 (u3 h))) w := by
  refine run_binop .rem 38 x y t2 ho _ _ _ hx hy (by simp [eqGuard]) ?_
  have h0 := u64_bd h
  have hb := u3_bd h
  have e : (IntKind.u64.wrap h).tmod 3 = u3 h := by
    unfold u3
    rw [Int.tmod_eq_emod_of_nonneg h0]
  simp [go_sem, e]
theorem run_cvI (x : Operand) (ho : o.op = .convert 38 3 x) (h : Int) (hx : A.eval x = .int .u64 (u3 h)) : (execOp A.eval o).run Try.prog w = .ok (.value (.int .i64 (u3 h))) w := by
  have hb := u3_bd h
  have e : IntKind.i64.wrap (u3 h) = u3 h := wrap_in _ (by omega) (by omega)
  unfold execOp
  simp only [ho, hx]
  simp [convert, run_underlying Try.underlying3, run_underlying Try.underlying38, go_sem, e]
end
theorem all_near {s b : Nat} {t : List Nat} (h : ∀ j, j < t.length → nearN s (t.getD j 0) (t.getD b 0) = false) : ∀ z ∈ t, nearN s z (t.getD b 0) = false := fun z hz => by
  obtain ⟨j, hj, rfl⟩ := List.mem_iff_getElem.1 hz
  have := h j hj
  rwa [show t.getD j 0 = t[j] by simp [List.getD_eq_getElem?_getD, hj]] at this
theorem no_more {k : Nat} {p : Nat → Bool} (h : false = true ↔ ∃ j, j < k ∧ p j = true) (hk : p k = false) : false = true ↔ ∃ j, j < k + 1 ∧ p j = true := ⟨fun h => absurd h Bool.false_ne_true, fun ⟨j, hj, hn⟩ => by
  by_cases e : j = k
  · rw [e, hk] at hn; exact hn
  · exact h.2 ⟨j, by omega, hn⟩⟩
set_option maxRecDepth 100000 in
set_option maxHeartbeats 4000000 in
theorem ringGreedy_any (w : World) (ao : Option Addr) (cap : Nat) (l : List Nat) (H : RC w ao cap l) (s : Nat) (hs : s < top) (half : Int) : Calls Try.prog 6 #[.agg (idA s), .slice ao l.length cap, .int .i64 half] w (fun e w' => e = .returned (.bool true) ∧ Gro w w') := by
  refine s_enter Try.func6 rfl Try.ntmps6 [.agg (idA s), .slice ao l.length cap, .int .i64 half] [.agg (idA s), .slice ao l.length cap, .int .i64 half, undef, undef, undef, undef, undef, undef, undef, undef, undef, undef, undef, undef, undef, undef, undef, undef, undef, undef, undef, undef, undef, undef, undef, undef, undef, undef, undef, undef, undef, undef, undef, undef, undef, undef, undef, undef, undef, undef, undef, undef, undef, undef, undef, undef, undef, undef, undef, undef, undef, undef, undef, undef, undef] rfl ?_
  have GG := Gro.refl w
  obtain ⟨t, ht⟩ : ∃ t, l.take 24 = t := ⟨_, rfl⟩
  have HT : RC w ao t.length t := ht ▸ H.takeN 24
  have htl : t.length ≤ 24 := by rw [← ht, List.length_take]; omega
  have hu3 := u3_bd half
  refine wp_seq ?_
  refine wp_region_lit ?_
  refine s_box 3 rfl rfl 23 _ rfl _ rfl (idA s) rfl ?_
  intro w1 g1 G eg1 kg1
  have bg1 := size_base GG eg1
  replace GG := GG.trans G
  clear G
  clear eg1
  refine nr ?_; intro U h; simp only [z0, z1] at h; subst h
  refine s_val 6 rfl rfl (.bool false) (rfl) ?_
  refine nr ?_; intro U h; simp only [z0, z1] at h; subst h
  refine wpList_nil ?_
  refine then_n ?_
  refine wp_seq ?_
  refine wp_region_lit ?_
  refine s_val 13 rfl rfl (.slice ao l.length cap) (rfl) ?_
  refine nr ?_; intro U h; simp only [z0, z1] at h; subst h
  refine s_callv 14 rfl rfl _ 9 Try.call9 rfl rfl _ rfl [.slice ao l.length cap, .int .i64 24] rfl (Calls.valV (cut_any _ ao cap l (H.gro GG) 24) (by rw [ht])) ?_
  intro w2 G
  replace kg1 := G.has kg1
  replace GG := GG.trans G
  clear G
  refine nr ?_; intro U h; simp only [z0, z1] at h; subst h
  refine s_val 1 rfl rfl (.slice ao t.length t.length) (rfl) ?_
  refine nr ?_; intro U h; simp only [z0, z1] at h; subst h
  refine wpList_nil ?_
  refine then_n ?_
  refine wp_seq ?_
  refine wp_region_lit ?_
  refine s_val 15 rfl rfl (.int .i64 half) (rfl) ?_
  refine nr ?_; intro U h; simp only [z0, z1] at h; subst h
  refine s_val 16 rfl rfl (.int .u64 (IntKind.u64.wrap half)) (run_cvU _ rfl half rfl) ?_
  refine nr ?_; intro U h; simp only [z0, z1] at h; subst h
  refine s_val 17 rfl rfl (.int .u64 (u3 half)) (run_rem3 _ _ _ rfl half rfl rfl) ?_
  refine nr ?_; intro U h; simp only [z0, z1] at h; subst h
  refine s_val 18 rfl rfl (.int .i64 (u3 half)) (run_cvI _ rfl half rfl) ?_
  refine nr ?_; intro U h; simp only [z0, z1] at h; subst h
  refine s_val 19 rfl rfl (.int .i64 (1 + u3 half)) (run_addI 3 _ _ _ rfl 1 (u3 half) (1 + u3 half) rfl rfl (by omega) (by omega) (by omega) _) ?_
  refine nr ?_; intro U h; simp only [z0, z1] at h; subst h
  refine s_val 2 rfl rfl (.int .i64 (1 + u3 half)) (rfl) ?_
  refine nr ?_; intro U h; simp only [z0, z1] at h; subst h
  refine wpList_nil ?_
  refine then_n ?_
  refine wp_seq ?_
  refine wp_region_lit ?_
  refine s_val 20 rfl rfl (.agg (idA s)) (run_ldB _ rfl g1 _ rfl (kg1)) ?_
  refine nr ?_; intro U h; simp only [z0, z1] at h; subst h
  refine s_val 21 rfl rfl (.slice ao t.length t.length) (rfl) ?_
  refine nr ?_; intro U h; simp only [z0, z1] at h; subst h
  refine s_callv 22 rfl rfl _ 22 Try.call22 rfl rfl _ rfl [.agg (idA s), .slice ao t.length t.length] rfl (refnearest_sl s hs t (by omega) _ _ ((HT.gro GG).sl)) ?_
  intro w3 G
  replace kg1 := G.has kg1
  replace GG := GG.trans G
  clear G
  refine nr ?_; intro U h; simp only [z0, z1] at h; subst h
  refine s_val 7 rfl rfl (.int .i64 (bestI s t t.length)) (rfl) ?_
  refine nr ?_; intro U h; simp only [z0, z1] at h; subst h
  refine wpList_nil ?_
  refine then_n ?_
  refine wp_seq ?_
  refine wp_seq ?_
  refine wp_region_lit ?_
  refine s_val 23 rfl rfl (.slice ao t.length t.length) (rfl) ?_
  refine nr ?_; intro U h; simp only [z0, z1] at h; subst h
  refine s_val 24 rfl rfl (.int .i64 ((t.length : Nat) : Int)) (run_len Try.underlying24 _ rfl _ _ _ rfl _) ?_
  refine nr ?_; intro U h; simp only [z0, z1] at h; subst h
  refine s_val 25 rfl rfl (.int .i64 0) (rfl) ?_
  refine nr ?_; intro U h; simp only [z0, z1] at h; subst h
  refine wpList_nil ?_
  refine then_n ?_
  refine wp_block ?_
  refine wp_loopN (fun mz az wv => ∃ (i : Nat) (us1 : Nat → Value), mz = t.length - i ∧ az = ⟨[.agg (idA s), .slice ao t.length t.length, .int .i64 (1 + u3 half), .pointer (some ⟨g1, 0, none⟩), undef, undef, us1 0, .int .i64 (bestI s t t.length), undef, us1 1, us1 2, undef, us1 3, .slice ao l.length cap, .slice ao t.length t.length, .int .i64 half, .int .u64 (IntKind.u64.wrap half), .int .u64 (u3 half), .int .i64 (u3 half), .int .i64 (1 + u3 half), .agg (idA s), .slice ao t.length t.length, .int .i64 (bestI s t t.length), .slice ao t.length t.length, .int .i64 ((t.length : Nat) : Int), .int .i64 ((i : Nat) : Int), us1 4, us1 5, us1 6, us1 7, us1 8, us1 9, us1 10, us1 11, us1 12, us1 13, us1 14, us1 15, us1 16, us1 17, us1 18, us1 19, us1 20, us1 21, us1 22, us1 23, us1 24, us1 25, us1 26, us1 27, us1 28, us1 29, us1 30, us1 31, us1 32, undef].toArray, []⟩ ∧ i ≤ t.length ∧ Gro w wv ∧ wv.heap[g1]? = some (.cells (idA s) 23 (0, 0))) ?_ _ ⟨0, (fun kz => ([.bool false, undef, undef, undef, undef, undef, undef, undef, undef, undef, undef, undef, undef, undef, undef, undef, undef, undef, undef, undef, undef, undef, undef, undef, undef, undef, undef, undef, undef, undef, undef, undef, undef] : List Value).getD kz undef), rfl, rfl, Nat.zero_le _, GG, kg1⟩
  clear GG kg1
  rintro mz az wv ⟨i, us1, rfl, rfl, hi, GG, kg1⟩
  refine wp_seq ?_
  refine wp_region_lit ?_
  cases hi1 : decide (((i : Nat) : Int) < ((t.length : Nat) : Int))
  · refine s_val 26 rfl rfl (.bool false) (run_lssT 3 _ _ _ rfl ((i : Nat) : Int) ((t.length : Nat) : Int) rfl rfl false hi1 _) ?_
    refine nr ?_; intro U h; simp only [z0, z1] at h; subst h
    refine wpList_nil ?_
    refine then_n ?_
    refine wp_seq ?_
    refine wp_cond_false rfl ?_
    refine wp_exit ?_
    refine then_x ?_
    refine then_x ?_
    refine blk_x ?_
    refine then_n ?_
    refine wp_seq ?_
    refine wp_region_lit ?_
    refine s_callv 55 rfl rfl _ 13 Try.call13 rfl rfl _ rfl [] rfl (fixed_any _) ?_
    intro w4 G
    replace kg1 := G.has kg1
    replace GG := GG.trans G
    clear G
    refine nr ?_; intro U h; simp only [z0, z1] at h; subst h
    refine s_val 6 rfl rfl (.bool true) (rfl) ?_
    refine nr ?_; intro U h; simp only [z0, z1] at h; subst h
    refine wpList_nil ?_
    refine then_n ?_
    refine wp_ret ?_
    refine bodyPost_ret (results_tmp Try.results6 _ _ _) rfl ?_
    exact ⟨rfl, GG⟩
  · have hil : i < t.length := by have := of_decide_eq_true hi1; omega
    obtain ⟨b, hb, hbl, hbn, _⟩ := best_spec s t t.length (by omega)
    refine s_val 26 rfl rfl (.bool true) (run_lssT 3 _ _ _ rfl ((i : Nat) : Int) ((t.length : Nat) : Int) rfl rfl true hi1 _) ?_
    refine nr ?_; intro U h; simp only [z0, z1] at h; subst h
    refine wpList_nil ?_
    refine then_n ?_
    refine wp_seq ?_
    refine wp_cond_true rfl ?_
    refine wp_skip ?_
    refine then_n ?_
    refine wp_seq ?_
    refine wp_block ?_
    refine wp_seq ?_
    refine wp_region_lit ?_
    refine s_val 27 rfl rfl (.pointer (pA ao i)) (run_ixI (HT.gro GG) _ _ rfl rfl i rfl hil) ?_
    refine nr ?_; intro U h; simp only [z0, z1] at h; subst h
    refine s_val 28 rfl rfl (.agg (idA (t.getD i 0))) (run_ldI (HT.gro GG) _ rfl i rfl hil) ?_
    refine nr ?_; intro U h; simp only [z0, z1] at h; subst h
    refine s_alloc 9 rfl rfl 23 rfl _ zero23 (idA 0) rfl ?_
    intro w4 g2 G eg2 kg2
    have bg2 := size_base GG eg2
    have dg1g2 := lt_new kg1 eg2
    replace kg1 := G.has kg1
    replace GG := GG.trans G
    clear G
    clear eg2
    refine nr ?_; intro U h; simp only [z0, z1] at h; subst h
    refine s_store rfl rfl 23 _ _ rfl g2 0 rfl (.agg (idA (t.getD i 0))) rfl 23 _ kg2 (idA (t.getD i 0)) rfl (size23' _) (idA_fit _ _) (idA_one _) (idA (t.getD i 0)) (splice_whole _ _ (idA_sz _ _)) ?_
    intro w5 St
    replace kg1 := St.has (by omega) kg1
    replace GG := GG.store St bg2
    replace kg2 := St.new
    clear St
    refine wpList_nil ?_
    refine then_n ?_
    refine wp_seq ?_
    refine wp_seq ?_
    cases hae : decide ((t.getD i 0) = (t.getD b 0))
    · refine wp_region_exA (A := ?Ax29) 5 [(0, 29), (1, 30), (2, 31), (3, 32), (4, 33)] [.val (.agg (idA (t.getD i 0))), .val (.slice ao t.length t.length), .val (.int .i64 (bestI s t t.length)), .val (.pointer (pA ao b)), .val (.agg (idA (t.getD b 0)))] follows (by kernel_rfl) rfl ?hAx29 (opsA_cons ?o0x29 (opsA_cons ?o1x29 (opsA_cons ?o2x29 (opsA_cons ?o3x29 (opsA_cons ?o4x29 opsA_nil))))) ?restx29
      case hAx29 =>
        intro ptrs
        simp only [full, foldSlots, filledE, postE, List.foldl_cons, List.foldl_nil, List.getD_cons_zero, List.getD_cons_succ, fill_val, List.set_cons_zero, List.set_cons_succ]
        exact rfl
      case o0x29 => exact fun _ _ hw _ => opE_value (v := .agg (idA (t.getD i 0))) rfl (run_ldB _ rfl g2 _ rfl (hw.has kg2))
      case o1x29 => exact fun _ _ _ _ => opE_move (v := .slice ao t.length t.length) _ rfl rfl rfl
      case o2x29 => exact fun _ _ _ _ => opE_move (v := .int .i64 (bestI s t t.length)) _ rfl rfl rfl
      case o3x29 => exact fun _ _ hw _ => opE_value (v := .pointer (pA ao b)) rfl (run_ixI (HT.gro (GG.drew.trans hw)) _ _ rfl rfl b (by exact congrArg (Value.int .i64) hb) hbl)
      case o4x29 => exact fun _ _ hw _ => opE_value (v := .agg (idA (t.getD b 0))) rfl (run_ldI (HT.gro (GG.drew.trans hw)) _ rfl b rfl hbl)
      intro ptrs w6 GD hxE
      simp only [List.drop_succ_cons, List.drop_zero]
      replace kg1 := GD.has kg1
      replace kg2 := GD.has kg2
      replace GG := GG.drew.trans GD
      clear GD
      refine s_val 34 rfl rfl (.bool false) (run_eqI _ _ _ rfl _ _ rfl rfl (HT.at hil) (HT.at hbl) false hae) ?_
      refine nr ?_; intro U h; simp only [z0, z1] at h; subst h
      refine wpList_nil ?_
      refine then_n ?_
      refine wp_cond_false rfl ?_
      refine wp_skip ?_
      refine then_n ?_
      refine wp_seq ?_
      refine wp_region_lit ?_
      refine s_val 10 rfl rfl (.bool false) (rfl) ?_
      refine nr ?_; intro U h; simp only [z0, z1] at h; subst h
      refine wpList_nil ?_
      refine then_n ?_
      refine wp_seq ?_
      refine wp_seq ?_
      refine wp_region_lit ?_
      refine s_val 35 rfl rfl (.agg (idA (t.getD i 0))) (run_ldB _ rfl g2 _ rfl (kg2)) ?_
      refine nr ?_; intro U h; simp only [z0, z1] at h; subst h
      refine s_val 36 rfl rfl (.slice ao t.length t.length) (rfl) ?_
      refine nr ?_; intro U h; simp only [z0, z1] at h; subst h
      refine s_val 37 rfl rfl (.int .i64 (1 + u3 half)) (rfl) ?_
      refine nr ?_; intro U h; simp only [z0, z1] at h; subst h
      refine s_callx 38 rfl rfl _ 11 Try.call11 rfl rfl _ rfl [.agg (idA (t.getD i 0)), .slice ao t.length t.length, .int .i64 (1 + u3 half)] rfl (want_any _ ao t.length t (HT.gro GG) (by omega) (t.getD i 0) (HT.at hil) (1 + u3 half)) (by rintro _ _ ⟨_, _, he, _⟩; exact ⟨_, he⟩) ?_
      rintro v w7 ⟨ao1, cap1, he, G, HR1⟩
      cases he
      replace kg1 := G.has kg1
      replace kg2 := G.has kg2
      replace GG := GG.trans G
      clear G
      refine nr ?_; intro U h; simp only [z0, z1] at h; subst h
      refine s_val 39 rfl rfl (.int .i64 (((want (t.getD i 0) t (1 + u3 half)).length : Nat) : Int)) (run_len Try.underlying24 _ rfl _ _ _ rfl _) ?_
      refine nr ?_; intro U h; simp only [z0, z1] at h; subst h
      refine s_val 40 rfl rfl (.int .i64 0) (rfl) ?_
      refine nr ?_; intro U h; simp only [z0, z1] at h; subst h
      refine wpList_nil ?_
      refine then_n ?_
      refine wp_block ?_
      have hWl := want_len (t.getD i 0) t (1 + u3 half)
      refine wp_loopN (fun mz az wv => ∃ (k : Nat) (ok : Bool) (us2 : Nat → Value), mz = (want (t.getD i 0) t (1 + u3 half)).length - k ∧ az = ⟨[.agg (idA s), .slice ao t.length t.length, .int .i64 (1 + u3 half), .pointer (some ⟨g1, 0, none⟩), undef, undef, us1 0, .int .i64 (bestI s t t.length), undef, .pointer (some ⟨g2, 0, none⟩), .bool ok, undef, us2 0, .slice ao l.length cap, .slice ao t.length t.length, .int .i64 half, .int .u64 (IntKind.u64.wrap half), .int .u64 (u3 half), .int .i64 (u3 half), .int .i64 (1 + u3 half), .agg (idA s), .slice ao t.length t.length, .int .i64 (bestI s t t.length), .slice ao t.length t.length, .int .i64 ((t.length : Nat) : Int), .int .i64 ((i : Nat) : Int), .bool true, .pointer (pA ao i), .agg (idA (t.getD i 0)), .agg (idA (t.getD i 0)), .slice ao t.length t.length, .int .i64 (bestI s t t.length), .pointer (pA ao b), .agg (idA (t.getD b 0)), .bool false, .agg (idA (t.getD i 0)), .slice ao t.length t.length, .int .i64 (1 + u3 half), .slice ao1 ((want (t.getD i 0) t (1 + u3 half)).length) cap1, .int .i64 (((want (t.getD i 0) t (1 + u3 half)).length : Nat) : Int), .int .i64 ((k : Nat) : Int), us2 1, us2 2, us2 3, us2 4, us2 5, us2 6, us2 7, us2 8, us2 9, us2 10, us2 11, us1 30, us1 31, us1 32, undef].toArray, []⟩ ∧ k ≤ (want (t.getD i 0) t (1 + u3 half)).length ∧ (ok = true ↔ ∃ j, j < k ∧ nearN s ((want (t.getD i 0) t (1 + u3 half)).getD j 0) (t.getD i 0) = true) ∧ Gro w wv ∧ wv.heap[g1]? = some (.cells (idA s) 23 (0, 0)) ∧ wv.heap[g2]? = some (.cells (idA (t.getD i 0)) 23 (0, 0)) ∧ RC wv ao1 cap1 (want (t.getD i 0) t (1 + u3 half))) ?_ _ ⟨0, false, (fun kz => ([us1 3, us1 19, us1 20, us1 21, us1 22, us1 23, us1 24, us1 25, us1 26, us1 27, us1 28, us1 29] : List Value).getD kz undef), rfl, rfl, Nat.zero_le _, ⟨fun h => absurd h Bool.false_ne_true, fun ⟨j, hj, _⟩ => absurd hj (Nat.not_lt_zero j)⟩, GG, kg1, kg2, HR1⟩
      clear GG kg1 kg2 HR1
      rintro mz az wv ⟨k, ok, us2, rfl, rfl, hk, hok, GG, kg1, kg2, HR1⟩
      refine wp_seq ?_
      refine wp_region_lit ?_
      cases hk1 : decide (((k : Nat) : Int) < (((want (t.getD i 0) t (1 + u3 half)).length : Nat) : Int))
      · have hke : k = (want (t.getD i 0) t (1 + u3 half)).length := by have := of_decide_eq_false hk1; omega
        have hokt : ok = true := hok.2 (by
          obtain ⟨y, hy, hyn⟩ := greedy HT.all (getD_mem hil) hs (getD_mem hbl) (of_decide_eq_false hae) (all_near hbn) (half := (1 + u3 half)) (by have := (u3_bd half).1; omega)
          obtain ⟨j, hj, rfl⟩ := List.mem_iff_getElem.1 hy
          exact ⟨j, by omega, by rw [getD_at hj]; exact hyn⟩)
        subst hokt
        refine s_val 41 rfl rfl (.bool false) (run_lssT 3 _ _ _ rfl ((k : Nat) : Int) (((want (t.getD i 0) t (1 + u3 half)).length : Nat) : Int) rfl rfl false hk1 _) ?_
        refine nr ?_; intro U h; simp only [z0, z1] at h; subst h
        refine wpList_nil ?_
        refine then_n ?_
        refine wp_seq ?_
        refine wp_cond_false rfl ?_
        refine wp_exit ?_
        refine then_x ?_
        refine then_x ?_
        refine blk_x ?_
        refine then_n ?_
        refine wp_seq ?_
        refine wp_region_lit ?_
        refine s_val 52 rfl rfl (.bool true) (rfl) ?_
        refine nr ?_; intro U h; simp only [z0, z1] at h; subst h
        refine s_val 53 rfl rfl (.bool false) (run_nt _ _ rfl true rfl) ?_
        refine nr ?_; intro U h; simp only [z0, z1] at h; subst h
        refine wpList_nil ?_
        refine then_n ?_
        refine wp_cond_false rfl ?_
        refine wp_skip ?_
        refine blk_n ?_
        refine then_n ?_
        refine wp_region_lit ?_
        refine s_val 54 rfl rfl (.int .i64 ((i + 1 : Nat) : Int)) (run_addI 3 _ _ _ rfl ((i : Nat) : Int) 1 ((i + 1 : Nat) : Int) rfl rfl (by omega) (by omega) (by omega) _) ?_
        refine nr ?_; intro U h; simp only [z0, z1] at h; subst h
        refine s_val 25 rfl rfl (.int .i64 ((i + 1 : Nat) : Int)) (rfl) ?_
        refine nr ?_; intro U h; simp only [z0, z1] at h; subst h
        refine wpList_nil ?_
        refine then_n ?_
        exact ⟨_, (by omega : t.length - (i + 1) < t.length - i), i + 1, (fun kz => ([us1 0, .pointer (some ⟨g2, 0, none⟩), .bool true, us2 0, .bool true, .pointer (pA ao i), .agg (idA (t.getD i 0)), .agg (idA (t.getD i 0)), .slice ao t.length t.length, .int .i64 (bestI s t t.length), .pointer (pA ao b), .agg (idA (t.getD b 0)), .bool false, .agg (idA (t.getD i 0)), .slice ao t.length t.length, .int .i64 (1 + u3 half), .slice ao1 ((want (t.getD i 0) t (1 + u3 half)).length) cap1, .int .i64 (((want (t.getD i 0) t (1 + u3 half)).length : Nat) : Int), .int .i64 ((k : Nat) : Int), .bool false, us2 2, us2 3, us2 4, us2 5, us2 6, us2 7, us2 8, us2 9, us2 10, us2 11, .bool true, .bool false, .int .i64 ((i + 1 : Nat) : Int)] : List Value).getD kz undef), rfl, rfl, hil, GG, kg1⟩
      · have hkl : k < (want (t.getD i 0) t (1 + u3 half)).length := by have := of_decide_eq_true hk1; omega
        refine s_val 41 rfl rfl (.bool true) (run_lssT 3 _ _ _ rfl ((k : Nat) : Int) (((want (t.getD i 0) t (1 + u3 half)).length : Nat) : Int) rfl rfl true hk1 _) ?_
        refine nr ?_; intro U h; simp only [z0, z1] at h; subst h
        refine wpList_nil ?_
        refine then_n ?_
        refine wp_seq ?_
        refine wp_cond_true rfl ?_
        refine wp_skip ?_
        refine then_n ?_
        refine wp_seq ?_
        refine wp_block ?_
        refine wp_seq ?_
        refine wp_region_lit ?_
        refine s_val 42 rfl rfl (.pointer (pA ao1 k)) (run_ixI (HR1) _ _ rfl rfl k rfl hkl) ?_
        refine nr ?_; intro U h; simp only [z0, z1] at h; subst h
        refine s_val 43 rfl rfl (.agg (idA ((want (t.getD i 0) t (1 + u3 half)).getD k 0))) (run_ldI (HR1) _ rfl k rfl hkl) ?_
        refine nr ?_; intro U h; simp only [z0, z1] at h; subst h
        refine s_alloc 12 rfl rfl 23 rfl _ zero23 (idA 0) rfl ?_
        intro w8 g3 G eg3 kg3
        have bg3 := size_base GG eg3
        have dg1g3 := lt_new kg1 eg3
        have dg2g3 := lt_new kg2 eg3
        have dHR1g3 := HR1.ne eg3
        replace kg1 := G.has kg1
        replace kg2 := G.has kg2
        replace HR1 := HR1.gro G
        replace GG := GG.trans G
        clear G
        clear eg3
        refine nr ?_; intro U h; simp only [z0, z1] at h; subst h
        refine s_store rfl rfl 23 _ _ rfl g3 0 rfl (.agg (idA ((want (t.getD i 0) t (1 + u3 half)).getD k 0))) rfl 23 _ kg3 (idA ((want (t.getD i 0) t (1 + u3 half)).getD k 0)) rfl (size23' _) (idA_fit _ _) (idA_one _) (idA ((want (t.getD i 0) t (1 + u3 half)).getD k 0)) (splice_whole _ _ (idA_sz _ _)) ?_
        intro w9 St
        replace kg1 := St.has (by omega) kg1
        replace kg2 := St.has (by omega) kg2
        replace HR1 := HR1.st St dHR1g3
        replace GG := GG.store St bg3
        replace kg3 := St.new
        clear St
        refine wpList_nil ?_
        refine then_n ?_
        cases ok
        · cases hnr : nearN s ((want (t.getD i 0) t (1 + u3 half)).getD k 0) (t.getD i 0)
          · refine wp_region_opq ?_
            intro OPS hY
            have y1 := hY 1 45 rfl
            clear hY
            refine s_val 44 rfl rfl (.bool false) (rfl) ?_
            refine nr ?_; intro U h; simp only [z0, z1] at h; subst h
            refine s_val 45 rfl rfl (.bool false) (rfl) ?_
            refine nr ?_; intro U h; simp only [z0, z1] at h; subst h
            refine s_gvalY 46 rfl rfl y1 rfl (.agg (idA s)) (run_ldB _ rfl g1 _ rfl (kg1)) ?_
            refine nr ?_; intro U h; simp only [z0, z1] at h; subst h
            refine s_gvalY 47 rfl rfl y1 rfl (.agg (idA ((want (t.getD i 0) t (1 + u3 half)).getD k 0))) (run_ldB _ rfl g3 _ rfl (kg3)) ?_
            refine nr ?_; intro U h; simp only [z0, z1] at h; subst h
            refine s_gvalY 48 rfl rfl y1 rfl (.agg (idA (t.getD i 0))) (run_ldB _ rfl g2 _ rfl (kg2)) ?_
            refine nr ?_; intro U h; simp only [z0, z1] at h; subst h
            refine s_gcallvY 49 rfl rfl y1 rfl _ 23 Try.call23 rfl rfl _ rfl [.agg (idA s), .agg (idA ((want (t.getD i 0) t (1 + u3 half)).getD k 0)), .agg (idA (t.getD i 0))] rfl (Calls.bool (refnearer_any s ((want (t.getD i 0) t (1 + u3 half)).getD k 0) (t.getD i 0) hs (HR1.at hkl) (HT.at hil) _) hnr) ?_
            intro w10 G
            replace kg1 := G.has kg1
            replace kg2 := G.has kg2
            replace kg3 := G.has kg3
            replace HR1 := HR1.gro G
            replace GG := GG.trans G
            clear G
            refine nr ?_; intro U h; simp only [z0, z1] at h; subst h
            refine s_val 50 rfl rfl (.bool false) (rfl) ?_
            refine nr ?_; intro U h; simp only [z0, z1] at h; subst h
            refine s_val 10 rfl rfl (.bool false) (rfl) ?_
            refine nr ?_; intro U h; simp only [z0, z1] at h; subst h
            refine wpList_nil ?_
            refine blk_n ?_
            refine then_n ?_
            refine wp_region_lit ?_
            refine s_val 51 rfl rfl (.int .i64 ((k + 1 : Nat) : Int)) (run_addI 3 _ _ _ rfl ((k : Nat) : Int) 1 ((k + 1 : Nat) : Int) rfl rfl (by omega) (by omega) (by omega) _) ?_
            refine nr ?_; intro U h; simp only [z0, z1] at h; subst h
            refine s_val 40 rfl rfl (.int .i64 ((k + 1 : Nat) : Int)) (rfl) ?_
            refine nr ?_; intro U h; simp only [z0, z1] at h; subst h
            refine wpList_nil ?_
            refine then_n ?_
            exact ⟨_, (by omega : (want (t.getD i 0) t (1 + u3 half)).length - (k + 1) < (want (t.getD i 0) t (1 + u3 half)).length - k), k + 1, false, (fun kz => ([.pointer (some ⟨g3, 0, none⟩), .bool true, .pointer (pA ao1 k), .agg (idA ((want (t.getD i 0) t (1 + u3 half)).getD k 0)), .bool false, .bool false, .agg (idA s), .agg (idA ((want (t.getD i 0) t (1 + u3 half)).getD k 0)), .agg (idA (t.getD i 0)), .bool false, .bool false, .int .i64 ((k + 1 : Nat) : Int)] : List Value).getD kz undef), rfl, rfl, hkl, (no_more hok hnr), GG, kg1, kg2, HR1⟩
          · refine wp_region_opq ?_
            intro OPS hY
            have y1 := hY 1 45 rfl
            clear hY
            refine s_val 44 rfl rfl (.bool false) (rfl) ?_
            refine nr ?_; intro U h; simp only [z0, z1] at h; subst h
            refine s_val 45 rfl rfl (.bool false) (rfl) ?_
            refine nr ?_; intro U h; simp only [z0, z1] at h; subst h
            refine s_gvalY 46 rfl rfl y1 rfl (.agg (idA s)) (run_ldB _ rfl g1 _ rfl (kg1)) ?_
            refine nr ?_; intro U h; simp only [z0, z1] at h; subst h
            refine s_gvalY 47 rfl rfl y1 rfl (.agg (idA ((want (t.getD i 0) t (1 + u3 half)).getD k 0))) (run_ldB _ rfl g3 _ rfl (kg3)) ?_
            refine nr ?_; intro U h; simp only [z0, z1] at h; subst h
            refine s_gvalY 48 rfl rfl y1 rfl (.agg (idA (t.getD i 0))) (run_ldB _ rfl g2 _ rfl (kg2)) ?_
            refine nr ?_; intro U h; simp only [z0, z1] at h; subst h
            refine s_gcallvY 49 rfl rfl y1 rfl _ 23 Try.call23 rfl rfl _ rfl [.agg (idA s), .agg (idA ((want (t.getD i 0) t (1 + u3 half)).getD k 0)), .agg (idA (t.getD i 0))] rfl (Calls.bool (refnearer_any s ((want (t.getD i 0) t (1 + u3 half)).getD k 0) (t.getD i 0) hs (HR1.at hkl) (HT.at hil) _) hnr) ?_
            intro w10 G
            replace kg1 := G.has kg1
            replace kg2 := G.has kg2
            replace kg3 := G.has kg3
            replace HR1 := HR1.gro G
            replace GG := GG.trans G
            clear G
            refine nr ?_; intro U h; simp only [z0, z1] at h; subst h
            refine s_val 50 rfl rfl (.bool true) (rfl) ?_
            refine nr ?_; intro U h; simp only [z0, z1] at h; subst h
            refine s_val 10 rfl rfl (.bool true) (rfl) ?_
            refine nr ?_; intro U h; simp only [z0, z1] at h; subst h
            refine wpList_nil ?_
            refine blk_n ?_
            refine then_n ?_
            refine wp_region_lit ?_
            refine s_val 51 rfl rfl (.int .i64 ((k + 1 : Nat) : Int)) (run_addI 3 _ _ _ rfl ((k : Nat) : Int) 1 ((k + 1 : Nat) : Int) rfl rfl (by omega) (by omega) (by omega) _) ?_
            refine nr ?_; intro U h; simp only [z0, z1] at h; subst h
            refine s_val 40 rfl rfl (.int .i64 ((k + 1 : Nat) : Int)) (rfl) ?_
            refine nr ?_; intro U h; simp only [z0, z1] at h; subst h
            refine wpList_nil ?_
            refine then_n ?_
            exact ⟨_, (by omega : (want (t.getD i 0) t (1 + u3 half)).length - (k + 1) < (want (t.getD i 0) t (1 + u3 half)).length - k), k + 1, true, (fun kz => ([.pointer (some ⟨g3, 0, none⟩), .bool true, .pointer (pA ao1 k), .agg (idA ((want (t.getD i 0) t (1 + u3 half)).getD k 0)), .bool false, .bool false, .agg (idA s), .agg (idA ((want (t.getD i 0) t (1 + u3 half)).getD k 0)), .agg (idA (t.getD i 0)), .bool true, .bool true, .int .i64 ((k + 1 : Nat) : Int)] : List Value).getD kz undef), rfl, rfl, hkl, ⟨fun _ => ⟨k, by omega, hnr⟩, fun _ => rfl⟩, GG, kg1, kg2, HR1⟩
        · refine wp_region_opq ?_
          intro OPS hY
          have y1 := hY 1 45 rfl
          clear hY
          refine s_val 44 rfl rfl (.bool true) (rfl) ?_
          refine nr ?_; intro U h; simp only [z0, z1] at h; subst h
          refine s_val 45 rfl rfl (.bool true) (rfl) ?_
          refine nr ?_; intro U h; simp only [z0, z1] at h; subst h
          refine s_skipY 46 rfl rfl y1 rfl ?_
          refine nr ?_; intro U h; simp only [z0, z1] at h; subst h
          refine s_skipY 47 rfl rfl y1 rfl ?_
          refine nr ?_; intro U h; simp only [z0, z1] at h; subst h
          refine s_skipY 48 rfl rfl y1 rfl ?_
          refine nr ?_; intro U h; simp only [z0, z1] at h; subst h
          refine s_skipY 49 rfl rfl y1 rfl ?_
          refine nr ?_; intro U h; simp only [z0, z1] at h; subst h
          refine s_val 50 rfl rfl (.bool true) (rfl) ?_
          refine nr ?_; intro U h; simp only [z0, z1] at h; subst h
          refine s_val 10 rfl rfl (.bool true) (rfl) ?_
          refine nr ?_; intro U h; simp only [z0, z1] at h; subst h
          refine wpList_nil ?_
          refine blk_n ?_
          refine then_n ?_
          refine wp_region_lit ?_
          refine s_val 51 rfl rfl (.int .i64 ((k + 1 : Nat) : Int)) (run_addI 3 _ _ _ rfl ((k : Nat) : Int) 1 ((k + 1 : Nat) : Int) rfl rfl (by omega) (by omega) (by omega) _) ?_
          refine nr ?_; intro U h; simp only [z0, z1] at h; subst h
          refine s_val 40 rfl rfl (.int .i64 ((k + 1 : Nat) : Int)) (rfl) ?_
          refine nr ?_; intro U h; simp only [z0, z1] at h; subst h
          refine wpList_nil ?_
          refine then_n ?_
          exact ⟨_, (by omega : (want (t.getD i 0) t (1 + u3 half)).length - (k + 1) < (want (t.getD i 0) t (1 + u3 half)).length - k), k + 1, true, (fun kz => ([.pointer (some ⟨g3, 0, none⟩), .bool true, .pointer (pA ao1 k), .agg (idA ((want (t.getD i 0) t (1 + u3 half)).getD k 0)), .bool true, .bool true, undef, undef, undef, undef, .bool true, .int .i64 ((k + 1 : Nat) : Int)] : List Value).getD kz undef), rfl, rfl, hkl, ⟨fun _ => (hok.1 rfl).elim fun j hj => ⟨j, by omega, hj.2⟩, fun _ => rfl⟩, GG, kg1, kg2, HR1⟩
    · refine wp_region_exA (A := ?Ax30) 5 [(0, 29), (1, 30), (2, 31), (3, 32), (4, 33)] [.val (.agg (idA (t.getD i 0))), .val (.slice ao t.length t.length), .val (.int .i64 (bestI s t t.length)), .val (.pointer (pA ao b)), .val (.agg (idA (t.getD b 0)))] follows (by kernel_rfl) rfl ?hAx30 (opsA_cons ?o0x30 (opsA_cons ?o1x30 (opsA_cons ?o2x30 (opsA_cons ?o3x30 (opsA_cons ?o4x30 opsA_nil))))) ?restx30
      case hAx30 =>
        intro ptrs
        simp only [full, foldSlots, filledE, postE, List.foldl_cons, List.foldl_nil, List.getD_cons_zero, List.getD_cons_succ, fill_val, List.set_cons_zero, List.set_cons_succ]
        exact rfl
      case o0x30 => exact fun _ _ hw _ => opE_value (v := .agg (idA (t.getD i 0))) rfl (run_ldB _ rfl g2 _ rfl (hw.has kg2))
      case o1x30 => exact fun _ _ _ _ => opE_move (v := .slice ao t.length t.length) _ rfl rfl rfl
      case o2x30 => exact fun _ _ _ _ => opE_move (v := .int .i64 (bestI s t t.length)) _ rfl rfl rfl
      case o3x30 => exact fun _ _ hw _ => opE_value (v := .pointer (pA ao b)) rfl (run_ixI (HT.gro (GG.drew.trans hw)) _ _ rfl rfl b (by exact congrArg (Value.int .i64) hb) hbl)
      case o4x30 => exact fun _ _ hw _ => opE_value (v := .agg (idA (t.getD b 0))) rfl (run_ldI (HT.gro (GG.drew.trans hw)) _ rfl b rfl hbl)
      intro ptrs w6 GD hxE
      simp only [List.drop_succ_cons, List.drop_zero]
      replace kg1 := GD.has kg1
      replace kg2 := GD.has kg2
      replace GG := GG.drew.trans GD
      clear GD
      refine s_val 34 rfl rfl (.bool true) (run_eqI _ _ _ rfl _ _ rfl rfl (HT.at hil) (HT.at hbl) true hae) ?_
      refine nr ?_; intro U h; simp only [z0, z1] at h; subst h
      refine wpList_nil ?_
      refine then_n ?_
      refine wp_cond_true rfl ?_
      refine wp_exit ?_
      refine then_x ?_
      refine blk_x ?_
      refine then_n ?_
      refine wp_region_lit ?_
      refine s_val 54 rfl rfl (.int .i64 ((i + 1 : Nat) : Int)) (run_addI 3 _ _ _ rfl ((i : Nat) : Int) 1 ((i + 1 : Nat) : Int) rfl rfl (by omega) (by omega) (by omega) _) ?_
      refine nr ?_; intro U h; simp only [z0, z1] at h; subst h
      refine s_val 25 rfl rfl (.int .i64 ((i + 1 : Nat) : Int)) (rfl) ?_
      refine nr ?_; intro U h; simp only [z0, z1] at h; subst h
      refine wpList_nil ?_
      refine then_n ?_
      exact ⟨_, (by omega : t.length - (i + 1) < t.length - i), i + 1, (fun kz => ([us1 0, .pointer (some ⟨g2, 0, none⟩), us1 2, us1 3, .bool true, .pointer (pA ao i), .agg (idA (t.getD i 0)), .agg (idA (t.getD i 0)), .slice ao t.length t.length, .int .i64 (bestI s t t.length), .pointer (pA ao b), .agg (idA (t.getD b 0)), .bool true, us1 13, us1 14, us1 15, us1 16, us1 17, us1 18, us1 19, us1 20, us1 21, us1 22, us1 23, us1 24, us1 25, us1 26, us1 27, us1 28, us1 29, us1 30, us1 31, .int .i64 ((i + 1 : Nat) : Int)] : List Value).getD kz undef), rfl, rfl, hil, GG, kg1⟩
end Go.Proofs.Ytkckjkimjeakcaa
