/- The law of the whole path. -/
import Derived.Test.YtkjnefgenffhcaaGZ10
namespace Go.Proofs.Ytkjnefgenffhcaa
open Classical
open Go.RowKit Go.Maps
theorem W_length : ∀ (n : Nat) (W : List Int), W.Nodup → (∀ x ∈ W, 0 ≤ x ∧ x < (n : Int)) → W.length ≤ n
  | 0, W, _, h => by
    cases W with
    | nil => exact Nat.le_refl _
    | cons a r => have := h a List.mem_cons_self; omega
  | n + 1, W, hd, h => by
    by_cases hm : (n : Int) ∈ W
    · have h1 := W_length n (W.erase (n : Int)) (hd.erase _) fun x hx => by
        have hx2 := (hd.mem_erase_iff).1 hx
        have := h x hx2.2
        have := hx2.1
        omega
      rw [List.length_erase_of_mem hm] at h1
      omega
    · have h1 := W_length n W hd fun x hx => by
        have := h x hx
        have hne : x ≠ (n : Int) := fun e => hm (e ▸ hx)
        omega
      omega
/-- Unlike places below 6. -/
structure RW (W : List Int) : Prop where
  nd : W.Nodup
  rg : ∀ x ∈ W, 0 ≤ x ∧ x < 6
def idW (W : List Int) (k : Nat) : Nat := i2 7 (W.getD k 0).toNat
def mW (W : List Int) (p : Pa) : Msg := mSet p (idW W 0) (idW W (W.length - 1)) W
def edW (W : List Int) (p : Pa) (k : Nat) : Ed := if k + 1 < W.length then ⟨some (W.getD (k + 1) 0, mW W p), decide (k = 0), false⟩ else ⟨none, true, false⟩
def xW (W : List Int) (p : Pa) (k : Nat) : En := ⟨p, idW W 0, idW W (W.length - 1), if k = 0 then -1 else W.getD (k - 1) 0, if k + 1 < W.length then W.getD (k + 1) 0 else -1⟩
theorem isO_6 {n : Int} (h0 : 0 ≤ n) (h6 : n < 6) : isO o6 n = true := by
  have h : n = 0 ∨ n = 1 ∨ n = 2 ∨ n = 3 ∨ n = 4 ∨ n = 5 := by omega
  rcases h with rfl | rfl | rfl | rfl | rfl | rfl <;> decide
theorem bd2_0 (w : World) : (Instr.build 24 #[(0, .int .u8 7), (1, .int .u8 0)]).run Try.prog w = .ok (.agg (idA (i2 7 0))) w := by kernel_rfl
theorem bd2_1 (w : World) : (Instr.build 24 #[(0, .int .u8 7), (1, .int .u8 1)]).run Try.prog w = .ok (.agg (idA (i2 7 1))) w := by kernel_rfl
theorem bd2_2 (w : World) : (Instr.build 24 #[(0, .int .u8 7), (1, .int .u8 2)]).run Try.prog w = .ok (.agg (idA (i2 7 2))) w := by kernel_rfl
theorem bd2_3 (w : World) : (Instr.build 24 #[(0, .int .u8 7), (1, .int .u8 3)]).run Try.prog w = .ok (.agg (idA (i2 7 3))) w := by kernel_rfl
theorem bd2_4 (w : World) : (Instr.build 24 #[(0, .int .u8 7), (1, .int .u8 4)]).run Try.prog w = .ok (.agg (idA (i2 7 4))) w := by kernel_rfl
theorem bd2_5 (w : World) : (Instr.build 24 #[(0, .int .u8 7), (1, .int .u8 5)]).run Try.prog w = .ok (.agg (idA (i2 7 5))) w := by kernel_rfl
theorem bd2 (y : Int) (h0 : 0 ≤ y) (h6 : y < 6) (w : World) : (Instr.build 24 #[(0, .int .u8 7), (1, .int .u8 y)]).run Try.prog w = .ok (.agg (idA (i2 7 y.toNat))) w := by
  have h : y = 0 ∨ y = 1 ∨ y = 2 ∨ y = 3 ∨ y = 4 ∨ y = 5 := by omega
  rcases h with rfl | rfl | rfl | rfl | rfl | rfl
  · exact bd2_0 w
  · exact bd2_1 w
  · exact bd2_2 w
  · exact bd2_3 w
  · exact bd2_4 w
  · exact bd2_5 w
section
variable {W : List Int} {p : Pa} {k j : Nat}
theorem RW.snoc (h : RW W) {x : Int} (h0 : 0 ≤ x) (h6 : x < 6) (hn : plc W x < 0) : RW (W ++ [x]) := by
  have hx : x ∉ W := fun hm => by
    unfold plc at hn
    rw [if_pos hm] at hn
    omega
  refine ⟨List.nodup_append.2 ⟨h.nd, List.nodup_cons.2 ⟨by simp, List.nodup_nil⟩, fun a ha b hb e => ?_⟩, fun y hy => ?_⟩
  · rw [List.mem_singleton] at hb
    exact hx (hb ▸ e ▸ ha)
  · rcases List.mem_append.1 hy with hy | hy
    · exact h.rg y hy
    · rw [List.mem_singleton] at hy
      exact hy ▸ ⟨h0, h6⟩
theorem RW.len (h : RW W) : W.length ≤ 6 := W_length 6 W h.nd h.rg
theorem RW.at (h : RW W) (k : Nat) : 0 ≤ W.getD k 0 ∧ W.getD k 0 < 6 := by
  by_cases hk : k < W.length
  · exact h.rg _ (getD_memZ hk)
  · rw [List.getD_eq_getElem?_getD, List.getElem?_eq_none (by omega)]
    exact ⟨by decide, by decide⟩
theorem RW.i64 (h : RW W) (k : Nat) : I64 (W.getD k 0) := by
  have := h.at k
  unfold I64
  omega
theorem idW_top (h : RW W) (k : Nat) : idW W k < top := by
  have := h.at k
  unfold idW i2 top
  omega
theorem RW.inj (h : RW W) (hj : j < W.length) (hk : k < W.length) (e : W.getD j 0 = W.getD k 0) : j = k := by
  have h1 := plc_nodup h.nd hj
  have h2 := plc_nodup h.nd hk
  rw [e, h2] at h1
  omega
theorem idW_inj (h : RW W) (hj : j < W.length) (hk : k < W.length) (e : idW W j = idW W k) : j = k := by
  have h1 := h.at j
  have h2 := h.at k
  unfold idW i2 at e
  exact h.inj hj hk (by omega)
theorem id_ends (h : RW W) (h2 : 2 ≤ W.length) : idW W (W.length - 1) ≠ idW W 0 := fun e => by
  have := idW_inj h (by omega) (by omega) e
  omega
theorem mW_ok (h : RW W) (hp : p.ok) : (mW W p).ok := ⟨hp, idW_top h 0, idW_top h _⟩
theorem xW_ok (h : RW W) (hp : p.ok) (k : Nat) : (xW W p k).ok := by
  refine ⟨hp, idW_top h 0, idW_top h _, ?_, ?_⟩
  · show I64 (if k = 0 then -1 else W.getD (k - 1) 0)
    split
    · exact m1i
    · exact h.i64 _
  · show I64 (if k + 1 < W.length then W.getD (k + 1) 0 else -1)
    split
    · exact h.i64 _
    · exact m1i
theorem xW_rgt (h : RW W) (h2 : 2 ≤ W.length) (hk : k < W.length) : rgt (xW W p k) = true := by
  have e1 := h.at (k - 1)
  have e2 := h.at (k + 1)
  rw [rgt_iff]
  refine ⟨fun e => id_ends h h2 e.symm, ?_, ?_, ?_⟩
  · show -1 ≤ (if k = 0 then -1 else W.getD (k - 1) 0) ∧ (if k = 0 then -1 else W.getD (k - 1) 0) < 6
    split <;> omega
  · show -1 ≤ (if k + 1 < W.length then W.getD (k + 1) 0 else -1) ∧ (if k + 1 < W.length then W.getD (k + 1) 0 else -1) < 6
    split <;> omega
  · show (if k = 0 then -1 else W.getD (k - 1) 0) ≠ (if k + 1 < W.length then W.getD (k + 1) 0 else -1)
    split
    · split <;> omega
    · split
      · intro e
        have := h.inj (by omega) (by omega) e
        omega
      · omega
theorem xW_c (h : RW W) (h2 : 2 ≤ W.length) (hk : k < W.length) : addC 3 [] (xW W p k) = 0 := by
  unfold addC
  rw [if_pos (xW_rgt h h2 hk)]
  rfl
theorem xW_l (h : RW W) (h2 : 2 ≤ W.length) (hk : k < W.length) : addL 3 [] (xW W p k) = [xW W p k] := by
  unfold addL
  rw [if_pos (xW_c h h2 hk)]
  rfl
theorem edW_mid (hk : k + 1 < W.length) : edW W p k = ⟨some (W.getD (k + 1) 0, mW W p), decide (k = 0), false⟩ := if_pos hk
theorem edW_pre (h1 : 1 ≤ k) (hk : k < W.length) : edW W p (k - 1) = ⟨some (W.getD k 0, mW W p), decide (k - 1 = 0), false⟩ := by
  have e : k - 1 + 1 = k := by omega
  have := edW_mid (W := W) (p := p) (k := k - 1) (by omega)
  rwa [e] at this
theorem edW_end (h2 : 2 ≤ W.length) : edW W p (W.length - 1) = ⟨none, true, false⟩ := if_neg (by omega)
theorem xS_W (h2 : 2 ≤ W.length) : xS (idW W 0) p (idW W (W.length - 1)) W = xW W p 0 := by
  unfold xS xW
  rw [if_pos rfl, if_pos (show 0 + 1 < W.length by omega)]
theorem W_start (h : RW W) (h2 : 2 ≤ W.length) : stE 3 [] (W.getD 0 0) (idW W 0) p (idW W (W.length - 1)) W o6 = ⟨some (W.getD 1 0, mW W p), true, false⟩ ∧ stC 3 [] (W.getD 0 0) (idW W 0) p (idW W (W.length - 1)) W o6 = 0 ∧ stL 3 [] (W.getD 0 0) (idW W 0) p (idW W (W.length - 1)) W o6 = [xW W p 0] := by
  have hl := h.len
  have hle : lead (W.getD 0 0) W = true := by
    unfold lead
    rw [decide_eq_true h2, decide_eq_true (show W.length ≤ 64 by omega), decide_eq_true rfl, decide_eq_true h.nd]
    rfl
  have hc : addC 3 [] (xS (idW W 0) p (idW W (W.length - 1)) W) = 0 := by rw [xS_W h2]; exact xW_c h h2 (by omega)
  have hst := st_add (room := 3) (L := []) (p := p) (o := o6) ⟨hle, id_ends h h2⟩ (isO_6 (h.at 1).1 (h.at 1).2) hc
  rw [xS_W h2, xW_l h h2 (by omega)] at hst
  exact hst
theorem W_take (h : RW W) (h2 : 2 ≤ W.length) (h1 : 1 ≤ k) (hk : k < W.length) : tkE 3 [] (W.getD k 0) (idW W k) (W.getD (k - 1) 0) (mW W p) o6 = edW W p k ∧ tkL 3 [] (W.getD k 0) (idW W k) (W.getD (k - 1) 0) (mW W p) o6 = [xW W p k] := by
  have hq : plc (mW W p).l (W.getD k 0) = (k : Int) := plc_nodup h.nd hk
  have hf := tk_for (M := mW W p) (N := W.getD k 0) (fr := W.getD (k - 1) 0) rfl h.nd hq h1 rfl
  by_cases hm : k + 1 < W.length
  · have ht := tk_mid' (room := 3) (L := []) (ID := idW W k) (o := o6) hf hq hm
    have hx : xT (W.getD (k - 1) 0) (mW W p) ((mW W p).l.getD (k + 1) 0) = xW W p k := by
      unfold xT xW
      rw [if_neg (show ¬ k = 0 by omega), if_pos hm]
      rfl
    have ho : isO o6 ((mW W p).l.getD (k + 1) 0) = true := isO_6 (h.at (k + 1)).1 (h.at (k + 1)).2
    have e1 := psE_add (room := 3) (L := []) (fr := W.getD (k - 1) 0) (M := mW W p) ho (by rw [hx]; exact xW_c h h2 hk)
    have e2 := psL_yes (room := 3) (L := []) (fr := W.getD (k - 1) 0) (M := mW W p) ho
    rw [hx, xW_l h h2 hk] at e2
    refine ⟨(ht.1.trans e1).trans ?_, ht.2.trans e2⟩
    rw [edW_mid hm, decide_eq_false (show ¬ k = 0 by omega)]
    rfl
  · have ht := tk_end (room := 3) (L := []) (ID := idW W k) (o := o6) hf hq hm
    have hkl : W.length - 1 = k := by omega
    have hb : (mW W p).b = idW W k := by show idW W (W.length - 1) = _; rw [hkl]
    have hx : xT (W.getD (k - 1) 0) (mW W p) (-1) = xW W p k := by
      unfold xT xW
      rw [if_neg (show ¬ k = 0 by omega), if_neg hm]
      rfl
    have e1 := enE_add (room := 3) (L := []) (fr := W.getD (k - 1) 0) hb (by rw [hx]; exact xW_c h h2 hk)
    have e2 := enL_yes (room := 3) (L := []) (fr := W.getD (k - 1) 0) hb
    rw [hx, xW_l h h2 hk] at e2
    refine ⟨(ht.1.trans e1).trans ?_, ht.2.trans e2⟩
    rw [← hkl, edW_end h2]
theorem xW_00 (h0 : k = 0) (hm : k + 1 < W.length) : xW W p (k - 1) = ⟨p, idW W 0, idW W (W.length - 1), -1, W.getD (k + 1) 0⟩ := by
  subst h0
  unfold xW
  rw [if_pos rfl, if_pos hm]
theorem xW_mid (h0 : 0 < k) (hm : k + 1 < W.length) : xW W p k = ⟨p, idW W 0, idW W (W.length - 1), W.getD (k - 1) 0, W.getD (k + 1) 0⟩ := by
  unfold xW
  rw [if_neg (by omega), if_pos hm]
theorem xW_end (h0 : 0 < k) (hm : ¬ k + 1 < W.length) : xW W p k = ⟨p, idW W 0, idW W (W.length - 1), W.getD (k - 1) 0, -1⟩ := by
  unfold xW
  rw [if_neg (by omega), if_neg hm]
theorem getW (x : En) : getV [x] x.p = x ∧ hasL [x] x.p = true := by
  have h : getL [x] x.p = some x := getL_mem (l := [x]) (List.pairwise_singleton _ _) List.mem_cons_self
  unfold getV hasL
  rw [h]
  exact ⟨rfl, rfl⟩
end
theorem new3 (w : World) : Calls Try.prog 23 #[.int .i64 3] w (NewP w 3) := by
  have h := new_any 3 w
  rwa [show rmF 3 = 3 from by decide] at h
theorem zvL (w : World) : (zeroValue 32).run Try.prog w = .ok (.slice none 0 0) w := by kernel_rfl
theorem ldL_0 {o : Oper} {A : Act} {w : World} {ao : Option Addr} {n cap : Nat} (y_ : Operand) (ho : o.op = .load 32 y_) (g_ : Nat) (hx : A.eval y_ = .pointer (some ⟨g_, 0, none⟩)) (hg : w.heap[g_]? = some (.cells #[.slice ao n cap] 32 (0, 0))) : (execOp A.eval o).run Try.prog w = .ok (.value (.slice ao n cap)) w :=
  run_ldc 32 y_ ho g_ 0 hx 32 _ hg (na32 w) _ (by kernel_rfl)
theorem run_byte {o : Oper} {A : Act} {w : World} (x : Operand) (ho : o.op = .convert 3 5 x) (n : Int) (hx : A.eval x = .int .i64 n) (h0 : 0 ≤ n) (h6 : n < 6) : (execOp A.eval o).run Try.prog w = .ok (.value (.int .u8 n)) w := by
  have e : ((n.toNat : Nat) : Int) = n := by omega
  have h := conv35 x ho n.toNat (by omega) (by rw [e]; exact hx) w
  rwa [e] at h
theorem tupW {a b : En} {p q : Bool} (h1 : a = b) (h2 : p = q) : Value.tuple #[.agg (enA a), .bool p] = Value.tuple #[.agg (enA b), .bool q] := by rw [h1, h2]
set_option maxRecDepth 100000 in
set_option maxHeartbeats 4000000 in
theorem idW_any (w : World) (W : List Int) (hW : RW W) (g5 : Nat) (aw : Option Addr) (cw : Nat) (kg5 : w.heap[g5]? = some (.cells #[.slice aw W.length cw] 32 (0, 0))) (HR : RC w aw cw W) (j : Nat) (hj : j < W.length) : Calls Try.prog 22 #[.int .i64 ((j : Nat) : Int), .pointer (some ⟨g5, 0, none⟩)] w (fun e w' => e = .returned (.agg (idA (idW W j))) ∧ Gro w w') := by
  refine s_enter Try.func22 rfl Try.ntmps22 [.int .i64 ((j : Nat) : Int), .pointer (some ⟨g5, 0, none⟩)] [.int .i64 ((j : Nat) : Int), .pointer (some ⟨g5, 0, none⟩), undef, undef, undef, undef, undef, undef, undef, undef] rfl ?_
  have GG := Gro.refl w
  refine wp_seq ?_
  refine wp_region_lit ?_
  refine s_alloc 3 rfl rfl 24 rfl _ zero23 (idA 0) rfl ?_
  intro w1 g1 G eg1 kg1
  have bg1 := size_base GG eg1
  have dg5g1 := lt_new kg5 eg1
  have dHRg1 := HR.ne eg1
  replace kg5 := G.has kg5
  replace HR := HR.gro G
  replace GG := GG.trans G
  clear G
  clear eg1
  refine nr ?_; intro U h; simp only [z0, z1] at h; subst h
  refine wpList_nil ?_
  refine then_n ?_
  refine wp_seq ?_
  refine wp_region_lit ?_
  refine s_val 4 rfl rfl (.slice aw W.length cw) (ldL_0 _ rfl g5 rfl (kg5)) ?_
  refine nr ?_; intro U h; simp only [z0, z1] at h; subst h
  refine s_val 5 rfl rfl (.int .i64 ((j : Nat) : Int)) (rfl) ?_
  refine nr ?_; intro U h; simp only [z0, z1] at h; subst h
  refine s_val 6 rfl rfl (.pointer (pA aw j)) (run_ixI (HR) _ _ rfl rfl j rfl (by omega)) ?_
  refine nr ?_; intro U h; simp only [z0, z1] at h; subst h
  refine s_val 7 rfl rfl (.int .i64 (W.getD j 0)) (run_ldI (HR) _ rfl j rfl (by omega)) ?_
  refine nr ?_; intro U h; simp only [z0, z1] at h; subst h
  refine s_val 8 rfl rfl (.int .u8 (W.getD j 0)) (run_byte _ rfl _ rfl (hW.at j).1 (hW.at j).2) ?_
  refine nr ?_; intro U h; simp only [z0, z1] at h; subst h
  refine s_val 9 rfl rfl (.agg (idA (idW W j))) (run_bd 24 _ rfl [(0, .int .u8 7), (1, .int .u8 (W.getD j 0))] rfl _ (bd2 _ (hW.at j).1 (hW.at j).2 _)) ?_
  refine nr ?_; intro U h; simp only [z0, z1] at h; subst h
  refine s_store rfl rfl 24 _ _ rfl g1 0 rfl (.agg (idA (idW W j))) rfl 24 _ kg1 (idA (idW W j)) rfl (size23' _) (idA_fit _ _) (idA_one _) (idA (idW W j)) (splice_whole _ _ (idA_sz _ _)) ?_
  intro w2 St
  have kS := kg1
  replace kg5 := St.has (fun e => ne_cells kg5 kS (by decide) (by simp [e])) kg5
  replace HR := HR.st St dHRg1
  replace GG := GG.store St bg1
  replace kg1 := St.new
  clear St
  refine wpList_nil ?_
  refine then_n ?_
  refine wp_ret ?_
  refine bodyPost_ret (results_cell_row Try.results22 _ _ g1 24 _ (0, 0) _ rfl kg1 Try.underlying24 rfl (size23' _)) rfl ?_
  exact ⟨rfl, GG⟩
set_option maxRecDepth 100000 in
set_option maxHeartbeats 4000000 in
theorem setupWhole_any (w : World) (p : Pa) (hp : p.ok) (ao : Option Addr) (cap : Nat) (way : List Int) (HI : RC w ao cap way) (hwl : way.length ≤ 17592186044416) : Calls Try.prog 6 #[.slice ao way.length cap, .agg (paA p)] w (fun e w' => e = .returned (.bool true) ∧ Gro w w') := by
  refine s_enter Try.func6 rfl Try.ntmps6 [.slice ao way.length cap, .agg (paA p)] [.slice ao way.length cap, .agg (paA p), undef, undef, undef, undef, undef, undef, undef, undef, undef, undef, undef, undef, undef, undef, undef, undef, undef, undef, undef, undef, undef, undef, undef, undef, undef, undef, undef, undef, undef, undef, undef, undef, undef, undef, undef, undef, undef, undef, undef, undef, undef, undef, undef, undef, undef, undef, undef, undef, undef, undef, undef, undef, undef, undef, undef, undef, undef, undef, undef, undef, undef, undef, undef, undef, undef, undef, undef, undef, undef, undef, undef, undef, undef, undef, undef, undef, undef, undef, undef, undef, undef, undef, undef, undef, undef, undef, undef, undef, undef, undef, undef, undef, undef, undef, undef, undef, undef, undef, undef, undef, undef, undef, undef, undef, undef, undef, undef, undef, undef, undef, undef, undef, undef, undef, undef, undef, undef, undef, undef, undef, undef, undef, undef, undef, undef, undef, undef, undef, undef, undef, undef, undef, undef, undef, undef, undef, undef, undef, undef, undef, undef, undef, undef, undef, undef, undef, undef, undef, undef, undef, undef, undef, undef, undef, undef, undef, undef, undef, undef, undef, undef, undef, undef, undef, undef, undef, undef, undef, undef] rfl ?_
  have GG := Gro.refl w
  refine wp_seq ?_
  refine wp_region_lit ?_
  refine s_box 3 rfl rfl 31 _ rfl _ rfl (paA p) rfl ?_
  intro w1 g1 G eg1 kg1
  have bg1 := size_base GG eg1
  replace GG := GG.trans G
  clear G
  clear eg1
  refine nr ?_; intro U h; simp only [z0, z1] at h; subst h
  refine s_val 4 rfl rfl (.bool false) (rfl) ?_
  refine nr ?_; intro U h; simp only [z0, z1] at h; subst h
  refine wpList_nil ?_
  refine then_n ?_
  refine wp_seq ?_
  refine wp_region_lit ?_
  refine s_alloc 5 rfl rfl 32 rfl _ zvL (#[.slice none 0 0]) rfl ?_
  intro w2 g2 G eg2 kg2
  have bg2 := size_base GG eg2
  have dg1g2 := lt_new kg1 eg2
  replace kg1 := G.has kg1
  replace GG := GG.trans G
  clear G
  clear eg2
  refine nr ?_; intro U h; simp only [z0, z1] at h; subst h
  refine wpList_nil ?_
  refine then_n ?_
  refine wp_seq ?_
  refine wp_seq ?_
  refine wp_region_lit ?_
  refine s_val 19 rfl rfl (.slice ao way.length cap) (rfl) ?_
  refine nr ?_; intro U h; simp only [z0, z1] at h; subst h
  refine s_val 20 rfl rfl (.int .i64 ((way.length : Nat) : Int)) (run_len Try.underlying32 _ rfl _ _ _ rfl _) ?_
  refine nr ?_; intro U h; simp only [z0, z1] at h; subst h
  refine s_val 21 rfl rfl (.int .i64 0) (rfl) ?_
  refine nr ?_; intro U h; simp only [z0, z1] at h; subst h
  refine wpList_nil ?_
  refine then_n ?_
  refine wp_block ?_
  obtain ⟨B0, hB0⟩ : ∃ B, w2.heap.size = B := ⟨_, rfl⟩
  have hwB : w.heap.size ≤ B0 := hB0 ▸ GG.size
  have l3B : g1 < B0 := hB0 ▸ lt_of_heap kg1
  have l5B : g2 < B0 := hB0 ▸ lt_of_heap kg2
  have hsB := Nat.le_of_eq hB0.symm
  refine wp_loopN (fun mz az wv => ∃ (j : Nat) (W : List Int) (aw : Option Addr) (cw : Nat) (us1 : Nat → Value), mz = way.length + 1 - j ∧ az = ⟨[.slice ao way.length cap, .agg (paA p), undef, .pointer (some ⟨g1, 0, none⟩), .bool false, .pointer (some ⟨g2, 0, none⟩), undef, us1 0, undef, undef, undef, undef, undef, undef, undef, undef, undef, undef, undef, .slice ao way.length cap, .int .i64 ((way.length : Nat) : Int), .int .i64 ((j : Nat) : Int), us1 1, us1 2, us1 3, us1 4, us1 5, us1 6, us1 7, us1 8, us1 9, us1 10, us1 11, us1 12, us1 13, us1 14, us1 15, us1 16, us1 17, us1 18, us1 19, us1 20, undef, undef, undef, undef, undef, undef, undef, undef, undef, undef, undef, undef, undef, undef, undef, undef, undef, undef, undef, undef, undef, undef, undef, undef, undef, undef, undef, undef, undef, undef, undef, undef, undef, undef, undef, undef, undef, undef, undef, undef, undef, undef, undef, undef, undef, undef, undef, undef, undef, undef, undef, undef, undef, undef, undef, undef, undef, undef, undef, undef, undef, undef, undef, undef, undef, undef, undef, undef, undef, undef, undef, undef, undef, undef, undef, undef, undef, undef, undef, undef, undef, undef, undef, undef, undef, undef, undef, undef, undef, undef, undef, undef, undef, undef, undef, undef, undef, undef, undef, undef, undef, undef, undef, undef, undef, undef, undef, undef, undef, undef, undef, undef, undef, undef, undef, undef, undef, undef, undef, undef, undef, undef, undef, undef, undef, undef, undef, undef, undef].toArray, []⟩ ∧ j ≤ way.length ∧ RW W ∧ B0 ≤ wv.heap.size ∧ Gro w wv ∧ wv.heap[g1]? = some (.cells (paA p) 31 (0, 0)) ∧ wv.heap[g2]? = some (.cells #[.slice aw W.length cw] 32 (0, 0)) ∧ OI wv B0 aw cw W) ?_ _ ⟨0, [], none, 0, (fun kz => ([undef, undef, undef, undef, undef, undef, undef, undef, undef, undef, undef, undef, undef, undef, undef, undef, undef, undef, undef, undef, undef] : List Value).getD kz undef), rfl, rfl, Nat.zero_le _, ⟨List.nodup_nil, fun _ h => by cases h⟩, hsB, GG, kg1, kg2, OI.nil _ _⟩
  clear GG kg1 kg2
  rintro mz az wv ⟨j, W, aw, cw, us1, rfl, rfl, hj, hW, hsB, GG, kg1, kg2, HV⟩
  have hWl := hW.len
  refine wp_seq ?_
  refine wp_region_lit ?_
  cases hj1 : decide (((j : Nat) : Int) < ((way.length : Nat) : Int))
  · have HR := HV.rc
    refine s_val 22 rfl rfl (.bool false) (run_lssT 3 _ _ _ rfl ((j : Nat) : Int) ((way.length : Nat) : Int) rfl rfl false hj1 _) ?_
    refine nr ?_; intro U h; simp only [z0, z1] at h; subst h
    refine wpList_nil ?_
    refine then_n ?_
    refine wp_seq ?_
    refine wp_cond_false rfl ?_
    refine wp_exit ?_
    refine then_x ?_
    refine then_x ?_
    refine blk_x ?_
    refine then_n ?_
    refine wp_seq ?_
    refine wp_seq ?_
    refine wp_region_opq ?_
    intro OPS hY
    have y3 := hY 3 45 rfl
    clear hY
    refine s_val 42 rfl rfl (.slice aw W.length cw) (ldL_0 _ rfl g2 rfl (kg2)) ?_
    refine nr ?_; intro U h; simp only [z0, z1] at h; subst h
    refine s_val 43 rfl rfl (.int .i64 ((W.length : Nat) : Int)) (run_len Try.underlying32 _ rfl _ _ _ rfl _) ?_
    refine nr ?_; intro U h; simp only [z0, z1] at h; subst h
    cases h2 : decide (((W.length : Nat) : Int) < 2)
    · have h2b : 2 ≤ W.length := by have := of_decide_eq_false h2; omega
      refine s_val 44 rfl rfl (.bool false) (run_lssT 3 _ _ _ rfl ((W.length : Nat) : Int) 2 rfl rfl false h2 _) ?_
      refine nr ?_; intro U h; simp only [z0, z1] at h; subst h
      refine s_val 45 rfl rfl (.bool false) (rfl) ?_
      refine nr ?_; intro U h; simp only [z0, z1] at h; subst h
      refine s_gcallvY 46 rfl rfl y3 rfl _ 11 Try.call11 rfl rfl _ rfl [] rfl (fixed_any _) ?_
      intro w3 G
      replace kg1 := G.has kg1
      replace kg2 := G.has kg2
      replace HR := HR.gro G
      replace GG := GG.trans G
      clear G
      refine nr ?_; intro U h; simp only [z0, z1] at h; subst h
      refine s_gvalY 47 rfl rfl y3 rfl (.bool false) (run_nt _ _ rfl true rfl) ?_
      refine nr ?_; intro U h; simp only [z0, z1] at h; subst h
      refine s_val 48 rfl rfl (.bool false) (rfl) ?_
      refine nr ?_; intro U h; simp only [z0, z1] at h; subst h
      refine wpList_nil ?_
      refine then_n ?_
      refine wp_cond_false rfl ?_
      refine wp_skip ?_
      refine then_n ?_
      refine wp_seq ?_
      refine wp_region_lit ?_
      refine s_bsl 50 rfl rfl 27 6 _ rfl [(0, .bool true), (1, .bool true), (2, .bool true), (3, .bool true), (4, .bool true), (5, .bool true)] rfl (([true, true, true, true, true, true] : List Bool).flatMap kB.E).toArray 4 (by kernel_rfl) ?_
      intro w4 q1 G eq1 kq1
      have dHB1g1 := ne_blk (n := (([true, true, true, true, true, true] : List Bool).flatMap kB.E).length) (lt_new kg1 eq1)
      have dHB1g2 := ne_blk (n := (([true, true, true, true, true, true] : List Bool).flatMap kB.E).length) (lt_new kg2 eq1)
      replace kg1 := G.has kg1
      replace kg2 := G.has kg2
      replace HR := HR.gro G
      replace GG := GG.trans G
      clear G
      have HB1 : RK kB _ (some ⟨q1, 0, none⟩) 6 [true, true, true, true, true, true] := RK.blk kq1 (fun _ _ => trivial) (Nat.le_refl _)
      clear eq1 kq1
      refine nr ?_; intro U h; simp only [z0, z1] at h; subst h
      refine s_val 8 rfl rfl (.slice (some ⟨q1, 0, none⟩) 6 6) (rfl) ?_
      refine nr ?_; intro U h; simp only [z0, z1] at h; subst h
      refine wpList_nil ?_
      refine then_n ?_
      refine wp_seq ?_
      refine wp_region_lit ?_
      refine s_val 51 rfl rfl (.func (.func 22) #[] #[.pointer (some ⟨g2, 0, none⟩)]) (run_mkF 22 _ rfl _ rfl) ?_
      refine nr ?_; intro U h; simp only [z0, z1] at h; subst h
      refine s_val 9 rfl rfl (.func (.func 22) #[] #[.pointer (some ⟨g2, 0, none⟩)]) (rfl) ?_
      refine nr ?_; intro U h; simp only [z0, z1] at h; subst h
      refine wpList_nil ?_
      refine then_n ?_
      refine wp_seq ?_
      refine wp_region_g2A (A := ?Ax1) 9 [(0, 52), (1, 53), (2, 54), (3, 55), (4, 56), (5, 57), (6, 58), (7, 10), (8, 11)] [.val (.func (.func 22) #[] #[.pointer (some ⟨g2, 0, none⟩)]), .val (.agg (idA (idW W 0))), .val (.func (.func 22) #[] #[.pointer (some ⟨g2, 0, none⟩)]), .val (.slice aw W.length cw), .val (.int .i64 ((W.length : Nat) : Int)), .val (.int .i64 ((W.length - 1 : Nat) : Int)), .val (.agg (idA (idW W (W.length - 1)))), .new 24 (idA 0) (idA 0) 999, .new 24 (idA 0) (idA 0) 999] follows (by kernel_rfl) (by kernel_rfl) rfl ?hAx1 (opsA2_cons ?o0x1 (opsA2_cons ?o1x1 (opsA2_cons ?o2x1 (opsA2_cons ?o3x1 (opsA2_cons ?o4x1 (opsA2_cons ?o5x1 (opsA2_cons ?o6x1 (opsA2_cons ?o7x1 (opsA2_cons ?o8x1 opsA2_nil))))))))) ?restx1
      case hAx1 =>
        intro ptrs
        simp only [full, foldSlots, filled2, postAt2, List.foldl_cons, List.foldl_nil, List.getD_cons_zero, List.getD_cons_succ, PostS.fill, PostS.val, PostS.new, List.set_cons_zero, List.set_cons_succ]
        exact rfl
      case o0x1 => exact fun _ _ _ _ _ _ => OpOK2.of_val (ok_value (v := .func (.func 22) #[] #[.pointer (some ⟨g2, 0, none⟩)]) rfl rfl)
      case o1x1 => exact fun _ _ _ hw _ _ => OpOK2.of_val (ok_callF rfl _ 22 #[.pointer (some ⟨g2, 0, none⟩)] Try.call22 rfl _ rfl rfl _ rfl [.int .i64 0] rfl _ (idW_any _ W hW g2 aw cw (hw.has kg2) (HR.gro ((Gro.refl _).drew.trans hw)) 0 (by omega)))
      case o2x1 => exact fun _ _ _ _ _ _ => OpOK2.of_val (ok_value (v := .func (.func 22) #[] #[.pointer (some ⟨g2, 0, none⟩)]) rfl rfl)
      case o3x1 => exact fun _ _ _ hw _ _ => OpOK2.of_val (ok_value (v := .slice aw W.length cw) rfl (ldL_0 _ rfl g2 rfl (hw.has kg2)))
      case o4x1 => exact fun _ _ _ _ _ _ => OpOK2.of_val (ok_value (v := .int .i64 ((W.length : Nat) : Int)) rfl (run_len Try.underlying32 _ rfl _ _ _ rfl _))
      case o5x1 => exact fun _ _ _ _ _ _ => OpOK2.of_val (ok_value (v := .int .i64 ((W.length - 1 : Nat) : Int)) rfl (run_subI 3 _ _ _ rfl ((W.length : Nat) : Int) 1 ((W.length - 1 : Nat) : Int) rfl rfl (by omega) (by omega) (by omega) _))
      case o6x1 => exact fun _ _ _ hw _ _ => OpOK2.of_val (ok_callF rfl _ 22 #[.pointer (some ⟨g2, 0, none⟩)] Try.call22 rfl _ rfl rfl _ rfl [.int .i64 ((W.length - 1 : Nat) : Int)] rfl _ (idW_any _ W hW g2 aw cw (hw.has kg2) (HR.gro ((Gro.refl _).drew.trans hw)) (W.length - 1) (by omega)))
      case o7x1 => exact fun _ _ _ _ _ _ => OpOK2.of_new (ok_alloc rfl 24 rfl _ zero23)
      case o8x1 => exact fun _ _ _ _ _ _ => OpOK2.of_new (ok_alloc rfl 24 rfl _ zero23)
      intro ptrs Lz w5 GD hLz hnz hapz
      obtain ⟨⟨gF, pzgF, kgF, czgF⟩, ⟨⟨gL, pzgL, kgL, czgL⟩, hzz⟩⟩ := hnz
      simp only [List.drop_succ_cons, List.drop_zero, pzgF, pzgL]
      replace kgF : w5.heap[gF]? = some (.cells (idA 0) 24 (0, 0)) := by
        have kk : w5.heap[gF]? = some (.cells (if Lz 999 = true then (idA 0) else (idA 0)) 24 (0, 0)) := kgF
        rwa [ite_self] at kk
      replace kgL : w5.heap[gL]? = some (.cells (idA 0) 24 (0, 0)) := by
        have kk : w5.heap[gL]? = some (.cells (if Lz 999 = true then (idA 0) else (idA 0)) 24 (0, 0)) := kgL
        rwa [ite_self] at kk
      have ngFgL : gF ≠ gL := fun e => apart_two (i := 7) (j := 8) hapz (by kernel_rfl) (by rw [pzgF, pzgL, e])
      clear hzz hapz hLz
      have dg1gF : g1 < gF := Nat.lt_of_lt_of_le (lt_of_heap kg1) czgF
      have dg2gF : g2 < gF := Nat.lt_of_lt_of_le (lt_of_heap kg2) czgF
      have dHRgF := HR.neG czgF
      have dHB1gF := HB1.neG czgF
      have dg1gL : g1 < gL := Nat.lt_of_lt_of_le (lt_of_heap kg1) czgL
      have dg2gL : g2 < gL := Nat.lt_of_lt_of_le (lt_of_heap kg2) czgL
      have dHRgL := HR.neG czgL
      have dHB1gL := HB1.neG czgL
      replace kg1 := GD.has kg1
      replace kg2 := GD.has kg2
      replace HR := HR.gro ((Gro.refl _).drew.trans GD)
      replace HB1 := HB1.gro ((Gro.refl _).drew.trans GD)
      have bgF := Nat.le_trans GG.size czgF
      have bgL := Nat.le_trans GG.size czgL
      replace GG := GG.drew.trans GD
      clear GD pzgF czgF pzgL czgL
      refine s_store rfl rfl 24 _ _ rfl gF 0 rfl (.agg (idA (idW W 0))) rfl 24 _ kgF (idA (idW W 0)) rfl (size23' _) (idA_fit _ _) (idA_one _) (idA (idW W 0)) (splice_whole _ _ (idA_sz _ _)) ?_
      intro w6 St
      have kS := kgF
      replace kg1 := St.has (fun e => ne_cells kg1 kS (by decide) (by simp [e])) kg1
      replace kg2 := St.has (fun e => ne_cells kg2 kS (by decide) (by simp [e])) kg2
      replace kgL := St.has (by omega) kgL
      replace HR := HR.st St dHRgF
      replace HB1 := HB1.st St dHB1gF
      replace GG := GG.store St bgF
      replace kgF := St.new
      clear St
      refine s_store rfl rfl 24 _ _ rfl gL 0 rfl (.agg (idA (idW W (W.length - 1)))) rfl 24 _ kgL (idA (idW W (W.length - 1))) rfl (size23' _) (idA_fit _ _) (idA_one _) (idA (idW W (W.length - 1))) (splice_whole _ _ (idA_sz _ _)) ?_
      intro w7 St
      have kS := kgL
      replace kg1 := St.has (fun e => ne_cells kg1 kS (by decide) (by simp [e])) kg1
      replace kg2 := St.has (fun e => ne_cells kg2 kS (by decide) (by simp [e])) kg2
      replace kgF := St.has (by omega) kgF
      replace HR := HR.st St dHRgL
      replace HB1 := HB1.st St dHB1gL
      replace GG := GG.store St bgL
      replace kgL := St.new
      clear St
      refine wpList_nil ?_
      refine then_n ?_
      refine wp_seq ?_
      refine wp_region_lit ?_
      refine s_callx 59 rfl rfl _ 23 Try.call23 rfl rfl _ rfl [.int .i64 3] rfl (new3 _) (by rintro _ _ ⟨_, _, he, _⟩; exact ⟨_, he⟩) ?_
      rintro v w8 ⟨t, b, he, G, kt, HTt, h1t, h2t⟩
      cases he
      have bt := Nat.le_trans GG.size h1t
      have bb := Nat.le_trans GG.size h2t
      clear h1t h2t
      replace kg1 := G.has kg1
      replace kg2 := G.has kg2
      replace kgF := G.has kgF
      replace kgL := G.has kgL
      replace HR := HR.gro G
      replace HB1 := HB1.gro G
      replace GG := GG.trans G
      clear G
      refine nr ?_; intro U h; simp only [z0, z1] at h; subst h
      refine s_val 12 rfl rfl (.pointer (some ⟨t, 0, none⟩)) (rfl) ?_
      refine nr ?_; intro U h; simp only [z0, z1] at h; subst h
      refine wpList_nil ?_
      refine then_n ?_
      refine wp_seq ?_
      have hst := W_start (p := p) hW h2b
      have hWI : ∀ x ∈ W, I64t x := fun x hx => by have := hW.rg x hx; unfold I64t; omega
      obtain ⟨BB, hBB⟩ : ∃ B, w8.heap.size = B := ⟨_, rfl⟩
      refine wp_region_pi (A := ?Ax2) (WrI w8.drew b [] [xW W p 0] 10 14 15 BB ⟨some (W.getD 1 0, mW W p), true, false⟩) 16 [(0, 61), (1, 62), (2, 63), (3, 64), (4, 65), (5, 66), (6, 67), (7, 68), (8, 69), (9, 70), (10, 71), (11, 60), (12, 72), (13, 73), (14, 13)] [.val (.pointer (some ⟨t, 0, none⟩)), .val (.slice aw W.length cw), .val (.pointer (pA aw 0)), .val (.int .i64 (W.getD 0 0)), .val (.agg (idA (idW W 0))), .val (.agg (seA (W.getD 0 0) (idW W 0))), .val (.agg (paA p)), .val (.agg (idA (idW W (W.length - 1)))), .val (.slice aw W.length cw), .val (.slice (some ⟨q1, 0, none⟩) 6 6), outC BB ⟨some (W.getD 1 0, mW W p), true, false⟩ 0, outC BB ⟨some (W.getD 1 0, mW W p), true, false⟩ 0, outZ BB ⟨some (W.getD 1 0, mW W p), true, false⟩, .val (.int .i64 0), boxZ BB 41 (edA none 0 false false), .val undef] [(15, 14)] [] follows (by kernel_rfl) rfl (by kernel_rfl) (by decide) (WrI.start (HTt.gro (Gro.refl _).drew)) ?hAx2 (opsI_g (fun _ _ _ _ v h hi g => h.gro 0 (by decide) (by decide) hi g v) ?o0x2 (opsI_g (fun _ _ _ _ v h hi g => h.gro 1 (by decide) (by decide) hi g v) ?o1x2 (opsI_g (fun _ _ _ _ v h hi g => h.gro 2 (by decide) (by decide) hi g v) ?o2x2 (opsI_g (fun _ _ _ _ v h hi g => h.gro 3 (by decide) (by decide) hi g v) ?o3x2 (opsI_g (fun _ _ _ _ v h hi g => h.gro 4 (by decide) (by decide) hi g v) ?o4x2 (opsI_g (fun _ _ _ _ v h hi g => h.gro 5 (by decide) (by decide) hi g v) ?o5x2 (opsI_g (fun _ _ _ _ v h hi g => h.gro 6 (by decide) (by decide) hi g v) ?o6x2 (opsI_g (fun _ _ _ _ v h hi g => h.gro 7 (by decide) (by decide) hi g v) ?o7x2 (opsI_g (fun _ _ _ _ v h hi g => h.gro 8 (by decide) (by decide) hi g v) ?o8x2 (opsI_g (fun _ _ _ _ v h hi g => h.gro 9 (by decide) (by decide) hi g v) ?o9x2 (opsI_w ?o10x2 (opsI_g (fun _ _ _ _ v h hi g => h.gro 11 (by decide) (by decide) hi g v) ?o11x2 (opsI_g (fun _ _ _ _ v h hi g => h.gro 12 (by decide) (by decide) hi g v) ?o12x2 (opsI_g (fun _ _ _ _ v h hi g => h.gro 13 (by decide) (by decide) hi g v) ?o13x2 (opsI_g (fun _ _ _ _ v h hi g => h.gro 14 (by decide) (by decide) hi g v) ?o14x2 (opsI_w ?o15x2 opsI_nil)))))))))))))))) ?restx2
      case hAx2 =>
        intro ptrs
        simp only [full, foldSlots, filledE, postE, List.foldl_cons, List.foldl_nil, List.getD_cons_zero, List.getD_cons_succ, fill_val, fill_outC, fill_outZ, fill_boxZ, List.set_cons_zero, List.set_cons_succ]
        exact rfl
      case o0x2 => exact fun _ _ _ _ _ _ _ _ => opE_move (v := .pointer (some ⟨t, 0, none⟩)) _ rfl rfl rfl
      case o1x2 => exact fun _ _ _ hw _ _ _ _ => opE_value (v := .slice aw W.length cw) rfl (ldL_0 _ rfl g2 rfl (hw.g.has kg2 (by simpa using HTt.nec kg2)))
      case o2x2 => exact fun _ _ _ hw _ _ _ _ => opE_value (v := .pointer (pA aw 0)) rfl (run_ixI ((HR.gro (Gro.refl _).drew).mapw (HTt.gro (Gro.refl _).drew) hw.g) _ _ rfl rfl 0 rfl (by omega))
      case o3x2 => exact fun _ _ _ hw _ _ _ _ => opE_value (v := .int .i64 (W.getD 0 0)) rfl (run_ldI ((HR.gro (Gro.refl _).drew).mapw (HTt.gro (Gro.refl _).drew) hw.g) _ rfl 0 rfl (by omega))
      case o4x2 => exact fun _ _ _ hw _ _ _ _ => opE_value (v := .agg (idA (idW W 0))) rfl (ldI0 _ rfl gF rfl (hw.g.has kgF (by simpa using HTt.nec kgF)))
      case o5x2 => exact fun _ _ _ _ _ _ _ _ => opE_value (v := .agg (seA (W.getD 0 0) (idW W 0))) rfl (run_bd 26 _ rfl [(0, .int .i64 (W.getD 0 0)), (1, .agg (idA (idW W 0)))] rfl _ (bdS2 _ _ _))
      case o6x2 => exact fun _ _ _ hw _ _ _ _ => opE_value (v := .agg (paA p)) rfl (ldP0 _ rfl g1 rfl (hw.g.has kg1 (by simpa using HTt.nec kg1)))
      case o7x2 => exact fun _ _ _ hw _ _ _ _ => opE_value (v := .agg (idA (idW W (W.length - 1)))) rfl (ldI0 _ rfl gL rfl (hw.g.has kgL (by simpa using HTt.nec kgL)))
      case o8x2 => exact fun _ _ _ hw _ _ _ _ => opE_value (v := .slice aw W.length cw) rfl (ldL_0 _ rfl g2 rfl (hw.g.has kg2 (by simpa using HTt.nec kg2)))
      case o9x2 => exact fun _ _ _ _ _ _ _ _ => opE_move (v := .slice (some ⟨q1, 0, none⟩) 6 6) _ rfl rfl rfl
      case o10x2 =>
        intro R9 ptrs x hw hi _ _ _
        have HT9 := hw.t1 hi
        refine opX_call (outC BB ⟨some (W.getD 1 0, mW W p), true, false⟩ 0) rfl _ 9 Try.call9 rfl rfl _ rfl [.pointer (some ⟨t, 0, none⟩), .agg (seA (W.getD 0 0) (idW W 0)), .agg (paA p), .agg (idA (idW W (W.length - 1))), .slice aw W.length cw, .slice (some ⟨q1, 0, none⟩) 6 6] rfl ((start_eq _ t b 3 [] (hw.g.has kt (by simpa using HTt.nec kt)) HT9 (W.getD 0 0) (idW W 0) (idW_top hW 0) p hp (idW W (W.length - 1)) (idW_top hW _) aw cw W ((HR.gro (Gro.refl _).drew).mapw (HTt.gro (Gro.refl _).drew) hw.g) (some ⟨q1, 0, none⟩) 6 o6 ((HB1.gro (Gro.refl _).drew).mapw (HTt.gro (Gro.refl _).drew) hw.g) ⟨some (W.getD 1 0, mW W p), true, false⟩ 0 [xW W p 0] hst.1 hst.2.1 hst.2.2).mono ?_)
        rintro e w' ⟨ao, n, he, HO, HT2, G2⟩
        refine ⟨_, he, ⟨fun v => hw.call hi (by decide) HT2 G2 v, StM.valsX [0, 1, 2, 3, 4, 5, 6, 7, 8, 9, 13] [14] (by kernel_rfl) ⟨⟨_, rfl⟩, ⟨_, rfl⟩, ⟨_, rfl⟩, ⟨_, rfl⟩, ⟨_, rfl⟩, ⟨_, rfl⟩, ⟨_, rfl⟩, ⟨_, rfl⟩, ⟨_, rfl⟩, ⟨_, rfl⟩, ⟨_, rfl⟩, trivial⟩ (fun j hj v hp => ?_)⟩, ao, n, rfl, HO.mono (Nat.le_trans (Nat.le_of_eq hBB.symm) hw.g.size)⟩
        rw [List.mem_singleton] at hj
        subst hj
        obtain ⟨g, h1, h2, h3⟩ := hp
        exact ⟨g, h1, h2, G2.has h3 (by simpa using HT9.nec h3)⟩
      case o11x2 =>
        intro R9 ptrs x hw _ _ _ hE
        obtain ⟨⟨ao, n, h9, o9⟩, _⟩ := hE
        exact opE_new (outC BB ⟨some (W.getD 1 0, mW W p), true, false⟩ 0) rfl (v := ptrs 10) rfl (Gro.refl _) ⟨ao, n, h9, o9⟩
      case o12x2 =>
        intro R9 ptrs x hw _ _ _ hE
        obtain ⟨⟨ao, n, h9, o9⟩, _⟩ := hE
        exact opE_new (outZ BB ⟨some (W.getD 1 0, mW W p), true, false⟩) rfl (run_ext0 _ _ rfl _ _ (by exact h9) _) (Gro.refl _) ⟨ao, n, rfl, o9⟩
      case o13x2 =>
        intro R9 ptrs x hw _ _ _ hE
        obtain ⟨⟨ao, n, h9, o9⟩, _⟩ := hE
        exact opE_value (v := .int .i64 0) rfl (run_ext1 _ _ rfl _ _ (by exact h9) _)
      case o14x2 => exact fun _ _ x hw _ _ _ _ => opE_new (boxZ BB 41 (edA none 0 false false)) rfl (run_alloc_op 41 rfl _ zvD) (gro_alloc _ _) ⟨_, rfl, Nat.le_trans (Nat.le_of_eq hBB.symm) hw.g.size, heap_alloc_new _ _⟩
      case o15x2 =>
        intro R9 ptrs x hw _ he _ hE
        obtain ⟨⟨gq, pq, bq, kq⟩, ⟨ao, n, hv, HO9⟩, _, _, _, _, _, _⟩ := hE
        refine opX_store (.val undef) rfl 41 _ _ rfl gq 0 pq (.agg (edA ao n (⟨some (W.getD 1 0, mW W p), true, false⟩ : Ed).mine (⟨some (W.getD 1 0, mW W p), true, false⟩ : Ed).full)) hv 41 _ kq (edA ao n (⟨some (W.getD 1 0, mW W p), true, false⟩ : Ed).mine (⟨some (W.getD 1 0, mW W p), true, false⟩ : Ed).full) rfl (siD' _ _ _ _) (Nat.le_refl 3) (oneD _ _ _ _) (edA ao n (⟨some (W.getD 1 0, mW W p), true, false⟩ : Ed).mine (⟨some (W.getD 1 0, mW W p), true, false⟩ : Ed).full) (splice_whole _ _ rfl) ?_
        intro w' St
        refine ⟨⟨fun v => hw.store (by decide) (by decide) (he 14 (by kernel_rfl)) (he 10 (by kernel_rfl)) pq bq (Nat.le_trans (Nat.le_of_eq hBB) bq) kq St HO9 v, StM.valsX [0, 1, 2, 3, 4, 5, 6, 7, 8, 9, 13] [10, 11, 12] (by kernel_rfl) ⟨⟨_, rfl⟩, ⟨_, rfl⟩, ⟨_, rfl⟩, ⟨_, rfl⟩, ⟨_, rfl⟩, ⟨_, rfl⟩, ⟨_, rfl⟩, ⟨_, rfl⟩, ⟨_, rfl⟩, ⟨_, rfl⟩, ⟨_, rfl⟩, trivial⟩ (fun j hj v hp => ?_)⟩, rfl⟩
        simp only [List.mem_cons, List.not_mem_nil, or_false] at hj
        rcases hj with rfl | rfl | rfl <;> (obtain ⟨ao3, n3, h3, HO3⟩ := hp; exact ⟨ao3, n3, h3, HO3.st St kq (by decide)⟩)
      intro ptrs w9 hI hxE
      simp only [List.drop_succ_cons, List.drop_zero]
      obtain ⟨_, gX, ao3, n3, hx2, bgX, kgX, HO3⟩ := hI.bx rfl
      simp only [hx2]
      clear hx2 hxE
      have HT2 := hI.t2 rfl
      have G2 := hI.g
      clear hI
      obtain ⟨q3, qa3, qc3, qs3, qt3, qu3, rfl, rfl, kq3, bq3, HQ3⟩ := HO3
      have nq3gX : q3 ≠ gX := fun e => ne_cells kq3 kgX (by decide) (by simp [e])
      have dg1gX : g1 < gX := Nat.lt_of_lt_of_le (hBB ▸ lt_of_heap kg1) bgX
      have dg1q3 : g1 < q3 := Nat.lt_of_lt_of_le (hBB ▸ lt_of_heap kg1) bq3
      have dg2gX : g2 < gX := Nat.lt_of_lt_of_le (hBB ▸ lt_of_heap kg2) bgX
      have dg2q3 : g2 < q3 := Nat.lt_of_lt_of_le (hBB ▸ lt_of_heap kg2) bq3
      have dgFgX : gF < gX := Nat.lt_of_lt_of_le (hBB ▸ lt_of_heap kgF) bgX
      have dgFq3 : gF < q3 := Nat.lt_of_lt_of_le (hBB ▸ lt_of_heap kgF) bq3
      have dgLgX : gL < gX := Nat.lt_of_lt_of_le (hBB ▸ lt_of_heap kgL) bgX
      have dgLq3 : gL < q3 := Nat.lt_of_lt_of_le (hBB ▸ lt_of_heap kgL) bq3
      have dtgX : t < gX := Nat.lt_of_lt_of_le (hBB ▸ lt_of_heap kt) bgX
      have dtq3 : t < q3 := Nat.lt_of_lt_of_le (hBB ▸ lt_of_heap kt) bq3
      have dHRgX := HR.neG (g := gX) (Nat.le_trans (Nat.le_of_eq hBB) bgX)
      have dHB1gX := HB1.neG (g := gX) (Nat.le_trans (Nat.le_of_eq hBB) bgX)
      have dHTtgX := HTt.neG (g := gX) (Nat.le_trans (Nat.le_of_eq hBB) bgX)
      replace bgX := Nat.le_trans (Nat.le_trans GG.size (Nat.le_of_eq hBB)) bgX
      replace bq3 := Nat.le_trans (Nat.le_trans GG.size (Nat.le_of_eq hBB)) bq3
      replace HQ3 := HQ3.mono (Nat.le_trans GG.size (Nat.le_of_eq hBB))
      clear hBB
      replace kg1 := G2.has kg1 (by simpa using HTt.nec kg1)
      replace kg2 := G2.has kg2 (by simpa using HTt.nec kg2)
      replace kgF := G2.has kgF (by simpa using HTt.nec kgF)
      replace kgL := G2.has kgL (by simpa using HTt.nec kgL)
      replace kt := G2.has kt (by simpa using HTt.nec kt)
      replace HR := (HR.gro (Gro.refl _).drew).mapw (HTt.gro (Gro.refl _).drew) G2
      replace HB1 := (HB1.gro (Gro.refl _).drew).mapw (HTt.gro (Gro.refl _).drew) G2
      replace GG := G2.gro GG.drew (by simpa using bb)
      clear HTt G2
      have HTt := HT2
      clear HT2
      refine s_val 14 rfl rfl (.int .i64 0) (rfl) ?_
      refine nr ?_; intro U h; simp only [z0, z1] at h; subst h
      refine wpList_nil ?_
      refine then_n ?_
      refine wp_seq ?_
      refine wp_seq ?_
      refine wp_region_opq ?_
      intro OPS hY
      have y2 := hY 2 76 rfl
      clear hY
      refine s_val 74 rfl rfl (.int .i64 0) (rfl) ?_
      refine nr ?_; intro U h; simp only [z0, z1] at h; subst h
      refine s_val 75 rfl rfl (.bool false) (run_neq_k 42 .i64 _ _ _ rfl Try.underlying42 0 0 rfl rfl false (by decide) _) ?_
      refine nr ?_; intro U h; simp only [z0, z1] at h; subst h
      refine s_val 76 rfl rfl (.bool false) (rfl) ?_
      refine nr ?_; intro U h; simp only [z0, z1] at h; subst h
      refine s_gvalY 77 rfl rfl y2 rfl (.pointer (some ⟨gX, 1, none⟩)) (run_fld 41 _ 1 rfl gX 0 rfl 1 (by kernel_rfl)) ?_
      refine nr ?_; intro U h; simp only [z0, z1] at h; subst h
      refine s_gvalY 78 rfl rfl y2 rfl (.bool true) (ldD_m _ rfl gX rfl (kgX)) ?_
      refine nr ?_; intro U h; simp only [z0, z1] at h; subst h
      refine s_gvalY 79 rfl rfl y2 rfl (.bool false) (run_nt _ _ rfl true rfl) ?_
      refine nr ?_; intro U h; simp only [z0, z1] at h; subst h
      refine s_val 80 rfl rfl (.bool false) (rfl) ?_
      refine nr ?_; intro U h; simp only [z0, z1] at h; subst h
      refine wpList_nil ?_
      refine then_n ?_
      refine wp_cond_false rfl ?_
      refine wp_skip ?_
      refine then_n ?_
      refine wp_seq ?_
      refine wp_seq ?_
      refine wp_region_lit ?_
      refine s_val 15 rfl rfl (.int .i64 0) (rfl) ?_
      refine nr ?_; intro U h; simp only [z0, z1] at h; subst h
      refine wpList_nil ?_
      refine then_n ?_
      refine wp_block ?_
      refine wp_loopN (fun mz az wv => ∃ (i : Nat) (tt : Nat) (bb : Nat) (ax : Option Addr) (nn : Nat) (us2 : Nat → Value), mz = W.length + 1 - i ∧ az = ⟨[.slice ao way.length cap, .agg (paA p), undef, .pointer (some ⟨g1, 0, none⟩), us2 0, .pointer (some ⟨g2, 0, none⟩), undef, us1 0, .slice (some ⟨q1, 0, none⟩) 6 6, .func (.func 22) #[] #[.pointer (some ⟨g2, 0, none⟩)], .pointer (some ⟨gF, 0, none⟩), .pointer (some ⟨gL, 0, none⟩), .pointer (some ⟨tt, 0, none⟩), .pointer (some ⟨gX, 0, none⟩), .int .i64 0, .int .i64 ((i : Nat) : Int), us2 1, us2 2, us2 3, .slice ao way.length cap, .int .i64 ((way.length : Nat) : Int), .int .i64 ((j : Nat) : Int), .bool false, us1 2, us1 3, us1 4, us1 5, us1 6, us1 7, us1 8, us1 9, us1 10, us1 11, us1 12, us1 13, us1 14, us1 15, us1 16, us1 17, us1 18, us1 19, us1 20, .slice aw W.length cw, .int .i64 ((W.length : Nat) : Int), .bool false, .bool false, .bool true, .bool false, .bool false, undef, .slice (some ⟨q1, 0, none⟩) 6 6, .func (.func 22) #[] #[.pointer (some ⟨g2, 0, none⟩)], .func (.func 22) #[] #[.pointer (some ⟨g2, 0, none⟩)], .agg (idA (idW W 0)), .func (.func 22) #[] #[.pointer (some ⟨g2, 0, none⟩)], .slice aw W.length cw, .int .i64 ((W.length : Nat) : Int), .int .i64 ((W.length - 1 : Nat) : Int), .agg (idA (idW W (W.length - 1))), .pointer (some ⟨t, 0, none⟩), ptrs 11, .pointer (some ⟨t, 0, none⟩), .slice aw W.length cw, .pointer (pA aw 0), .int .i64 (W.getD 0 0), .agg (idA (idW W 0)), .agg (seA (W.getD 0 0) (idW W 0)), .agg (paA p), .agg (idA (idW W (W.length - 1))), .slice aw W.length cw, .slice (some ⟨q1, 0, none⟩) 6 6, ptrs 10, ptrs 12, .int .i64 0, .int .i64 0, .bool false, .bool false, .pointer (some ⟨gX, 1, none⟩), .bool true, .bool false, .bool false, us2 4, us2 5, us2 6, us2 7, us2 8, us2 9, us2 10, us2 11, us2 12, us2 13, us2 14, us2 15, us2 16, us2 17, us2 18, us2 19, us2 20, us2 21, us2 22, us2 23, us2 24, us2 25, us2 26, us2 27, us2 28, us2 29, us2 30, us2 31, us2 32, us2 33, us2 34, us2 35, us2 36, us2 37, us2 38, us2 39, us2 40, us2 41, us2 42, us2 43, us2 44, us2 45, us2 46, us2 47, us2 48, us2 49, us2 50, us2 51, us2 52, us2 53, us2 54, us2 55, us2 56, us2 57, us2 58, us2 59, us2 60, us2 61, us2 62, us2 63, us2 64, us2 65, us2 66, us2 67, us2 68, us2 69, us2 70, us2 71, us2 72, us2 73, us2 74, us2 75, us2 76, us2 77, us2 78, us2 79, us2 80, us2 81, us2 82, us2 83, us2 84, us2 85, undef, undef, undef, undef, undef, undef, undef, undef].toArray, []⟩ ∧ i ≤ W.length ∧ Gro w wv ∧ wv.heap[g1]? = some (.cells (paA p) 31 (0, 0)) ∧ wv.heap[g2]? = some (.cells #[.slice aw W.length cw] 32 (0, 0)) ∧ wv.heap[gF]? = some (.cells (idA (idW W 0)) 24 (0, 0)) ∧ wv.heap[gL]? = some (.cells (idA (idW W (W.length - 1))) 24 (0, 0)) ∧ wv.heap[gX]? = some (.cells (edA ax nn (edW W p (i - 1)).mine (edW W p (i - 1)).full) 41 (0, 0)) ∧ OutP wv 0 (edW W p (i - 1)).out ax nn ∧ wv.heap[tt]? = some (.cells (tbA 3 bb) 99 (0, 0)) ∧ TM wv bb [(xW W p (i - 1))] ∧ RC wv aw cw W ∧ RK kB wv (some ⟨q1, 0, none⟩) 6 o6) ?_ _ ⟨0, t, b, (some ⟨q3, 0, none⟩), 1, (fun kz => ([.bool false, undef, undef, undef, undef, undef, undef, undef, undef, undef, undef, undef, undef, undef, undef, undef, undef, undef, undef, undef, undef, undef, undef, undef, undef, undef, undef, undef, undef, undef, undef, undef, undef, undef, undef, undef, undef, undef, undef, undef, undef, undef, undef, undef, undef, undef, undef, undef, undef, undef, undef, undef, undef, undef, undef, undef, undef, undef, undef, undef, undef, undef, undef, undef, undef, undef, undef, undef, undef, undef, undef, undef, undef, undef, undef, undef, undef, undef, undef, undef, undef, undef, undef, undef, undef, undef] : List Value).getD kz undef), rfl, rfl, Nat.zero_le _, GG, kg1, kg2, kgF, kgL, (by rw [edW_mid (show 0 - 1 + 1 < W.length by omega)]; exact kgX), (by rw [edW_mid (show 0 - 1 + 1 < W.length by omega)]; exact ⟨q3, qa3, qc3, qs3, qt3, qu3, rfl, rfl, kq3, Nat.zero_le _, HQ3.mono (Nat.zero_le _)⟩), kt, HTt, HR, HB1⟩
      clear GG kg1 kg2 kgF kgL kgX HR HB1 HTt
      rintro mz az wv ⟨i, tt, bb, ax, nn, us2, rfl, rfl, hi, GG, kg1, kg2, kgF, kgL, kgX, HOx, ktt, HTt, HR, HB1⟩
      refine wp_seq ?_
      refine wp_seq ?_
      refine wp_region_lit ?_
      refine s_val 81 rfl rfl (.int .i64 ((i : Nat) : Int)) (rfl) ?_
      refine nr ?_; intro U h; simp only [z0, z1] at h; subst h
      refine s_val 82 rfl rfl (.slice aw W.length cw) (ldL_0 _ rfl g2 rfl (kg2)) ?_
      refine nr ?_; intro U h; simp only [z0, z1] at h; subst h
      refine s_val 83 rfl rfl (.int .i64 ((W.length : Nat) : Int)) (run_len Try.underlying32 _ rfl _ _ _ rfl _) ?_
      refine nr ?_; intro U h; simp only [z0, z1] at h; subst h
      cases hi1 : decide (((i : Nat) : Int) < ((W.length : Nat) : Int))
      · have hie : i = W.length := by have := of_decide_eq_false hi1; omega
        rw [hie, edW_end h2b] at HOx kgX
        obtain ⟨rfl, rfl⟩ := HOx
        refine s_val 84 rfl rfl (.bool false) (run_lssT 3 _ _ _ rfl ((i : Nat) : Int) ((W.length : Nat) : Int) rfl rfl false hi1 _) ?_
        refine nr ?_; intro U h; simp only [z0, z1] at h; subst h
        refine wpList_nil ?_
        refine then_n ?_
        refine wp_cond_false rfl ?_
        refine wp_exit ?_
        refine then_x ?_
        refine then_x ?_
        refine blk_x ?_
        refine then_n ?_
        refine wp_seq ?_
        refine wp_region_opq ?_
        intro OPS hY
        have y2 := hY 2 165 rfl
        clear hY
        refine s_val 163 rfl rfl (.pointer (some ⟨gX, 1, none⟩)) (run_fld 41 _ 1 rfl gX 0 rfl 1 (by kernel_rfl)) ?_
        refine nr ?_; intro U h; simp only [z0, z1] at h; subst h
        refine s_val 164 rfl rfl (.bool true) (ldD_m _ rfl gX rfl (kgX)) ?_
        refine nr ?_; intro U h; simp only [z0, z1] at h; subst h
        refine s_val 165 rfl rfl (.bool true) (rfl) ?_
        refine nr ?_; intro U h; simp only [z0, z1] at h; subst h
        refine s_gvalY 166 rfl rfl y2 rfl (.pointer (some ⟨gX, 0, none⟩)) (run_fld 41 _ 0 rfl gX 0 rfl 0 (by kernel_rfl)) ?_
        refine nr ?_; intro U h; simp only [z0, z1] at h; subst h
        refine s_gvalY 167 rfl rfl y2 rfl (.slice none 0 0) (ldD_o _ rfl gX rfl (kgX)) ?_
        refine nr ?_; intro U h; simp only [z0, z1] at h; subst h
        refine s_gvalY 168 rfl rfl y2 rfl (.int .i64 0) (run_len Try.underlying39 _ rfl _ _ _ rfl _) ?_
        refine nr ?_; intro U h; simp only [z0, z1] at h; subst h
        refine s_gvalY 169 rfl rfl y2 rfl (.bool true) (run_eq_k 3 .i64 _ _ _ rfl Try.underlying3 0 0 rfl rfl true (by decide) _) ?_
        refine nr ?_; intro U h; simp only [z0, z1] at h; subst h
        refine s_val 170 rfl rfl (.bool true) (rfl) ?_
        refine nr ?_; intro U h; simp only [z0, z1] at h; subst h
        refine s_val 4 rfl rfl (.bool true) (rfl) ?_
        refine nr ?_; intro U h; simp only [z0, z1] at h; subst h
        refine wpList_nil ?_
        refine then_n ?_
        refine wp_ret ?_
        refine bodyPost_ret (results_tmp Try.results6 _ _ _) rfl ?_
        exact ⟨rfl, GG⟩
      · have hil : i < W.length := by have := of_decide_eq_true hi1; omega
        refine s_val 84 rfl rfl (.bool true) (run_lssT 3 _ _ _ rfl ((i : Nat) : Int) ((W.length : Nat) : Int) rfl rfl true hi1 _) ?_
        refine nr ?_; intro U h; simp only [z0, z1] at h; subst h
        refine wpList_nil ?_
        refine then_n ?_
        refine wp_cond_true rfl ?_
        refine wp_skip ?_
        refine then_n ?_
        refine wp_seq ?_
        refine wp_block ?_
        refine wp_seq ?_
        refine wp_seq ?_
        refine wp_region_lit ?_
        refine s_val 87 rfl rfl (.int .i64 ((i : Nat) : Int)) (rfl) ?_
        refine nr ?_; intro U h; simp only [z0, z1] at h; subst h
        cases hi0 : decide ((0 : Int) < ((i : Nat) : Int))
        · have hi0e : i = 0 := by have := of_decide_eq_false hi0; omega
          refine s_val 88 rfl rfl (.bool false) (run_gtrT 3 _ _ _ rfl ((i : Nat) : Int) 0 rfl rfl false hi0 _) ?_
          refine nr ?_; intro U h; simp only [z0, z1] at h; subst h
          refine wpList_nil ?_
          refine then_n ?_
          refine wp_cond_false rfl ?_
          refine wp_skip ?_
          refine then_n ?_
          refine wp_seq ?_
          refine wp_region_lit ?_
          refine s_val 127 rfl rfl (.agg (paA p)) (ldP0 _ rfl g1 rfl (kg1)) ?_
          refine nr ?_; intro U h; simp only [z0, z1] at h; subst h
          refine s_val 128 rfl rfl (.agg (idA (idW W 0))) (ldI0 _ rfl gF rfl (kgF)) ?_
          refine nr ?_; intro U h; simp only [z0, z1] at h; subst h
          refine s_val 129 rfl rfl (.agg (idA (idW W (W.length - 1)))) (ldI0 _ rfl gL rfl (kgL)) ?_
          refine nr ?_; intro U h; simp only [z0, z1] at h; subst h
          refine s_val 130 rfl rfl (.agg (enA (⟨p, idW W 0, idW W (W.length - 1), -1, -1⟩ : En))) (run_bd 73 _ rfl [(0, .agg (paA p)), (1, .agg (idA (idW W 0))), (2, .agg (idA (idW W (W.length - 1)))), (3, .int .i64 (-1)), (4, .int .i64 (-1))] rfl _ (bdE5 _ _ _ _ _ _)) ?_
          refine nr ?_; intro U h; simp only [z0, z1] at h; subst h
          refine s_alloc 16 rfl rfl 73 rfl _ zero33 (enA zE) rfl ?_
          intro w10 g3 G eg3 kg3
          have bg3 := size_base GG eg3
          have dg1g3 := lt_new kg1 eg3
          have dg2g3 := lt_new kg2 eg3
          have dgFg3 := lt_new kgF eg3
          have dgLg3 := lt_new kgL eg3
          have dgXg3 := lt_new kgX eg3
          have dttg3 := lt_new ktt eg3
          have dHTtg3 := HTt.ne eg3
          have dHRg3 := HR.ne eg3
          have dHB1g3 := HB1.ne eg3
          replace kg1 := G.has kg1
          replace kg2 := G.has kg2
          replace kgF := G.has kgF
          replace kgL := G.has kgL
          replace kgX := G.has kgX
          replace ktt := G.has ktt
          replace HOx := HOx.gro G
          replace HTt := HTt.gro G
          replace HR := HR.gro G
          replace HB1 := HB1.gro G
          replace GG := GG.trans G
          clear G
          clear eg3
          refine nr ?_; intro U h; simp only [z0, z1] at h; subst h
          refine s_store rfl rfl 73 _ _ rfl g3 0 rfl (.agg (enA (⟨p, idW W 0, idW W (W.length - 1), -1, -1⟩ : En))) rfl 73 _ kg3 (enA (⟨p, idW W 0, idW W (W.length - 1), -1, -1⟩ : En)) rfl (si33' _) (enA_fit _ _) (enA_one _) (enA (⟨p, idW W 0, idW W (W.length - 1), -1, -1⟩ : En)) (splice_whole _ _ (enA_sz _ _)) ?_
          intro w11 St
          have kS := kg3
          replace kg1 := St.has (fun e => ne_cells kg1 kS (by decide) (by simp [e])) kg1
          replace kg2 := St.has (fun e => ne_cells kg2 kS (by decide) (by simp [e])) kg2
          replace kgF := St.has (fun e => ne_cells kgF kS (by decide) (by simp [e])) kgF
          replace kgL := St.has (fun e => ne_cells kgL kS (by decide) (by simp [e])) kgL
          replace kgX := St.has (fun e => ne_cells kgX kS (by decide) (by simp [e])) kgX
          replace ktt := St.has (fun e => ne_cells ktt kS (by decide) (by simp [e])) ktt
          replace HOx := HOx.st St kS (by decide)
          replace HTt := HTt.st St (HTt.nec kS).symm
          replace HR := HR.st St dHRg3
          replace HB1 := HB1.st St dHB1g3
          replace GG := GG.store St bg3
          replace kg3 := St.new
          clear St
          refine wpList_nil ?_
          refine then_n ?_
          refine wp_seq ?_
          refine wp_seq ?_
          refine wp_region_lit ?_
          refine s_val 131 rfl rfl (.int .i64 ((i : Nat) : Int)) (rfl) ?_
          refine nr ?_; intro U h; simp only [z0, z1] at h; subst h
          refine s_val 132 rfl rfl (.bool false) (run_gtrT 3 _ _ _ rfl ((i : Nat) : Int) 0 rfl rfl false hi0 _) ?_
          refine nr ?_; intro U h; simp only [z0, z1] at h; subst h
          refine wpList_nil ?_
          refine then_n ?_
          refine wp_cond_false rfl ?_
          refine wp_skip ?_
          refine then_n ?_
          refine wp_seq ?_
          refine wp_seq ?_
          refine wp_region_lit ?_
          refine s_val 139 rfl rfl (.int .i64 ((i : Nat) : Int)) (rfl) ?_
          refine nr ?_; intro U h; simp only [z0, z1] at h; subst h
          refine s_val 140 rfl rfl (.int .i64 ((i + 1 : Nat) : Int)) (run_addI 3 _ _ _ rfl ((i : Nat) : Int) 1 ((i + 1 : Nat) : Int) rfl rfl (by omega) (by omega) (by omega) _) ?_
          refine nr ?_; intro U h; simp only [z0, z1] at h; subst h
          refine s_val 141 rfl rfl (.slice aw W.length cw) (ldL_0 _ rfl g2 rfl (kg2)) ?_
          refine nr ?_; intro U h; simp only [z0, z1] at h; subst h
          refine s_val 142 rfl rfl (.int .i64 ((W.length : Nat) : Int)) (run_len Try.underlying32 _ rfl _ _ _ rfl _) ?_
          refine nr ?_; intro U h; simp only [z0, z1] at h; subst h
          cases hm : decide (((i + 1 : Nat) : Int) < ((W.length : Nat) : Int))
          · have hm2 : ¬ i + 1 < W.length := by have := of_decide_eq_false hm; omega
            refine s_val 143 rfl rfl (.bool false) (run_lssT 3 _ _ _ rfl ((i + 1 : Nat) : Int) ((W.length : Nat) : Int) rfl rfl false hm _) ?_
            refine nr ?_; intro U h; simp only [z0, z1] at h; subst h
            refine wpList_nil ?_
            refine then_n ?_
            refine wp_cond_false rfl ?_
            refine wp_skip ?_
            refine then_n ?_
            refine wp_seq ?_
            refine wp_region_lit ?_
            refine s_val 151 rfl rfl (.pointer (some ⟨tt, 0, none⟩)) (rfl) ?_
            refine nr ?_; intro U h; simp only [z0, z1] at h; subst h
            refine s_val 152 rfl rfl (.agg (paA p)) (ldP0 _ rfl g1 rfl (kg1)) ?_
            refine nr ?_; intro U h; simp only [z0, z1] at h; subst h
            refine s_callv 153 rfl rfl _ 19 Try.call19 rfl rfl _ rfl [.pointer (some ⟨tt, 0, none⟩), .agg (paA p)] rfl (Calls.valV (get_any _ tt bb 3 [(xW W p (i - 1))] ktt HTt p hp) (tupW (getW (xW W p (i - 1))).1 (getW (xW W p (i - 1))).2)) ?_
            intro w12 G
            replace kg1 := G.has kg1
            replace kg2 := G.has kg2
            replace kgF := G.has kgF
            replace kgL := G.has kgL
            replace kgX := G.has kgX
            replace ktt := G.has ktt
            replace kg3 := G.has kg3
            replace HOx := HOx.gro G
            replace HTt := HTt.gro G
            replace HR := HR.gro G
            replace HB1 := HB1.gro G
            replace GG := GG.trans G
            clear G
            refine nr ?_; intro U h; simp only [z0, z1] at h; subst h
            refine s_val 150 rfl rfl (.tuple #[.agg (enA (xW W p (i - 1))), .bool true]) (rfl) ?_
            refine nr ?_; intro U h; simp only [z0, z1] at h; subst h
            refine s_val 154 rfl rfl (.agg (enA (xW W p (i - 1)))) (rfl) ?_
            refine nr ?_; intro U h; simp only [z0, z1] at h; subst h
            refine s_val 155 rfl rfl (.bool true) (rfl) ?_
            refine nr ?_; intro U h; simp only [z0, z1] at h; subst h
            refine s_alloc 17 rfl rfl 73 rfl _ zero33 (enA zE) rfl ?_
            intro w13 g4 G eg4 kg4
            have bg4 := size_base GG eg4
            have dg1g4 := lt_new kg1 eg4
            have dg2g4 := lt_new kg2 eg4
            have dgFg4 := lt_new kgF eg4
            have dgLg4 := lt_new kgL eg4
            have dgXg4 := lt_new kgX eg4
            have dttg4 := lt_new ktt eg4
            have dg3g4 := lt_new kg3 eg4
            have dHTtg4 := HTt.ne eg4
            have dHRg4 := HR.ne eg4
            have dHB1g4 := HB1.ne eg4
            replace kg1 := G.has kg1
            replace kg2 := G.has kg2
            replace kgF := G.has kgF
            replace kgL := G.has kgL
            replace kgX := G.has kgX
            replace ktt := G.has ktt
            replace kg3 := G.has kg3
            replace HOx := HOx.gro G
            replace HTt := HTt.gro G
            replace HR := HR.gro G
            replace HB1 := HB1.gro G
            replace GG := GG.trans G
            clear G
            clear eg4
            refine nr ?_; intro U h; simp only [z0, z1] at h; subst h
            refine s_store rfl rfl 73 _ _ rfl g4 0 rfl (.agg (enA (xW W p (i - 1)))) rfl 73 _ kg4 (enA (xW W p (i - 1))) rfl (si33' _) (enA_fit _ _) (enA_one _) (enA (xW W p (i - 1))) (splice_whole _ _ (enA_sz _ _)) ?_
            intro w14 St
            have kS := kg4
            replace kg1 := St.has (fun e => ne_cells kg1 kS (by decide) (by simp [e])) kg1
            replace kg2 := St.has (fun e => ne_cells kg2 kS (by decide) (by simp [e])) kg2
            replace kgF := St.has (fun e => ne_cells kgF kS (by decide) (by simp [e])) kgF
            replace kgL := St.has (fun e => ne_cells kgL kS (by decide) (by simp [e])) kgL
            replace kgX := St.has (fun e => ne_cells kgX kS (by decide) (by simp [e])) kgX
            replace ktt := St.has (fun e => ne_cells ktt kS (by decide) (by simp [e])) ktt
            replace kg3 := St.has (by omega) kg3
            replace HOx := HOx.st St kS (by decide)
            replace HTt := HTt.st St (HTt.nec kS).symm
            replace HR := HR.st St dHRg4
            replace HB1 := HB1.st St dHB1g4
            replace GG := GG.store St bg4
            replace kg4 := St.new
            clear St
            refine s_val 18 rfl rfl (.bool true) (rfl) ?_
            refine nr ?_; intro U h; simp only [z0, z1] at h; subst h
            refine wpList_nil ?_
            refine then_n ?_
            refine wp_seq ?_
            refine wp_region_opq ?_
            intro OPS hY
            have y2 := hY 2 158 rfl
            clear hY
            refine s_val 156 rfl rfl (.bool true) (rfl) ?_
            refine nr ?_; intro U h; simp only [z0, z1] at h; subst h
            refine s_val 157 rfl rfl (.bool false) (run_nt _ _ rfl true rfl) ?_
            refine nr ?_; intro U h; simp only [z0, z1] at h; subst h
            refine s_val 158 rfl rfl (.bool false) (rfl) ?_
            refine nr ?_; intro U h; simp only [z0, z1] at h; subst h
            refine s_gvalY 159 rfl rfl y2 rfl (.agg (enA (xW W p (i - 1)))) (ldE0 _ rfl g4 rfl (kg4)) ?_
            refine nr ?_; intro U h; simp only [z0, z1] at h; subst h
            refine s_gvalY 160 rfl rfl y2 rfl (.agg (enA (⟨p, idW W 0, idW W (W.length - 1), -1, -1⟩ : En))) (ldE0 _ rfl g3 rfl (kg3)) ?_
            refine nr ?_; intro U h; simp only [z0, z1] at h; subst h
            have hwt : (xW W p (i - 1)) = (⟨p, idW W 0, idW W (W.length - 1), -1, -1⟩ : En) := absurd (show i + 1 < W.length by omega) hm2
            have hxok := xW_ok hW hp (i - 1)
            refine s_gvalY 161 rfl rfl y2 rfl (.bool false) (run_neE _ _ _ rfl (xW W p (i - 1)) (⟨p, idW W 0, idW W (W.length - 1), -1, -1⟩ : En) rfl rfl hxok (hwt ▸ hxok) false (decide_eq_true hwt)) ?_
            refine nr ?_; intro U h; simp only [z0, z1] at h; subst h
            refine s_val 162 rfl rfl (.bool false) (rfl) ?_
            refine nr ?_; intro U h; simp only [z0, z1] at h; subst h
            refine wpList_nil ?_
            refine then_n ?_
            refine wp_cond_false rfl ?_
            refine wp_skip ?_
            refine blk_n ?_
            refine then_n ?_
            refine wp_region_lit ?_
            refine s_val 85 rfl rfl (.int .i64 ((i : Nat) : Int)) (rfl) ?_
            refine nr ?_; intro U h; simp only [z0, z1] at h; subst h
            refine s_val 86 rfl rfl (.int .i64 ((i + 1 : Nat) : Int)) (run_addI 3 _ _ _ rfl ((i : Nat) : Int) 1 ((i + 1 : Nat) : Int) rfl rfl (by omega) (by omega) (by omega) _) ?_
            refine nr ?_; intro U h; simp only [z0, z1] at h; subst h
            refine s_val 15 rfl rfl (.int .i64 ((i + 1 : Nat) : Int)) (rfl) ?_
            refine nr ?_; intro U h; simp only [z0, z1] at h; subst h
            refine wpList_nil ?_
            refine then_n ?_
            have hix : i + 1 - 1 = i - 1 := by omega
            exact ⟨W.length + 1 - (i + 1), by omega, i + 1, tt, bb, ax, nn, (fun kz => ([us2 0, .pointer (some ⟨g3, 0, none⟩), .pointer (some ⟨g4, 0, none⟩), .bool true, .int .i64 ((i : Nat) : Int), .slice aw W.length cw, .int .i64 ((W.length : Nat) : Int), .bool true, .int .i64 ((i : Nat) : Int), .int .i64 ((i + 1 : Nat) : Int), .int .i64 ((i : Nat) : Int), .bool false, us2 12, us2 13, us2 14, us2 15, us2 16, us2 17, us2 18, us2 19, us2 20, us2 21, us2 22, us2 23, us2 24, us2 25, us2 26, us2 27, us2 28, us2 29, us2 30, us2 31, us2 32, us2 33, us2 34, us2 35, us2 36, us2 37, us2 38, us2 39, us2 40, us2 41, us2 42, us2 43, us2 44, us2 45, us2 46, us2 47, us2 48, us2 49, .agg (paA p), .agg (idA (idW W 0)), .agg (idA (idW W (W.length - 1))), .agg (enA (⟨p, idW W 0, idW W (W.length - 1), -1, -1⟩ : En)), .int .i64 ((i : Nat) : Int), .bool false, us2 56, us2 57, us2 58, us2 59, us2 60, us2 61, .int .i64 ((i : Nat) : Int), .int .i64 ((i + 1 : Nat) : Int), .slice aw W.length cw, .int .i64 ((W.length : Nat) : Int), .bool false, us2 67, us2 68, us2 69, us2 70, us2 71, us2 72, .tuple #[.agg (enA (xW W p (i - 1))), .bool true], .pointer (some ⟨tt, 0, none⟩), .agg (paA p), .tuple #[.agg (enA (xW W p (i - 1))), .bool true], .agg (enA (xW W p (i - 1))), .bool true, .bool true, .bool false, .bool false, .agg (enA (xW W p (i - 1))), .agg (enA (⟨p, idW W 0, idW W (W.length - 1), -1, -1⟩ : En)), .bool false, .bool false] : List Value).getD kz undef), rfl, rfl, by omega, GG, kg1, kg2, kgF, kgL, (by rw [hix]; exact kgX), (by rw [hix]; exact HOx), ktt, (by rw [hix]; exact HTt), HR, HB1⟩
          · have hm2 : i + 1 < W.length := by have := of_decide_eq_true hm; omega
            refine s_val 143 rfl rfl (.bool true) (run_lssT 3 _ _ _ rfl ((i + 1 : Nat) : Int) ((W.length : Nat) : Int) rfl rfl true hm _) ?_
            refine nr ?_; intro U h; simp only [z0, z1] at h; subst h
            refine wpList_nil ?_
            refine then_n ?_
            refine wp_cond_true rfl ?_
            refine wp_region_lit ?_
            refine s_val 144 rfl rfl (.slice aw W.length cw) (ldL_0 _ rfl g2 rfl (kg2)) ?_
            refine nr ?_; intro U h; simp only [z0, z1] at h; subst h
            refine s_val 145 rfl rfl (.int .i64 ((i : Nat) : Int)) (rfl) ?_
            refine nr ?_; intro U h; simp only [z0, z1] at h; subst h
            refine s_val 146 rfl rfl (.int .i64 ((i + 1 : Nat) : Int)) (run_addI 3 _ _ _ rfl ((i : Nat) : Int) 1 ((i + 1 : Nat) : Int) rfl rfl (by omega) (by omega) (by omega) _) ?_
            refine nr ?_; intro U h; simp only [z0, z1] at h; subst h
            refine s_val 147 rfl rfl (.pointer (pA aw (i + 1))) (run_ixI (HR) _ _ rfl rfl (i + 1) rfl (by omega)) ?_
            refine nr ?_; intro U h; simp only [z0, z1] at h; subst h
            refine s_val 148 rfl rfl (.int .i64 (W.getD (i + 1) 0)) (run_ldI (HR) _ rfl (i + 1) rfl (by omega)) ?_
            refine nr ?_; intro U h; simp only [z0, z1] at h; subst h
            refine s_val 149 rfl rfl (.pointer (some ⟨g3, 50, none⟩)) (run_fld 73 _ 4 rfl g3 0 rfl 50 (by kernel_rfl)) ?_
            refine nr ?_; intro U h; simp only [z0, z1] at h; subst h
            refine s_store rfl rfl 3 _ _ rfl g3 50 rfl (.int .i64 (W.getD (i + 1) 0)) rfl 73 _ kg3 #[.int .i64 (W.getD (i + 1) 0)] rfl (si3) (by rw [enA_size]; show 50 + 1 ≤ 51; omega) (i_one _) (enA (⟨p, idW W 0, idW W (W.length - 1), -1, (W.getD (i + 1) 0)⟩ : En)) (spE_nb _ _) ?_
            intro w12 St
            have kS := kg3
            replace kg1 := St.has (fun e => ne_cells kg1 kS (by decide) (by simp [e])) kg1
            replace kg2 := St.has (fun e => ne_cells kg2 kS (by decide) (by simp [e])) kg2
            replace kgF := St.has (fun e => ne_cells kgF kS (by decide) (by simp [e])) kgF
            replace kgL := St.has (fun e => ne_cells kgL kS (by decide) (by simp [e])) kgL
            replace kgX := St.has (fun e => ne_cells kgX kS (by decide) (by simp [e])) kgX
            replace ktt := St.has (fun e => ne_cells ktt kS (by decide) (by simp [e])) ktt
            replace HOx := HOx.st St kS (by decide)
            replace HTt := HTt.st St (HTt.nec kS).symm
            replace HR := HR.st St dHRg3
            replace HB1 := HB1.st St dHB1g3
            replace GG := GG.store St bg3
            replace kg3 := St.new
            clear St
            refine wpList_nil ?_
            refine then_n ?_
            refine wp_seq ?_
            refine wp_region_lit ?_
            refine s_val 151 rfl rfl (.pointer (some ⟨tt, 0, none⟩)) (rfl) ?_
            refine nr ?_; intro U h; simp only [z0, z1] at h; subst h
            refine s_val 152 rfl rfl (.agg (paA p)) (ldP0 _ rfl g1 rfl (kg1)) ?_
            refine nr ?_; intro U h; simp only [z0, z1] at h; subst h
            refine s_callv 153 rfl rfl _ 19 Try.call19 rfl rfl _ rfl [.pointer (some ⟨tt, 0, none⟩), .agg (paA p)] rfl (Calls.valV (get_any _ tt bb 3 [(xW W p (i - 1))] ktt HTt p hp) (tupW (getW (xW W p (i - 1))).1 (getW (xW W p (i - 1))).2)) ?_
            intro w13 G
            replace kg1 := G.has kg1
            replace kg2 := G.has kg2
            replace kgF := G.has kgF
            replace kgL := G.has kgL
            replace kgX := G.has kgX
            replace ktt := G.has ktt
            replace kg3 := G.has kg3
            replace HOx := HOx.gro G
            replace HTt := HTt.gro G
            replace HR := HR.gro G
            replace HB1 := HB1.gro G
            replace GG := GG.trans G
            clear G
            refine nr ?_; intro U h; simp only [z0, z1] at h; subst h
            refine s_val 150 rfl rfl (.tuple #[.agg (enA (xW W p (i - 1))), .bool true]) (rfl) ?_
            refine nr ?_; intro U h; simp only [z0, z1] at h; subst h
            refine s_val 154 rfl rfl (.agg (enA (xW W p (i - 1)))) (rfl) ?_
            refine nr ?_; intro U h; simp only [z0, z1] at h; subst h
            refine s_val 155 rfl rfl (.bool true) (rfl) ?_
            refine nr ?_; intro U h; simp only [z0, z1] at h; subst h
            refine s_alloc 17 rfl rfl 73 rfl _ zero33 (enA zE) rfl ?_
            intro w14 g4 G eg4 kg4
            have bg4 := size_base GG eg4
            have dg1g4 := lt_new kg1 eg4
            have dg2g4 := lt_new kg2 eg4
            have dgFg4 := lt_new kgF eg4
            have dgLg4 := lt_new kgL eg4
            have dgXg4 := lt_new kgX eg4
            have dttg4 := lt_new ktt eg4
            have dg3g4 := lt_new kg3 eg4
            have dHTtg4 := HTt.ne eg4
            have dHRg4 := HR.ne eg4
            have dHB1g4 := HB1.ne eg4
            replace kg1 := G.has kg1
            replace kg2 := G.has kg2
            replace kgF := G.has kgF
            replace kgL := G.has kgL
            replace kgX := G.has kgX
            replace ktt := G.has ktt
            replace kg3 := G.has kg3
            replace HOx := HOx.gro G
            replace HTt := HTt.gro G
            replace HR := HR.gro G
            replace HB1 := HB1.gro G
            replace GG := GG.trans G
            clear G
            clear eg4
            refine nr ?_; intro U h; simp only [z0, z1] at h; subst h
            refine s_store rfl rfl 73 _ _ rfl g4 0 rfl (.agg (enA (xW W p (i - 1)))) rfl 73 _ kg4 (enA (xW W p (i - 1))) rfl (si33' _) (enA_fit _ _) (enA_one _) (enA (xW W p (i - 1))) (splice_whole _ _ (enA_sz _ _)) ?_
            intro w15 St
            have kS := kg4
            replace kg1 := St.has (fun e => ne_cells kg1 kS (by decide) (by simp [e])) kg1
            replace kg2 := St.has (fun e => ne_cells kg2 kS (by decide) (by simp [e])) kg2
            replace kgF := St.has (fun e => ne_cells kgF kS (by decide) (by simp [e])) kgF
            replace kgL := St.has (fun e => ne_cells kgL kS (by decide) (by simp [e])) kgL
            replace kgX := St.has (fun e => ne_cells kgX kS (by decide) (by simp [e])) kgX
            replace ktt := St.has (fun e => ne_cells ktt kS (by decide) (by simp [e])) ktt
            replace kg3 := St.has (by omega) kg3
            replace HOx := HOx.st St kS (by decide)
            replace HTt := HTt.st St (HTt.nec kS).symm
            replace HR := HR.st St dHRg4
            replace HB1 := HB1.st St dHB1g4
            replace GG := GG.store St bg4
            replace kg4 := St.new
            clear St
            refine s_val 18 rfl rfl (.bool true) (rfl) ?_
            refine nr ?_; intro U h; simp only [z0, z1] at h; subst h
            refine wpList_nil ?_
            refine then_n ?_
            refine wp_seq ?_
            refine wp_region_opq ?_
            intro OPS hY
            have y2 := hY 2 158 rfl
            clear hY
            refine s_val 156 rfl rfl (.bool true) (rfl) ?_
            refine nr ?_; intro U h; simp only [z0, z1] at h; subst h
            refine s_val 157 rfl rfl (.bool false) (run_nt _ _ rfl true rfl) ?_
            refine nr ?_; intro U h; simp only [z0, z1] at h; subst h
            refine s_val 158 rfl rfl (.bool false) (rfl) ?_
            refine nr ?_; intro U h; simp only [z0, z1] at h; subst h
            refine s_gvalY 159 rfl rfl y2 rfl (.agg (enA (xW W p (i - 1)))) (ldE0 _ rfl g4 rfl (kg4)) ?_
            refine nr ?_; intro U h; simp only [z0, z1] at h; subst h
            refine s_gvalY 160 rfl rfl y2 rfl (.agg (enA (⟨p, idW W 0, idW W (W.length - 1), -1, (W.getD (i + 1) 0)⟩ : En))) (ldE0 _ rfl g3 rfl (kg3)) ?_
            refine nr ?_; intro U h; simp only [z0, z1] at h; subst h
            have hwt : (xW W p (i - 1)) = (⟨p, idW W 0, idW W (W.length - 1), -1, (W.getD (i + 1) 0)⟩ : En) := xW_00 hi0e hm2
            have hxok := xW_ok hW hp (i - 1)
            refine s_gvalY 161 rfl rfl y2 rfl (.bool false) (run_neE _ _ _ rfl (xW W p (i - 1)) (⟨p, idW W 0, idW W (W.length - 1), -1, (W.getD (i + 1) 0)⟩ : En) rfl rfl hxok (hwt ▸ hxok) false (decide_eq_true hwt)) ?_
            refine nr ?_; intro U h; simp only [z0, z1] at h; subst h
            refine s_val 162 rfl rfl (.bool false) (rfl) ?_
            refine nr ?_; intro U h; simp only [z0, z1] at h; subst h
            refine wpList_nil ?_
            refine then_n ?_
            refine wp_cond_false rfl ?_
            refine wp_skip ?_
            refine blk_n ?_
            refine then_n ?_
            refine wp_region_lit ?_
            refine s_val 85 rfl rfl (.int .i64 ((i : Nat) : Int)) (rfl) ?_
            refine nr ?_; intro U h; simp only [z0, z1] at h; subst h
            refine s_val 86 rfl rfl (.int .i64 ((i + 1 : Nat) : Int)) (run_addI 3 _ _ _ rfl ((i : Nat) : Int) 1 ((i + 1 : Nat) : Int) rfl rfl (by omega) (by omega) (by omega) _) ?_
            refine nr ?_; intro U h; simp only [z0, z1] at h; subst h
            refine s_val 15 rfl rfl (.int .i64 ((i + 1 : Nat) : Int)) (rfl) ?_
            refine nr ?_; intro U h; simp only [z0, z1] at h; subst h
            refine wpList_nil ?_
            refine then_n ?_
            have hix : i + 1 - 1 = i - 1 := by omega
            exact ⟨W.length + 1 - (i + 1), by omega, i + 1, tt, bb, ax, nn, (fun kz => ([us2 0, .pointer (some ⟨g3, 0, none⟩), .pointer (some ⟨g4, 0, none⟩), .bool true, .int .i64 ((i : Nat) : Int), .slice aw W.length cw, .int .i64 ((W.length : Nat) : Int), .bool true, .int .i64 ((i : Nat) : Int), .int .i64 ((i + 1 : Nat) : Int), .int .i64 ((i : Nat) : Int), .bool false, us2 12, us2 13, us2 14, us2 15, us2 16, us2 17, us2 18, us2 19, us2 20, us2 21, us2 22, us2 23, us2 24, us2 25, us2 26, us2 27, us2 28, us2 29, us2 30, us2 31, us2 32, us2 33, us2 34, us2 35, us2 36, us2 37, us2 38, us2 39, us2 40, us2 41, us2 42, us2 43, us2 44, us2 45, us2 46, us2 47, us2 48, us2 49, .agg (paA p), .agg (idA (idW W 0)), .agg (idA (idW W (W.length - 1))), .agg (enA (⟨p, idW W 0, idW W (W.length - 1), -1, -1⟩ : En)), .int .i64 ((i : Nat) : Int), .bool false, us2 56, us2 57, us2 58, us2 59, us2 60, us2 61, .int .i64 ((i : Nat) : Int), .int .i64 ((i + 1 : Nat) : Int), .slice aw W.length cw, .int .i64 ((W.length : Nat) : Int), .bool true, .slice aw W.length cw, .int .i64 ((i : Nat) : Int), .int .i64 ((i + 1 : Nat) : Int), .pointer (pA aw (i + 1)), .int .i64 (W.getD (i + 1) 0), .pointer (some ⟨g3, 50, none⟩), .tuple #[.agg (enA (xW W p (i - 1))), .bool true], .pointer (some ⟨tt, 0, none⟩), .agg (paA p), .tuple #[.agg (enA (xW W p (i - 1))), .bool true], .agg (enA (xW W p (i - 1))), .bool true, .bool true, .bool false, .bool false, .agg (enA (xW W p (i - 1))), .agg (enA (⟨p, idW W 0, idW W (W.length - 1), -1, (W.getD (i + 1) 0)⟩ : En)), .bool false, .bool false] : List Value).getD kz undef), rfl, rfl, by omega, GG, kg1, kg2, kgF, kgL, (by rw [hix]; exact kgX), (by rw [hix]; exact HOx), ktt, (by rw [hix]; exact HTt), HR, HB1⟩
        · have hip : 0 < i := by have := of_decide_eq_true hi0; omega
          rw [edW_pre hip hil] at HOx kgX
          obtain ⟨qx, qa, qc, qs, qt, qu, rfl, rfl, kqx, _, HQx⟩ := HOx
          refine s_val 88 rfl rfl (.bool true) (run_gtrT 3 _ _ _ rfl ((i : Nat) : Int) 0 rfl rfl true hi0 _) ?_
          refine nr ?_; intro U h; simp only [z0, z1] at h; subst h
          refine wpList_nil ?_
          refine then_n ?_
          refine wp_cond_true rfl ?_
          refine wp_seq ?_
          refine wp_seq ?_
          refine wp_region_exA (A := ?Ax3) 15 [(0, 89), (1, 90), (2, 91), (3, 92), (4, 93), (5, 94), (6, 95), (7, 96), (8, 97), (9, 98), (10, 99), (11, 100), (12, 101), (13, 102), (14, 103)] [.val (.pointer (some ⟨gX, 0, none⟩)), .val (.slice (some ⟨qx, 0, none⟩) 1 1), .val (.int .i64 1), .val (.bool false), .val (.bool false), .val (.pointer (some ⟨gX, 0, none⟩)), .val (.slice (some ⟨qx, 0, none⟩) 1 1), .val (.pointer (some ⟨qx, 0, none⟩)), .val (.pointer (some ⟨qx, 0, none⟩)), .val (.int .i64 (W.getD i 0)), .val (.slice aw W.length cw), .val (.int .i64 ((i : Nat) : Int)), .val (.pointer (pA aw i)), .val (.int .i64 (W.getD i 0)), .val (.bool false)] follows (by kernel_rfl) rfl ?hAx3 (opsA_cons ?o0x3 (opsA_cons ?o1x3 (opsA_cons ?o2x3 (opsA_cons ?o3x3 (opsA_cons ?o4x3 (opsA_cons ?o5x3 (opsA_cons ?o6x3 (opsA_cons ?o7x3 (opsA_cons ?o8x3 (opsA_cons ?o9x3 (opsA_cons ?o10x3 (opsA_cons ?o11x3 (opsA_cons ?o12x3 (opsA_cons ?o13x3 (opsA_cons ?o14x3 opsA_nil))))))))))))))) ?restx3
          case hAx3 =>
            intro ptrs
            simp only [full, foldSlots, filledE, postE, List.foldl_cons, List.foldl_nil, List.getD_cons_zero, List.getD_cons_succ, fill_val, List.set_cons_zero, List.set_cons_succ]
            exact rfl
          case o0x3 => exact fun _ _ _ _ => opE_value (v := .pointer (some ⟨gX, 0, none⟩)) rfl (run_fld 41 _ 0 rfl gX 0 rfl 0 (by kernel_rfl))
          case o1x3 => exact fun _ _ hw _ => opE_value (v := .slice (some ⟨qx, 0, none⟩) 1 1) rfl (ldD_o _ rfl gX rfl (hw.has kgX))
          case o2x3 => exact fun _ _ _ _ => opE_value (v := .int .i64 1) rfl (run_len Try.underlying39 _ rfl _ _ _ rfl _)
          case o3x3 => exact fun _ _ _ _ => opE_value (v := .bool false) rfl (run_neq_k 3 .i64 _ _ _ rfl Try.underlying3 1 1 rfl rfl false (by decide) _)
          case o4x3 => exact fun _ _ _ _ => opE_move (v := .bool false) _ rfl rfl rfl
          case o5x3 => exact fun _ _ _ _ => opE_value (v := .pointer (some ⟨gX, 0, none⟩)) rfl (run_fld 41 _ 0 rfl gX 0 rfl 0 (by kernel_rfl))
          case o6x3 => exact fun _ _ hw _ => opE_value (v := .slice (some ⟨qx, 0, none⟩) 1 1) rfl (ldD_o _ rfl gX rfl (hw.has kgX))
          case o7x3 => exact fun _ _ _ _ => opE_value (v := .pointer (some ⟨qx, 0, none⟩)) rfl (run_ixH qx _ _ rfl rfl rfl)
          case o8x3 => exact fun _ _ _ _ => opE_value (v := .pointer (some ⟨qx, 0, none⟩)) rfl (run_fld 71 _ 0 rfl qx 0 rfl 0 (by kernel_rfl))
          case o9x3 => exact fun _ _ hw _ => opE_value (v := .int .i64 (W.getD i 0)) rfl (ldH_n _ rfl qx rfl (hw.has kqx))
          case o10x3 => exact fun _ _ hw _ => opE_value (v := .slice aw W.length cw) rfl (ldL_0 _ rfl g2 rfl (hw.has kg2))
          case o11x3 => exact fun _ _ _ _ => opE_move (v := .int .i64 ((i : Nat) : Int)) _ rfl rfl rfl
          case o12x3 => exact fun _ _ hw _ => opE_value (v := .pointer (pA aw i)) rfl (run_ixI (HR.gro ((Gro.refl _).drew.trans hw)) _ _ rfl rfl i rfl (by omega))
          case o13x3 => exact fun _ _ hw _ => opE_value (v := .int .i64 (W.getD i 0)) rfl (run_ldI (HR.gro ((Gro.refl _).drew.trans hw)) _ rfl i rfl (by omega))
          case o14x3 => exact fun _ _ _ _ => opE_value (v := .bool false) rfl (run_neq_k 3 .i64 _ _ _ rfl Try.underlying3 (W.getD i 0) (W.getD i 0) rfl rfl false (decide_eq_true rfl) _)
          intro ptrs w10 GD hxE
          simp only [List.drop_succ_cons, List.drop_zero]
          replace kg1 := GD.has kg1
          replace kg2 := GD.has kg2
          replace kgF := GD.has kgF
          replace kgL := GD.has kgL
          replace kgX := GD.has kgX
          replace ktt := GD.has ktt
          replace kqx := GD.has kqx
          replace HTt := HTt.gro ((Gro.refl _).drew.trans GD)
          replace HR := HR.gro ((Gro.refl _).drew.trans GD)
          replace HB1 := HB1.gro ((Gro.refl _).drew.trans GD)
          replace HQx := HQx.gro ((Gro.refl _).drew.trans GD)
          replace GG := GG.drew.trans GD
          clear GD
          refine s_val 104 rfl rfl (.bool false) (rfl) ?_
          refine nr ?_; intro U h; simp only [z0, z1] at h; subst h
          refine wpList_nil ?_
          refine then_n ?_
          refine wp_cond_false rfl ?_
          refine wp_skip ?_
          refine then_n ?_
          refine wp_seq ?_
          refine wp_region_lit ?_
          refine s_callx 105 rfl rfl _ 23 Try.call23 rfl rfl _ rfl [.int .i64 3] rfl (new3 _) (by rintro _ _ ⟨_, _, he, _⟩; exact ⟨_, he⟩) ?_
          rintro v w11 ⟨t2, b2, he, G, kt2, HTt2, h1t2, h2t2⟩
          cases he
          have bt2 := Nat.le_trans GG.size h1t2
          have bb2 := Nat.le_trans GG.size h2t2
          clear h1t2 h2t2
          replace kg1 := G.has kg1
          replace kg2 := G.has kg2
          replace kgF := G.has kgF
          replace kgL := G.has kgL
          replace kgX := G.has kgX
          replace kqx := G.has kqx
          replace HR := HR.gro G
          replace HB1 := HB1.gro G
          replace HQx := HQx.gro G
          replace GG := GG.trans G
          clear G
          refine nr ?_; intro U h; simp only [z0, z1] at h; subst h
          refine s_val 12 rfl rfl (.pointer (some ⟨t2, 0, none⟩)) (rfl) ?_
          refine nr ?_; intro U h; simp only [z0, z1] at h; subst h
          refine wpList_nil ?_
          refine then_n ?_
          refine wp_region_exA (A := ?Ax4) 20 [(0, 106), (1, 107), (2, 108), (3, 109), (4, 110), (5, 111), (6, 112), (7, 113), (8, 114), (9, 115), (10, 116), (11, 117), (12, 118), (13, 119), (14, 120), (15, 121), (16, 122), (17, 123), (18, 124), (19, 125)] [.val (.pointer (some ⟨t2, 0, none⟩)), .val (.slice aw W.length cw), .val (.int .i64 ((i : Nat) : Int)), .val (.pointer (pA aw i)), .val (.int .i64 (W.getD i 0)), .val (.func (.func 22) #[] #[.pointer (some ⟨g2, 0, none⟩)]), .val (.int .i64 ((i : Nat) : Int)), .val (.agg (idA (idW W i))), .val (.agg (seA (W.getD i 0) (idW W i))), .val (.slice aw W.length cw), .val (.int .i64 ((i : Nat) : Int)), .val (.int .i64 ((i - 1 : Nat) : Int)), .val (.pointer (pA aw (i - 1))), .val (.int .i64 (W.getD (i - 1) 0)), .val (.pointer (some ⟨gX, 0, none⟩)), .val (.slice (some ⟨qx, 0, none⟩) 1 1), .val (.pointer (some ⟨qx, 0, none⟩)), .val (.pointer (some ⟨qx, 1, none⟩)), .val (.agg (frA (frY (mW W p) qa qc (gz qs qt qu)))), .val (.slice (some ⟨q1, 0, none⟩) 6 6)] follows (by kernel_rfl) rfl ?hAx4 (opsA_cons ?o0x4 (opsA_cons ?o1x4 (opsA_cons ?o2x4 (opsA_cons ?o3x4 (opsA_cons ?o4x4 (opsA_cons ?o5x4 (opsA_cons ?o6x4 (opsA_cons ?o7x4 (opsA_cons ?o8x4 (opsA_cons ?o9x4 (opsA_cons ?o10x4 (opsA_cons ?o11x4 (opsA_cons ?o12x4 (opsA_cons ?o13x4 (opsA_cons ?o14x4 (opsA_cons ?o15x4 (opsA_cons ?o16x4 (opsA_cons ?o17x4 (opsA_cons ?o18x4 (opsA_cons ?o19x4 opsA_nil)))))))))))))))))))) ?restx4
          case hAx4 =>
            intro ptrs
            simp only [full, foldSlots, filledE, postE, List.foldl_cons, List.foldl_nil, List.getD_cons_zero, List.getD_cons_succ, fill_val, List.set_cons_zero, List.set_cons_succ]
            exact rfl
          case o0x4 => exact fun _ _ _ _ => opE_move (v := .pointer (some ⟨t2, 0, none⟩)) _ rfl rfl rfl
          case o1x4 => exact fun _ _ hw _ => opE_value (v := .slice aw W.length cw) rfl (ldL_0 _ rfl g2 rfl (hw.has kg2))
          case o2x4 => exact fun _ _ _ _ => opE_move (v := .int .i64 ((i : Nat) : Int)) _ rfl rfl rfl
          case o3x4 => exact fun _ _ hw _ => opE_value (v := .pointer (pA aw i)) rfl (run_ixI (HR.gro ((Gro.refl _).drew.trans hw)) _ _ rfl rfl i rfl (by omega))
          case o4x4 => exact fun _ _ hw _ => opE_value (v := .int .i64 (W.getD i 0)) rfl (run_ldI (HR.gro ((Gro.refl _).drew.trans hw)) _ rfl i rfl (by omega))
          case o5x4 => exact fun _ _ _ _ => opE_move (v := .func (.func 22) #[] #[.pointer (some ⟨g2, 0, none⟩)]) _ rfl rfl rfl
          case o6x4 => exact fun _ _ _ _ => opE_move (v := .int .i64 ((i : Nat) : Int)) _ rfl rfl rfl
          case o7x4 => exact fun _ _ hw _ => opE_callF (.val (.agg (idA (idW W i)))) rfl _ 22 #[.pointer (some ⟨g2, 0, none⟩)] Try.call22 rfl _ rfl rfl _ rfl [.int .i64 ((i : Nat) : Int)] rfl ((idW_any _ W hW g2 aw cw (hw.has kg2) (HR.gro ((Gro.refl _).drew.trans hw)) i (by omega)).mono fun e w' ⟨he, hg⟩ => ⟨_, he, hg, rfl⟩)
          case o8x4 => exact fun _ _ _ _ => opE_value (v := .agg (seA (W.getD i 0) (idW W i))) rfl (run_bd 26 _ rfl [(0, .int .i64 (W.getD i 0)), (1, .agg (idA (idW W i)))] rfl _ (bdS2 _ _ _))
          case o9x4 => exact fun _ _ hw _ => opE_value (v := .slice aw W.length cw) rfl (ldL_0 _ rfl g2 rfl (hw.has kg2))
          case o10x4 => exact fun _ _ _ _ => opE_move (v := .int .i64 ((i : Nat) : Int)) _ rfl rfl rfl
          case o11x4 => exact fun _ _ _ _ => opE_value (v := .int .i64 ((i - 1 : Nat) : Int)) rfl (run_subI 3 _ _ _ rfl ((i : Nat) : Int) 1 ((i - 1 : Nat) : Int) rfl rfl (by omega) (by omega) (by omega) _)
          case o12x4 => exact fun _ _ hw _ => opE_value (v := .pointer (pA aw (i - 1))) rfl (run_ixI (HR.gro ((Gro.refl _).drew.trans hw)) _ _ rfl rfl (i - 1) rfl (by omega))
          case o13x4 => exact fun _ _ hw _ => opE_value (v := .int .i64 (W.getD (i - 1) 0)) rfl (run_ldI (HR.gro ((Gro.refl _).drew.trans hw)) _ rfl (i - 1) rfl (by omega))
          case o14x4 => exact fun _ _ _ _ => opE_value (v := .pointer (some ⟨gX, 0, none⟩)) rfl (run_fld 41 _ 0 rfl gX 0 rfl 0 (by kernel_rfl))
          case o15x4 => exact fun _ _ hw _ => opE_value (v := .slice (some ⟨qx, 0, none⟩) 1 1) rfl (ldD_o _ rfl gX rfl (hw.has kgX))
          case o16x4 => exact fun _ _ _ _ => opE_value (v := .pointer (some ⟨qx, 0, none⟩)) rfl (run_ixH qx _ _ rfl rfl rfl)
          case o17x4 => exact fun _ _ _ _ => opE_value (v := .pointer (some ⟨qx, 1, none⟩)) rfl (run_fld 71 _ 1 rfl qx 0 rfl 1 (by kernel_rfl))
          case o18x4 => exact fun _ _ hw _ => opE_value (v := .agg (frA (frY (mW W p) qa qc (gz qs qt qu)))) rfl (ldH_f _ rfl qx rfl (hw.has kqx))
          case o19x4 => exact fun _ _ _ _ => opE_move (v := .slice (some ⟨q1, 0, none⟩) 6 6) _ rfl rfl rfl
          intro ptrs w12 GD hxE
          simp only [List.drop_succ_cons, List.drop_zero]
          replace kg1 := GD.has kg1
          replace kg2 := GD.has kg2
          replace kgF := GD.has kgF
          replace kgL := GD.has kgL
          replace kgX := GD.has kgX
          replace kqx := GD.has kqx
          replace kt2 := GD.has kt2
          replace HR := HR.gro ((Gro.refl _).drew.trans GD)
          replace HB1 := HB1.gro ((Gro.refl _).drew.trans GD)
          replace HQx := HQx.gro ((Gro.refl _).drew.trans GD)
          replace HTt2 := HTt2.gro ((Gro.refl _).drew.trans GD)
          replace GG := GG.drew.trans GD
          clear GD
          refine s_callx 126 rfl rfl _ 16 Try.call16 rfl rfl _ rfl [.pointer (some ⟨t2, 0, none⟩), .agg (seA (W.getD i 0) (idW W i)), .int .i64 (W.getD (i - 1) 0), .agg (frA (frY (mW W p) qa qc (gz qs qt qu))), .slice (some ⟨q1, 0, none⟩) 6 6] rfl (take_eq _ t2 b2 3 [] kt2 HTt2 (W.getD i 0) (idW W i) (idW_top hW i) (W.getD (i - 1) 0) (hW.i64 _) (mW W p) (mW_ok hW hp) qa qc (gz qs qt qu) (dM (mW W p)) HQx.w rfl hWI (by show W.length ≤ _; omega) (HQx.s (by show W.length ≤ _; omega)) (some ⟨q1, 0, none⟩) 6 o6 HB1 (edW W p i) [(xW W p i)] (W_take hW h2b (by omega) hil).1 (W_take hW h2b (by omega) hil).2) (by rintro _ _ ⟨_, _, he, _⟩; exact ⟨_, he⟩) ?_
          rintro v w13 ⟨ao5, n5, he, HO5, HT2, G2⟩
          cases he
          replace HO5 := HO5.mono GG.size
          replace kg1 := G2.has kg1 (by simpa using HTt2.nec kg1)
          replace kg2 := G2.has kg2 (by simpa using HTt2.nec kg2)
          replace kgF := G2.has kgF (by simpa using HTt2.nec kgF)
          replace kgL := G2.has kgL (by simpa using HTt2.nec kgL)
          replace kgX := G2.has kgX (by simpa using HTt2.nec kgX)
          replace kqx := G2.has kqx (by simpa using HTt2.nec kqx)
          replace kt2 := G2.has kt2 (by simpa using HTt2.nec kt2)
          replace HR := HR.mapw HTt2 G2
          replace HB1 := HB1.mapw HTt2 G2
          replace HQx := HQx.mapw HTt2 G2
          replace GG := G2.gro GG (by simpa using bb2)
          clear HTt2 G2
          have HTt2 := HT2
          clear HT2
          refine nr ?_; intro U h; simp only [z0, z1] at h; subst h
          refine s_store rfl rfl 41 _ _ rfl gX 0 rfl (.agg (edA ao5 n5 (edW W p i).mine (edW W p i).full)) rfl 41 _ kgX (edA ao5 n5 (edW W p i).mine (edW W p i).full) rfl (siD' _ _ _ _) (Nat.le_refl _) (oneD _ _ _ _) (edA ao5 n5 (edW W p i).mine (edW W p i).full) (splice_whole _ _ (rfl)) ?_
          intro w14 St
          have kS := kgX
          replace kg1 := St.has (fun e => ne_cells kg1 kS (by decide) (by simp [e])) kg1
          replace kg2 := St.has (fun e => ne_cells kg2 kS (by decide) (by simp [e])) kg2
          replace kgF := St.has (fun e => ne_cells kgF kS (by decide) (by simp [e])) kgF
          replace kgL := St.has (fun e => ne_cells kgL kS (by decide) (by simp [e])) kgL
          replace kqx := St.has (fun e => ne_cells kqx kS (by decide) (by simp [e])) kqx
          replace kt2 := St.has (fun e => ne_cells kt2 kS (by decide) (by simp [e])) kt2
          replace HR := HR.st St dHRgX
          replace HB1 := HB1.st St dHB1gX
          replace HQx := HQx.st St kS (by decide)
          replace HTt2 := HTt2.st St (HTt2.nec kS).symm
          replace HO5 := HO5.st St kS (by decide)
          replace GG := GG.store St bgX
          replace kgX := St.new
          clear St
          refine wpList_nil ?_
          refine then_n ?_
          refine wp_seq ?_
          refine wp_region_lit ?_
          refine s_val 127 rfl rfl (.agg (paA p)) (ldP0 _ rfl g1 rfl (kg1)) ?_
          refine nr ?_; intro U h; simp only [z0, z1] at h; subst h
          refine s_val 128 rfl rfl (.agg (idA (idW W 0))) (ldI0 _ rfl gF rfl (kgF)) ?_
          refine nr ?_; intro U h; simp only [z0, z1] at h; subst h
          refine s_val 129 rfl rfl (.agg (idA (idW W (W.length - 1)))) (ldI0 _ rfl gL rfl (kgL)) ?_
          refine nr ?_; intro U h; simp only [z0, z1] at h; subst h
          refine s_val 130 rfl rfl (.agg (enA (⟨p, idW W 0, idW W (W.length - 1), -1, -1⟩ : En))) (run_bd 73 _ rfl [(0, .agg (paA p)), (1, .agg (idA (idW W 0))), (2, .agg (idA (idW W (W.length - 1)))), (3, .int .i64 (-1)), (4, .int .i64 (-1))] rfl _ (bdE5 _ _ _ _ _ _)) ?_
          refine nr ?_; intro U h; simp only [z0, z1] at h; subst h
          refine s_alloc 16 rfl rfl 73 rfl _ zero33 (enA zE) rfl ?_
          intro w15 g3 G eg3 kg3
          have bg3 := size_base GG eg3
          have dg1g3 := lt_new kg1 eg3
          have dg2g3 := lt_new kg2 eg3
          have dgFg3 := lt_new kgF eg3
          have dgLg3 := lt_new kgL eg3
          have dgXg3 := lt_new kgX eg3
          have dqxg3 := lt_new kqx eg3
          have dt2g3 := lt_new kt2 eg3
          have dHRg3 := HR.ne eg3
          have dHB1g3 := HB1.ne eg3
          have dHTt2g3 := HTt2.ne eg3
          replace kg1 := G.has kg1
          replace kg2 := G.has kg2
          replace kgF := G.has kgF
          replace kgL := G.has kgL
          replace kgX := G.has kgX
          replace kqx := G.has kqx
          replace kt2 := G.has kt2
          replace HR := HR.gro G
          replace HB1 := HB1.gro G
          replace HQx := HQx.gro G
          replace HTt2 := HTt2.gro G
          replace HO5 := HO5.gro G
          replace GG := GG.trans G
          clear G
          clear eg3
          refine nr ?_; intro U h; simp only [z0, z1] at h; subst h
          refine s_store rfl rfl 73 _ _ rfl g3 0 rfl (.agg (enA (⟨p, idW W 0, idW W (W.length - 1), -1, -1⟩ : En))) rfl 73 _ kg3 (enA (⟨p, idW W 0, idW W (W.length - 1), -1, -1⟩ : En)) rfl (si33' _) (enA_fit _ _) (enA_one _) (enA (⟨p, idW W 0, idW W (W.length - 1), -1, -1⟩ : En)) (splice_whole _ _ (enA_sz _ _)) ?_
          intro w16 St
          have kS := kg3
          replace kg1 := St.has (fun e => ne_cells kg1 kS (by decide) (by simp [e])) kg1
          replace kg2 := St.has (fun e => ne_cells kg2 kS (by decide) (by simp [e])) kg2
          replace kgF := St.has (fun e => ne_cells kgF kS (by decide) (by simp [e])) kgF
          replace kgL := St.has (fun e => ne_cells kgL kS (by decide) (by simp [e])) kgL
          replace kgX := St.has (fun e => ne_cells kgX kS (by decide) (by simp [e])) kgX
          replace kqx := St.has (fun e => ne_cells kqx kS (by decide) (by simp [e])) kqx
          replace kt2 := St.has (fun e => ne_cells kt2 kS (by decide) (by simp [e])) kt2
          replace HR := HR.st St dHRg3
          replace HB1 := HB1.st St dHB1g3
          replace HQx := HQx.st St kS (by decide)
          replace HTt2 := HTt2.st St (HTt2.nec kS).symm
          replace HO5 := HO5.st St kS (by decide)
          replace GG := GG.store St bg3
          replace kg3 := St.new
          clear St
          refine wpList_nil ?_
          refine then_n ?_
          refine wp_seq ?_
          refine wp_seq ?_
          refine wp_region_lit ?_
          refine s_val 131 rfl rfl (.int .i64 ((i : Nat) : Int)) (rfl) ?_
          refine nr ?_; intro U h; simp only [z0, z1] at h; subst h
          refine s_val 132 rfl rfl (.bool true) (run_gtrT 3 _ _ _ rfl ((i : Nat) : Int) 0 rfl rfl true hi0 _) ?_
          refine nr ?_; intro U h; simp only [z0, z1] at h; subst h
          refine wpList_nil ?_
          refine then_n ?_
          refine wp_cond_true rfl ?_
          refine wp_region_lit ?_
          refine s_val 133 rfl rfl (.slice aw W.length cw) (ldL_0 _ rfl g2 rfl (kg2)) ?_
          refine nr ?_; intro U h; simp only [z0, z1] at h; subst h
          refine s_val 134 rfl rfl (.int .i64 ((i : Nat) : Int)) (rfl) ?_
          refine nr ?_; intro U h; simp only [z0, z1] at h; subst h
          refine s_val 135 rfl rfl (.int .i64 ((i - 1 : Nat) : Int)) (run_subI 3 _ _ _ rfl ((i : Nat) : Int) 1 ((i - 1 : Nat) : Int) rfl rfl (by omega) (by omega) (by omega) _) ?_
          refine nr ?_; intro U h; simp only [z0, z1] at h; subst h
          refine s_val 136 rfl rfl (.pointer (pA aw (i - 1))) (run_ixI (HR) _ _ rfl rfl (i - 1) rfl (by omega)) ?_
          refine nr ?_; intro U h; simp only [z0, z1] at h; subst h
          refine s_val 137 rfl rfl (.int .i64 (W.getD (i - 1) 0)) (run_ldI (HR) _ rfl (i - 1) rfl (by omega)) ?_
          refine nr ?_; intro U h; simp only [z0, z1] at h; subst h
          refine s_val 138 rfl rfl (.pointer (some ⟨g3, 49, none⟩)) (run_fld 73 _ 3 rfl g3 0 rfl 49 (by kernel_rfl)) ?_
          refine nr ?_; intro U h; simp only [z0, z1] at h; subst h
          refine s_store rfl rfl 3 _ _ rfl g3 49 rfl (.int .i64 (W.getD (i - 1) 0)) rfl 73 _ kg3 #[.int .i64 (W.getD (i - 1) 0)] rfl (si3) (by rw [enA_size]; show 49 + 1 ≤ 51; omega) (i_one _) (enA (⟨p, idW W 0, idW W (W.length - 1), (W.getD (i - 1) 0), -1⟩ : En)) (spE_na _ _) ?_
          intro w17 St
          have kS := kg3
          replace kg1 := St.has (fun e => ne_cells kg1 kS (by decide) (by simp [e])) kg1
          replace kg2 := St.has (fun e => ne_cells kg2 kS (by decide) (by simp [e])) kg2
          replace kgF := St.has (fun e => ne_cells kgF kS (by decide) (by simp [e])) kgF
          replace kgL := St.has (fun e => ne_cells kgL kS (by decide) (by simp [e])) kgL
          replace kgX := St.has (fun e => ne_cells kgX kS (by decide) (by simp [e])) kgX
          replace kqx := St.has (fun e => ne_cells kqx kS (by decide) (by simp [e])) kqx
          replace kt2 := St.has (fun e => ne_cells kt2 kS (by decide) (by simp [e])) kt2
          replace HR := HR.st St dHRg3
          replace HB1 := HB1.st St dHB1g3
          replace HQx := HQx.st St kS (by decide)
          replace HTt2 := HTt2.st St (HTt2.nec kS).symm
          replace HO5 := HO5.st St kS (by decide)
          replace GG := GG.store St bg3
          replace kg3 := St.new
          clear St
          refine wpList_nil ?_
          refine then_n ?_
          refine wp_seq ?_
          refine wp_seq ?_
          refine wp_region_lit ?_
          refine s_val 139 rfl rfl (.int .i64 ((i : Nat) : Int)) (rfl) ?_
          refine nr ?_; intro U h; simp only [z0, z1] at h; subst h
          refine s_val 140 rfl rfl (.int .i64 ((i + 1 : Nat) : Int)) (run_addI 3 _ _ _ rfl ((i : Nat) : Int) 1 ((i + 1 : Nat) : Int) rfl rfl (by omega) (by omega) (by omega) _) ?_
          refine nr ?_; intro U h; simp only [z0, z1] at h; subst h
          refine s_val 141 rfl rfl (.slice aw W.length cw) (ldL_0 _ rfl g2 rfl (kg2)) ?_
          refine nr ?_; intro U h; simp only [z0, z1] at h; subst h
          refine s_val 142 rfl rfl (.int .i64 ((W.length : Nat) : Int)) (run_len Try.underlying32 _ rfl _ _ _ rfl _) ?_
          refine nr ?_; intro U h; simp only [z0, z1] at h; subst h
          cases hm : decide (((i + 1 : Nat) : Int) < ((W.length : Nat) : Int))
          · have hm2 : ¬ i + 1 < W.length := by have := of_decide_eq_false hm; omega
            refine s_val 143 rfl rfl (.bool false) (run_lssT 3 _ _ _ rfl ((i + 1 : Nat) : Int) ((W.length : Nat) : Int) rfl rfl false hm _) ?_
            refine nr ?_; intro U h; simp only [z0, z1] at h; subst h
            refine wpList_nil ?_
            refine then_n ?_
            refine wp_cond_false rfl ?_
            refine wp_skip ?_
            refine then_n ?_
            refine wp_seq ?_
            refine wp_region_lit ?_
            refine s_val 151 rfl rfl (.pointer (some ⟨t2, 0, none⟩)) (rfl) ?_
            refine nr ?_; intro U h; simp only [z0, z1] at h; subst h
            refine s_val 152 rfl rfl (.agg (paA p)) (ldP0 _ rfl g1 rfl (kg1)) ?_
            refine nr ?_; intro U h; simp only [z0, z1] at h; subst h
            refine s_callv 153 rfl rfl _ 19 Try.call19 rfl rfl _ rfl [.pointer (some ⟨t2, 0, none⟩), .agg (paA p)] rfl (Calls.valV (get_any _ t2 b2 3 [(xW W p i)] kt2 HTt2 p hp) (tupW (getW (xW W p i)).1 (getW (xW W p i)).2)) ?_
            intro w18 G
            replace kg1 := G.has kg1
            replace kg2 := G.has kg2
            replace kgF := G.has kgF
            replace kgL := G.has kgL
            replace kgX := G.has kgX
            replace kqx := G.has kqx
            replace kt2 := G.has kt2
            replace kg3 := G.has kg3
            replace HR := HR.gro G
            replace HB1 := HB1.gro G
            replace HQx := HQx.gro G
            replace HTt2 := HTt2.gro G
            replace HO5 := HO5.gro G
            replace GG := GG.trans G
            clear G
            refine nr ?_; intro U h; simp only [z0, z1] at h; subst h
            refine s_val 150 rfl rfl (.tuple #[.agg (enA (xW W p i)), .bool true]) (rfl) ?_
            refine nr ?_; intro U h; simp only [z0, z1] at h; subst h
            refine s_val 154 rfl rfl (.agg (enA (xW W p i))) (rfl) ?_
            refine nr ?_; intro U h; simp only [z0, z1] at h; subst h
            refine s_val 155 rfl rfl (.bool true) (rfl) ?_
            refine nr ?_; intro U h; simp only [z0, z1] at h; subst h
            refine s_alloc 17 rfl rfl 73 rfl _ zero33 (enA zE) rfl ?_
            intro w19 g4 G eg4 kg4
            have bg4 := size_base GG eg4
            have dg1g4 := lt_new kg1 eg4
            have dg2g4 := lt_new kg2 eg4
            have dgFg4 := lt_new kgF eg4
            have dgLg4 := lt_new kgL eg4
            have dgXg4 := lt_new kgX eg4
            have dqxg4 := lt_new kqx eg4
            have dt2g4 := lt_new kt2 eg4
            have dg3g4 := lt_new kg3 eg4
            have dHRg4 := HR.ne eg4
            have dHB1g4 := HB1.ne eg4
            have dHTt2g4 := HTt2.ne eg4
            replace kg1 := G.has kg1
            replace kg2 := G.has kg2
            replace kgF := G.has kgF
            replace kgL := G.has kgL
            replace kgX := G.has kgX
            replace kqx := G.has kqx
            replace kt2 := G.has kt2
            replace kg3 := G.has kg3
            replace HR := HR.gro G
            replace HB1 := HB1.gro G
            replace HQx := HQx.gro G
            replace HTt2 := HTt2.gro G
            replace HO5 := HO5.gro G
            replace GG := GG.trans G
            clear G
            clear eg4
            refine nr ?_; intro U h; simp only [z0, z1] at h; subst h
            refine s_store rfl rfl 73 _ _ rfl g4 0 rfl (.agg (enA (xW W p i))) rfl 73 _ kg4 (enA (xW W p i)) rfl (si33' _) (enA_fit _ _) (enA_one _) (enA (xW W p i)) (splice_whole _ _ (enA_sz _ _)) ?_
            intro w20 St
            have kS := kg4
            replace kg1 := St.has (fun e => ne_cells kg1 kS (by decide) (by simp [e])) kg1
            replace kg2 := St.has (fun e => ne_cells kg2 kS (by decide) (by simp [e])) kg2
            replace kgF := St.has (fun e => ne_cells kgF kS (by decide) (by simp [e])) kgF
            replace kgL := St.has (fun e => ne_cells kgL kS (by decide) (by simp [e])) kgL
            replace kgX := St.has (fun e => ne_cells kgX kS (by decide) (by simp [e])) kgX
            replace kqx := St.has (fun e => ne_cells kqx kS (by decide) (by simp [e])) kqx
            replace kt2 := St.has (fun e => ne_cells kt2 kS (by decide) (by simp [e])) kt2
            replace kg3 := St.has (by omega) kg3
            replace HR := HR.st St dHRg4
            replace HB1 := HB1.st St dHB1g4
            replace HQx := HQx.st St kS (by decide)
            replace HTt2 := HTt2.st St (HTt2.nec kS).symm
            replace HO5 := HO5.st St kS (by decide)
            replace GG := GG.store St bg4
            replace kg4 := St.new
            clear St
            refine s_val 18 rfl rfl (.bool true) (rfl) ?_
            refine nr ?_; intro U h; simp only [z0, z1] at h; subst h
            refine wpList_nil ?_
            refine then_n ?_
            refine wp_seq ?_
            refine wp_region_opq ?_
            intro OPS hY
            have y2 := hY 2 158 rfl
            clear hY
            refine s_val 156 rfl rfl (.bool true) (rfl) ?_
            refine nr ?_; intro U h; simp only [z0, z1] at h; subst h
            refine s_val 157 rfl rfl (.bool false) (run_nt _ _ rfl true rfl) ?_
            refine nr ?_; intro U h; simp only [z0, z1] at h; subst h
            refine s_val 158 rfl rfl (.bool false) (rfl) ?_
            refine nr ?_; intro U h; simp only [z0, z1] at h; subst h
            refine s_gvalY 159 rfl rfl y2 rfl (.agg (enA (xW W p i))) (ldE0 _ rfl g4 rfl (kg4)) ?_
            refine nr ?_; intro U h; simp only [z0, z1] at h; subst h
            refine s_gvalY 160 rfl rfl y2 rfl (.agg (enA (⟨p, idW W 0, idW W (W.length - 1), (W.getD (i - 1) 0), -1⟩ : En))) (ldE0 _ rfl g3 rfl (kg3)) ?_
            refine nr ?_; intro U h; simp only [z0, z1] at h; subst h
            have hwt : (xW W p i) = (⟨p, idW W 0, idW W (W.length - 1), (W.getD (i - 1) 0), -1⟩ : En) := xW_end hip hm2
            have hxok := xW_ok hW hp i
            refine s_gvalY 161 rfl rfl y2 rfl (.bool false) (run_neE _ _ _ rfl (xW W p i) (⟨p, idW W 0, idW W (W.length - 1), (W.getD (i - 1) 0), -1⟩ : En) rfl rfl hxok (hwt ▸ hxok) false (decide_eq_true hwt)) ?_
            refine nr ?_; intro U h; simp only [z0, z1] at h; subst h
            refine s_val 162 rfl rfl (.bool false) (rfl) ?_
            refine nr ?_; intro U h; simp only [z0, z1] at h; subst h
            refine wpList_nil ?_
            refine then_n ?_
            refine wp_cond_false rfl ?_
            refine wp_skip ?_
            refine blk_n ?_
            refine then_n ?_
            refine wp_region_lit ?_
            refine s_val 85 rfl rfl (.int .i64 ((i : Nat) : Int)) (rfl) ?_
            refine nr ?_; intro U h; simp only [z0, z1] at h; subst h
            refine s_val 86 rfl rfl (.int .i64 ((i + 1 : Nat) : Int)) (run_addI 3 _ _ _ rfl ((i : Nat) : Int) 1 ((i + 1 : Nat) : Int) rfl rfl (by omega) (by omega) (by omega) _) ?_
            refine nr ?_; intro U h; simp only [z0, z1] at h; subst h
            refine s_val 15 rfl rfl (.int .i64 ((i + 1 : Nat) : Int)) (rfl) ?_
            refine nr ?_; intro U h; simp only [z0, z1] at h; subst h
            refine wpList_nil ?_
            refine then_n ?_
            exact ⟨W.length + 1 - (i + 1), by omega, i + 1, t2, b2, ao5, n5, (fun kz => ([us2 0, .pointer (some ⟨g3, 0, none⟩), .pointer (some ⟨g4, 0, none⟩), .bool true, .int .i64 ((i : Nat) : Int), .slice aw W.length cw, .int .i64 ((W.length : Nat) : Int), .bool true, .int .i64 ((i : Nat) : Int), .int .i64 ((i + 1 : Nat) : Int), .int .i64 ((i : Nat) : Int), .bool true, .pointer (some ⟨gX, 0, none⟩), .slice (some ⟨qx, 0, none⟩) 1 1, .int .i64 1, .bool false, .bool false, .pointer (some ⟨gX, 0, none⟩), .slice (some ⟨qx, 0, none⟩) 1 1, .pointer (some ⟨qx, 0, none⟩), .pointer (some ⟨qx, 0, none⟩), .int .i64 (W.getD i 0), .slice aw W.length cw, .int .i64 ((i : Nat) : Int), .pointer (pA aw i), .int .i64 (W.getD i 0), .bool false, .bool false, .pointer (some ⟨t2, 0, none⟩), .pointer (some ⟨t2, 0, none⟩), .slice aw W.length cw, .int .i64 ((i : Nat) : Int), .pointer (pA aw i), .int .i64 (W.getD i 0), .func (.func 22) #[] #[.pointer (some ⟨g2, 0, none⟩)], .int .i64 ((i : Nat) : Int), .agg (idA (idW W i)), .agg (seA (W.getD i 0) (idW W i)), .slice aw W.length cw, .int .i64 ((i : Nat) : Int), .int .i64 ((i - 1 : Nat) : Int), .pointer (pA aw (i - 1)), .int .i64 (W.getD (i - 1) 0), .pointer (some ⟨gX, 0, none⟩), .slice (some ⟨qx, 0, none⟩) 1 1, .pointer (some ⟨qx, 0, none⟩), .pointer (some ⟨qx, 1, none⟩), .agg (frA (frY (mW W p) qa qc (gz qs qt qu))), .slice (some ⟨q1, 0, none⟩) 6 6, .agg (edA ao5 n5 (edW W p i).mine (edW W p i).full), .agg (paA p), .agg (idA (idW W 0)), .agg (idA (idW W (W.length - 1))), .agg (enA (⟨p, idW W 0, idW W (W.length - 1), -1, -1⟩ : En)), .int .i64 ((i : Nat) : Int), .bool true, .slice aw W.length cw, .int .i64 ((i : Nat) : Int), .int .i64 ((i - 1 : Nat) : Int), .pointer (pA aw (i - 1)), .int .i64 (W.getD (i - 1) 0), .pointer (some ⟨g3, 49, none⟩), .int .i64 ((i : Nat) : Int), .int .i64 ((i + 1 : Nat) : Int), .slice aw W.length cw, .int .i64 ((W.length : Nat) : Int), .bool false, us2 67, us2 68, us2 69, us2 70, us2 71, us2 72, .tuple #[.agg (enA (xW W p i)), .bool true], .pointer (some ⟨t2, 0, none⟩), .agg (paA p), .tuple #[.agg (enA (xW W p i)), .bool true], .agg (enA (xW W p i)), .bool true, .bool true, .bool false, .bool false, .agg (enA (xW W p i)), .agg (enA (⟨p, idW W 0, idW W (W.length - 1), (W.getD (i - 1) 0), -1⟩ : En)), .bool false, .bool false] : List Value).getD kz undef), rfl, rfl, by omega, GG, kg1, kg2, kgF, kgL, (by rw [Nat.add_sub_cancel]; exact kgX), (by rw [Nat.add_sub_cancel]; exact HO5.mono (Nat.zero_le _)), kt2, (by rw [Nat.add_sub_cancel]; exact HTt2), HR, HB1⟩
          · have hm2 : i + 1 < W.length := by have := of_decide_eq_true hm; omega
            refine s_val 143 rfl rfl (.bool true) (run_lssT 3 _ _ _ rfl ((i + 1 : Nat) : Int) ((W.length : Nat) : Int) rfl rfl true hm _) ?_
            refine nr ?_; intro U h; simp only [z0, z1] at h; subst h
            refine wpList_nil ?_
            refine then_n ?_
            refine wp_cond_true rfl ?_
            refine wp_region_lit ?_
            refine s_val 144 rfl rfl (.slice aw W.length cw) (ldL_0 _ rfl g2 rfl (kg2)) ?_
            refine nr ?_; intro U h; simp only [z0, z1] at h; subst h
            refine s_val 145 rfl rfl (.int .i64 ((i : Nat) : Int)) (rfl) ?_
            refine nr ?_; intro U h; simp only [z0, z1] at h; subst h
            refine s_val 146 rfl rfl (.int .i64 ((i + 1 : Nat) : Int)) (run_addI 3 _ _ _ rfl ((i : Nat) : Int) 1 ((i + 1 : Nat) : Int) rfl rfl (by omega) (by omega) (by omega) _) ?_
            refine nr ?_; intro U h; simp only [z0, z1] at h; subst h
            refine s_val 147 rfl rfl (.pointer (pA aw (i + 1))) (run_ixI (HR) _ _ rfl rfl (i + 1) rfl (by omega)) ?_
            refine nr ?_; intro U h; simp only [z0, z1] at h; subst h
            refine s_val 148 rfl rfl (.int .i64 (W.getD (i + 1) 0)) (run_ldI (HR) _ rfl (i + 1) rfl (by omega)) ?_
            refine nr ?_; intro U h; simp only [z0, z1] at h; subst h
            refine s_val 149 rfl rfl (.pointer (some ⟨g3, 50, none⟩)) (run_fld 73 _ 4 rfl g3 0 rfl 50 (by kernel_rfl)) ?_
            refine nr ?_; intro U h; simp only [z0, z1] at h; subst h
            refine s_store rfl rfl 3 _ _ rfl g3 50 rfl (.int .i64 (W.getD (i + 1) 0)) rfl 73 _ kg3 #[.int .i64 (W.getD (i + 1) 0)] rfl (si3) (by rw [enA_size]; show 50 + 1 ≤ 51; omega) (i_one _) (enA (⟨p, idW W 0, idW W (W.length - 1), (W.getD (i - 1) 0), (W.getD (i + 1) 0)⟩ : En)) (spE_nb _ _) ?_
            intro w18 St
            have kS := kg3
            replace kg1 := St.has (fun e => ne_cells kg1 kS (by decide) (by simp [e])) kg1
            replace kg2 := St.has (fun e => ne_cells kg2 kS (by decide) (by simp [e])) kg2
            replace kgF := St.has (fun e => ne_cells kgF kS (by decide) (by simp [e])) kgF
            replace kgL := St.has (fun e => ne_cells kgL kS (by decide) (by simp [e])) kgL
            replace kgX := St.has (fun e => ne_cells kgX kS (by decide) (by simp [e])) kgX
            replace kqx := St.has (fun e => ne_cells kqx kS (by decide) (by simp [e])) kqx
            replace kt2 := St.has (fun e => ne_cells kt2 kS (by decide) (by simp [e])) kt2
            replace HR := HR.st St dHRg3
            replace HB1 := HB1.st St dHB1g3
            replace HQx := HQx.st St kS (by decide)
            replace HTt2 := HTt2.st St (HTt2.nec kS).symm
            replace HO5 := HO5.st St kS (by decide)
            replace GG := GG.store St bg3
            replace kg3 := St.new
            clear St
            refine wpList_nil ?_
            refine then_n ?_
            refine wp_seq ?_
            refine wp_region_lit ?_
            refine s_val 151 rfl rfl (.pointer (some ⟨t2, 0, none⟩)) (rfl) ?_
            refine nr ?_; intro U h; simp only [z0, z1] at h; subst h
            refine s_val 152 rfl rfl (.agg (paA p)) (ldP0 _ rfl g1 rfl (kg1)) ?_
            refine nr ?_; intro U h; simp only [z0, z1] at h; subst h
            refine s_callv 153 rfl rfl _ 19 Try.call19 rfl rfl _ rfl [.pointer (some ⟨t2, 0, none⟩), .agg (paA p)] rfl (Calls.valV (get_any _ t2 b2 3 [(xW W p i)] kt2 HTt2 p hp) (tupW (getW (xW W p i)).1 (getW (xW W p i)).2)) ?_
            intro w19 G
            replace kg1 := G.has kg1
            replace kg2 := G.has kg2
            replace kgF := G.has kgF
            replace kgL := G.has kgL
            replace kgX := G.has kgX
            replace kqx := G.has kqx
            replace kt2 := G.has kt2
            replace kg3 := G.has kg3
            replace HR := HR.gro G
            replace HB1 := HB1.gro G
            replace HQx := HQx.gro G
            replace HTt2 := HTt2.gro G
            replace HO5 := HO5.gro G
            replace GG := GG.trans G
            clear G
            refine nr ?_; intro U h; simp only [z0, z1] at h; subst h
            refine s_val 150 rfl rfl (.tuple #[.agg (enA (xW W p i)), .bool true]) (rfl) ?_
            refine nr ?_; intro U h; simp only [z0, z1] at h; subst h
            refine s_val 154 rfl rfl (.agg (enA (xW W p i))) (rfl) ?_
            refine nr ?_; intro U h; simp only [z0, z1] at h; subst h
            refine s_val 155 rfl rfl (.bool true) (rfl) ?_
            refine nr ?_; intro U h; simp only [z0, z1] at h; subst h
            refine s_alloc 17 rfl rfl 73 rfl _ zero33 (enA zE) rfl ?_
            intro w20 g4 G eg4 kg4
            have bg4 := size_base GG eg4
            have dg1g4 := lt_new kg1 eg4
            have dg2g4 := lt_new kg2 eg4
            have dgFg4 := lt_new kgF eg4
            have dgLg4 := lt_new kgL eg4
            have dgXg4 := lt_new kgX eg4
            have dqxg4 := lt_new kqx eg4
            have dt2g4 := lt_new kt2 eg4
            have dg3g4 := lt_new kg3 eg4
            have dHRg4 := HR.ne eg4
            have dHB1g4 := HB1.ne eg4
            have dHTt2g4 := HTt2.ne eg4
            replace kg1 := G.has kg1
            replace kg2 := G.has kg2
            replace kgF := G.has kgF
            replace kgL := G.has kgL
            replace kgX := G.has kgX
            replace kqx := G.has kqx
            replace kt2 := G.has kt2
            replace kg3 := G.has kg3
            replace HR := HR.gro G
            replace HB1 := HB1.gro G
            replace HQx := HQx.gro G
            replace HTt2 := HTt2.gro G
            replace HO5 := HO5.gro G
            replace GG := GG.trans G
            clear G
            clear eg4
            refine nr ?_; intro U h; simp only [z0, z1] at h; subst h
            refine s_store rfl rfl 73 _ _ rfl g4 0 rfl (.agg (enA (xW W p i))) rfl 73 _ kg4 (enA (xW W p i)) rfl (si33' _) (enA_fit _ _) (enA_one _) (enA (xW W p i)) (splice_whole _ _ (enA_sz _ _)) ?_
            intro w21 St
            have kS := kg4
            replace kg1 := St.has (fun e => ne_cells kg1 kS (by decide) (by simp [e])) kg1
            replace kg2 := St.has (fun e => ne_cells kg2 kS (by decide) (by simp [e])) kg2
            replace kgF := St.has (fun e => ne_cells kgF kS (by decide) (by simp [e])) kgF
            replace kgL := St.has (fun e => ne_cells kgL kS (by decide) (by simp [e])) kgL
            replace kgX := St.has (fun e => ne_cells kgX kS (by decide) (by simp [e])) kgX
            replace kqx := St.has (fun e => ne_cells kqx kS (by decide) (by simp [e])) kqx
            replace kt2 := St.has (fun e => ne_cells kt2 kS (by decide) (by simp [e])) kt2
            replace kg3 := St.has (by omega) kg3
            replace HR := HR.st St dHRg4
            replace HB1 := HB1.st St dHB1g4
            replace HQx := HQx.st St kS (by decide)
            replace HTt2 := HTt2.st St (HTt2.nec kS).symm
            replace HO5 := HO5.st St kS (by decide)
            replace GG := GG.store St bg4
            replace kg4 := St.new
            clear St
            refine s_val 18 rfl rfl (.bool true) (rfl) ?_
            refine nr ?_; intro U h; simp only [z0, z1] at h; subst h
            refine wpList_nil ?_
            refine then_n ?_
            refine wp_seq ?_
            refine wp_region_opq ?_
            intro OPS hY
            have y2 := hY 2 158 rfl
            clear hY
            refine s_val 156 rfl rfl (.bool true) (rfl) ?_
            refine nr ?_; intro U h; simp only [z0, z1] at h; subst h
            refine s_val 157 rfl rfl (.bool false) (run_nt _ _ rfl true rfl) ?_
            refine nr ?_; intro U h; simp only [z0, z1] at h; subst h
            refine s_val 158 rfl rfl (.bool false) (rfl) ?_
            refine nr ?_; intro U h; simp only [z0, z1] at h; subst h
            refine s_gvalY 159 rfl rfl y2 rfl (.agg (enA (xW W p i))) (ldE0 _ rfl g4 rfl (kg4)) ?_
            refine nr ?_; intro U h; simp only [z0, z1] at h; subst h
            refine s_gvalY 160 rfl rfl y2 rfl (.agg (enA (⟨p, idW W 0, idW W (W.length - 1), (W.getD (i - 1) 0), (W.getD (i + 1) 0)⟩ : En))) (ldE0 _ rfl g3 rfl (kg3)) ?_
            refine nr ?_; intro U h; simp only [z0, z1] at h; subst h
            have hwt : (xW W p i) = (⟨p, idW W 0, idW W (W.length - 1), (W.getD (i - 1) 0), (W.getD (i + 1) 0)⟩ : En) := xW_mid hip hm2
            have hxok := xW_ok hW hp i
            refine s_gvalY 161 rfl rfl y2 rfl (.bool false) (run_neE _ _ _ rfl (xW W p i) (⟨p, idW W 0, idW W (W.length - 1), (W.getD (i - 1) 0), (W.getD (i + 1) 0)⟩ : En) rfl rfl hxok (hwt ▸ hxok) false (decide_eq_true hwt)) ?_
            refine nr ?_; intro U h; simp only [z0, z1] at h; subst h
            refine s_val 162 rfl rfl (.bool false) (rfl) ?_
            refine nr ?_; intro U h; simp only [z0, z1] at h; subst h
            refine wpList_nil ?_
            refine then_n ?_
            refine wp_cond_false rfl ?_
            refine wp_skip ?_
            refine blk_n ?_
            refine then_n ?_
            refine wp_region_lit ?_
            refine s_val 85 rfl rfl (.int .i64 ((i : Nat) : Int)) (rfl) ?_
            refine nr ?_; intro U h; simp only [z0, z1] at h; subst h
            refine s_val 86 rfl rfl (.int .i64 ((i + 1 : Nat) : Int)) (run_addI 3 _ _ _ rfl ((i : Nat) : Int) 1 ((i + 1 : Nat) : Int) rfl rfl (by omega) (by omega) (by omega) _) ?_
            refine nr ?_; intro U h; simp only [z0, z1] at h; subst h
            refine s_val 15 rfl rfl (.int .i64 ((i + 1 : Nat) : Int)) (rfl) ?_
            refine nr ?_; intro U h; simp only [z0, z1] at h; subst h
            refine wpList_nil ?_
            refine then_n ?_
            exact ⟨W.length + 1 - (i + 1), by omega, i + 1, t2, b2, ao5, n5, (fun kz => ([us2 0, .pointer (some ⟨g3, 0, none⟩), .pointer (some ⟨g4, 0, none⟩), .bool true, .int .i64 ((i : Nat) : Int), .slice aw W.length cw, .int .i64 ((W.length : Nat) : Int), .bool true, .int .i64 ((i : Nat) : Int), .int .i64 ((i + 1 : Nat) : Int), .int .i64 ((i : Nat) : Int), .bool true, .pointer (some ⟨gX, 0, none⟩), .slice (some ⟨qx, 0, none⟩) 1 1, .int .i64 1, .bool false, .bool false, .pointer (some ⟨gX, 0, none⟩), .slice (some ⟨qx, 0, none⟩) 1 1, .pointer (some ⟨qx, 0, none⟩), .pointer (some ⟨qx, 0, none⟩), .int .i64 (W.getD i 0), .slice aw W.length cw, .int .i64 ((i : Nat) : Int), .pointer (pA aw i), .int .i64 (W.getD i 0), .bool false, .bool false, .pointer (some ⟨t2, 0, none⟩), .pointer (some ⟨t2, 0, none⟩), .slice aw W.length cw, .int .i64 ((i : Nat) : Int), .pointer (pA aw i), .int .i64 (W.getD i 0), .func (.func 22) #[] #[.pointer (some ⟨g2, 0, none⟩)], .int .i64 ((i : Nat) : Int), .agg (idA (idW W i)), .agg (seA (W.getD i 0) (idW W i)), .slice aw W.length cw, .int .i64 ((i : Nat) : Int), .int .i64 ((i - 1 : Nat) : Int), .pointer (pA aw (i - 1)), .int .i64 (W.getD (i - 1) 0), .pointer (some ⟨gX, 0, none⟩), .slice (some ⟨qx, 0, none⟩) 1 1, .pointer (some ⟨qx, 0, none⟩), .pointer (some ⟨qx, 1, none⟩), .agg (frA (frY (mW W p) qa qc (gz qs qt qu))), .slice (some ⟨q1, 0, none⟩) 6 6, .agg (edA ao5 n5 (edW W p i).mine (edW W p i).full), .agg (paA p), .agg (idA (idW W 0)), .agg (idA (idW W (W.length - 1))), .agg (enA (⟨p, idW W 0, idW W (W.length - 1), -1, -1⟩ : En)), .int .i64 ((i : Nat) : Int), .bool true, .slice aw W.length cw, .int .i64 ((i : Nat) : Int), .int .i64 ((i - 1 : Nat) : Int), .pointer (pA aw (i - 1)), .int .i64 (W.getD (i - 1) 0), .pointer (some ⟨g3, 49, none⟩), .int .i64 ((i : Nat) : Int), .int .i64 ((i + 1 : Nat) : Int), .slice aw W.length cw, .int .i64 ((W.length : Nat) : Int), .bool true, .slice aw W.length cw, .int .i64 ((i : Nat) : Int), .int .i64 ((i + 1 : Nat) : Int), .pointer (pA aw (i + 1)), .int .i64 (W.getD (i + 1) 0), .pointer (some ⟨g3, 50, none⟩), .tuple #[.agg (enA (xW W p i)), .bool true], .pointer (some ⟨t2, 0, none⟩), .agg (paA p), .tuple #[.agg (enA (xW W p i)), .bool true], .agg (enA (xW W p i)), .bool true, .bool true, .bool false, .bool false, .agg (enA (xW W p i)), .agg (enA (⟨p, idW W 0, idW W (W.length - 1), (W.getD (i - 1) 0), (W.getD (i + 1) 0)⟩ : En)), .bool false, .bool false] : List Value).getD kz undef), rfl, rfl, by omega, GG, kg1, kg2, kgF, kgL, (by rw [Nat.add_sub_cancel]; exact kgX), (by rw [Nat.add_sub_cancel]; exact HO5.mono (Nat.zero_le _)), kt2, (by rw [Nat.add_sub_cancel]; exact HTt2), HR, HB1⟩
    · refine s_val 44 rfl rfl (.bool true) (run_lssT 3 _ _ _ rfl ((W.length : Nat) : Int) 2 rfl rfl true h2 _) ?_
      refine nr ?_; intro U h; simp only [z0, z1] at h; subst h
      refine s_val 45 rfl rfl (.bool true) (rfl) ?_
      refine nr ?_; intro U h; simp only [z0, z1] at h; subst h
      refine s_skipY 46 rfl rfl y3 rfl ?_
      refine nr ?_; intro U h; simp only [z0, z1] at h; subst h
      refine s_skipY 47 rfl rfl y3 rfl ?_
      refine nr ?_; intro U h; simp only [z0, z1] at h; subst h
      refine s_val 48 rfl rfl (.bool true) (rfl) ?_
      refine nr ?_; intro U h; simp only [z0, z1] at h; subst h
      refine wpList_nil ?_
      refine then_n ?_
      refine wp_cond_true rfl ?_
      refine wp_seq ?_
      refine wp_region_lit ?_
      refine s_callv 49 rfl rfl _ 11 Try.call11 rfl rfl _ rfl [] rfl (fixed_any _) ?_
      intro w3 G
      replace kg1 := G.has kg1
      replace kg2 := G.has kg2
      replace HR := HR.gro G
      replace GG := GG.trans G
      clear G
      refine nr ?_; intro U h; simp only [z0, z1] at h; subst h
      refine s_val 4 rfl rfl (.bool true) (rfl) ?_
      refine nr ?_; intro U h; simp only [z0, z1] at h; subst h
      refine wpList_nil ?_
      refine then_n ?_
      refine wp_ret ?_
      refine then_r ?_
      refine bodyPost_ret (results_tmp Try.results6 _ _ _) rfl ?_
      exact ⟨rfl, GG⟩
  · have hjl : j < way.length := by have := of_decide_eq_true hj1; omega
    refine s_val 22 rfl rfl (.bool true) (run_lssT 3 _ _ _ rfl ((j : Nat) : Int) ((way.length : Nat) : Int) rfl rfl true hj1 _) ?_
    refine nr ?_; intro U h; simp only [z0, z1] at h; subst h
    refine wpList_nil ?_
    refine then_n ?_
    refine wp_seq ?_
    refine wp_cond_true rfl ?_
    refine wp_skip ?_
    refine then_n ?_
    refine wp_seq ?_
    refine wp_block ?_
    refine wp_seq ?_
    refine wp_region_lit ?_
    refine s_val 23 rfl rfl (.pointer (pA ao j)) (run_ixI (HI.gro GG) _ _ rfl rfl j rfl (by omega)) ?_
    refine nr ?_; intro U h; simp only [z0, z1] at h; subst h
    refine s_val 24 rfl rfl (.int .i64 (way.getD j 0)) (run_ldI (HI.gro GG) _ rfl j rfl (by omega)) ?_
    refine nr ?_; intro U h; simp only [z0, z1] at h; subst h
    refine s_val 7 rfl rfl (.int .i64 (way.getD j 0)) (rfl) ?_
    refine nr ?_; intro U h; simp only [z0, z1] at h; subst h
    refine wpList_nil ?_
    refine then_n ?_
    refine wp_seq ?_
    refine wp_region_opq ?_
    intro OPS hY
    have y2 := hY 2 27 rfl
    have y6 := hY 6 31 rfl
    clear hY
    refine s_val 25 rfl rfl (.int .i64 (way.getD j 0)) (rfl) ?_
    refine nr ?_; intro U h; simp only [z0, z1] at h; subst h
    cases hlo : decide (0 ≤ (way.getD j 0))
    · refine s_val 26 rfl rfl (.bool false) (run_geqT 3 _ _ _ rfl (way.getD j 0) 0 rfl rfl false hlo _) ?_
      refine nr ?_; intro U h; simp only [z0, z1] at h; subst h
      refine s_val 27 rfl rfl (.bool false) (rfl) ?_
      refine nr ?_; intro U h; simp only [z0, z1] at h; subst h
      refine s_skipY 28 rfl rfl y2 rfl ?_
      refine nr ?_; intro U h; simp only [z0, z1] at h; subst h
      refine s_skipY 29 rfl rfl y2 rfl ?_
      refine nr ?_; intro U h; simp only [z0, z1] at h; subst h
      refine s_val 30 rfl rfl (.bool false) (rfl) ?_
      refine nr ?_; intro U h; simp only [z0, z1] at h; subst h
      refine s_val 31 rfl rfl (.bool false) (rfl) ?_
      refine nr ?_; intro U h; simp only [z0, z1] at h; subst h
      refine s_skipY 32 rfl rfl y6 rfl ?_
      refine nr ?_; intro U h; simp only [z0, z1] at h; subst h
      refine s_skipY 33 rfl rfl y6 rfl ?_
      refine nr ?_; intro U h; simp only [z0, z1] at h; subst h
      refine s_skipY 34 rfl rfl y6 rfl ?_
      refine nr ?_; intro U h; simp only [z0, z1] at h; subst h
      refine s_skipY 35 rfl rfl y6 rfl ?_
      refine nr ?_; intro U h; simp only [z0, z1] at h; subst h
      refine s_val 36 rfl rfl (.bool false) (rfl) ?_
      refine nr ?_; intro U h; simp only [z0, z1] at h; subst h
      refine wpList_nil ?_
      refine then_n ?_
      refine wp_cond_false rfl ?_
      refine wp_skip ?_
      refine blk_n ?_
      refine then_n ?_
      refine wp_region_lit ?_
      refine s_val 41 rfl rfl (.int .i64 ((j + 1 : Nat) : Int)) (run_addI 3 _ _ _ rfl ((j : Nat) : Int) 1 ((j + 1 : Nat) : Int) rfl rfl (by omega) (by omega) (by omega) _) ?_
      refine nr ?_; intro U h; simp only [z0, z1] at h; subst h
      refine s_val 21 rfl rfl (.int .i64 ((j + 1 : Nat) : Int)) (rfl) ?_
      refine nr ?_; intro U h; simp only [z0, z1] at h; subst h
      refine wpList_nil ?_
      refine then_n ?_
      exact ⟨way.length + 1 - (j + 1), by omega, j + 1, W, aw, cw, (fun kz => ([.int .i64 (way.getD j 0), .bool true, .pointer (pA ao j), .int .i64 (way.getD j 0), .int .i64 (way.getD j 0), .bool false, .bool false, undef, undef, .bool false, .bool false, undef, undef, undef, undef, .bool false, us1 16, us1 17, us1 18, us1 19, .int .i64 ((j + 1 : Nat) : Int)] : List Value).getD kz undef), rfl, rfl, by omega, hW, hsB, GG, kg1, kg2, HV⟩
    · refine s_val 26 rfl rfl (.bool true) (run_geqT 3 _ _ _ rfl (way.getD j 0) 0 rfl rfl true hlo _) ?_
      refine nr ?_; intro U h; simp only [z0, z1] at h; subst h
      refine s_val 27 rfl rfl (.bool true) (rfl) ?_
      refine nr ?_; intro U h; simp only [z0, z1] at h; subst h
      refine s_gvalY 28 rfl rfl y2 rfl (.int .i64 (way.getD j 0)) (rfl) ?_
      refine nr ?_; intro U h; simp only [z0, z1] at h; subst h
      cases hhi : decide ((way.getD j 0) < 6)
      · refine s_gvalY 29 rfl rfl y2 rfl (.bool false) (run_lssT 3 _ _ _ rfl (way.getD j 0) 6 rfl rfl false hhi _) ?_
        refine nr ?_; intro U h; simp only [z0, z1] at h; subst h
        refine s_val 30 rfl rfl (.bool false) (rfl) ?_
        refine nr ?_; intro U h; simp only [z0, z1] at h; subst h
        refine s_val 31 rfl rfl (.bool false) (rfl) ?_
        refine nr ?_; intro U h; simp only [z0, z1] at h; subst h
        refine s_skipY 32 rfl rfl y6 rfl ?_
        refine nr ?_; intro U h; simp only [z0, z1] at h; subst h
        refine s_skipY 33 rfl rfl y6 rfl ?_
        refine nr ?_; intro U h; simp only [z0, z1] at h; subst h
        refine s_skipY 34 rfl rfl y6 rfl ?_
        refine nr ?_; intro U h; simp only [z0, z1] at h; subst h
        refine s_skipY 35 rfl rfl y6 rfl ?_
        refine nr ?_; intro U h; simp only [z0, z1] at h; subst h
        refine s_val 36 rfl rfl (.bool false) (rfl) ?_
        refine nr ?_; intro U h; simp only [z0, z1] at h; subst h
        refine wpList_nil ?_
        refine then_n ?_
        refine wp_cond_false rfl ?_
        refine wp_skip ?_
        refine blk_n ?_
        refine then_n ?_
        refine wp_region_lit ?_
        refine s_val 41 rfl rfl (.int .i64 ((j + 1 : Nat) : Int)) (run_addI 3 _ _ _ rfl ((j : Nat) : Int) 1 ((j + 1 : Nat) : Int) rfl rfl (by omega) (by omega) (by omega) _) ?_
        refine nr ?_; intro U h; simp only [z0, z1] at h; subst h
        refine s_val 21 rfl rfl (.int .i64 ((j + 1 : Nat) : Int)) (rfl) ?_
        refine nr ?_; intro U h; simp only [z0, z1] at h; subst h
        refine wpList_nil ?_
        refine then_n ?_
        exact ⟨way.length + 1 - (j + 1), by omega, j + 1, W, aw, cw, (fun kz => ([.int .i64 (way.getD j 0), .bool true, .pointer (pA ao j), .int .i64 (way.getD j 0), .int .i64 (way.getD j 0), .bool true, .bool true, .int .i64 (way.getD j 0), .bool false, .bool false, .bool false, undef, undef, undef, undef, .bool false, us1 16, us1 17, us1 18, us1 19, .int .i64 ((j + 1 : Nat) : Int)] : List Value).getD kz undef), rfl, rfl, by omega, hW, hsB, GG, kg1, kg2, HV⟩
      · refine s_gvalY 29 rfl rfl y2 rfl (.bool true) (run_lssT 3 _ _ _ rfl (way.getD j 0) 6 rfl rfl true hhi _) ?_
        refine nr ?_; intro U h; simp only [z0, z1] at h; subst h
        refine s_val 30 rfl rfl (.bool true) (rfl) ?_
        refine nr ?_; intro U h; simp only [z0, z1] at h; subst h
        refine s_val 31 rfl rfl (.bool true) (rfl) ?_
        refine nr ?_; intro U h; simp only [z0, z1] at h; subst h
        refine s_gvalY 32 rfl rfl y6 rfl (.slice aw W.length cw) (ldL_0 _ rfl g2 rfl (kg2)) ?_
        refine nr ?_; intro U h; simp only [z0, z1] at h; subst h
        refine s_gvalY 33 rfl rfl y6 rfl (.int .i64 (way.getD j 0)) (rfl) ?_
        refine nr ?_; intro U h; simp only [z0, z1] at h; subst h
        refine s_gcallvY 34 rfl rfl y6 rfl _ 21 Try.call21 rfl rfl _ rfl [.slice aw W.length cw, .int .i64 (way.getD j 0)] rfl (refplace_any _ aw cw W (HV).rc (by omega) (way.getD j 0)) ?_
        intro w3 G
        replace hsB := Nat.le_trans hsB G.size
        replace kg1 := G.has kg1
        replace kg2 := G.has kg2
        replace HV := HV.gro G
        replace GG := GG.trans G
        clear G
        refine nr ?_; intro U h; simp only [z0, z1] at h; subst h
        cases hpl : decide (plc W (way.getD j 0) < 0)
        · refine s_gvalY 35 rfl rfl y6 rfl (.bool false) (run_lssT 3 _ _ _ rfl (plc W (way.getD j 0)) 0 rfl rfl false hpl _) ?_
          refine nr ?_; intro U h; simp only [z0, z1] at h; subst h
          refine s_val 36 rfl rfl (.bool false) (rfl) ?_
          refine nr ?_; intro U h; simp only [z0, z1] at h; subst h
          refine wpList_nil ?_
          refine then_n ?_
          refine wp_cond_false rfl ?_
          refine wp_skip ?_
          refine blk_n ?_
          refine then_n ?_
          refine wp_region_lit ?_
          refine s_val 41 rfl rfl (.int .i64 ((j + 1 : Nat) : Int)) (run_addI 3 _ _ _ rfl ((j : Nat) : Int) 1 ((j + 1 : Nat) : Int) rfl rfl (by omega) (by omega) (by omega) _) ?_
          refine nr ?_; intro U h; simp only [z0, z1] at h; subst h
          refine s_val 21 rfl rfl (.int .i64 ((j + 1 : Nat) : Int)) (rfl) ?_
          refine nr ?_; intro U h; simp only [z0, z1] at h; subst h
          refine wpList_nil ?_
          refine then_n ?_
          exact ⟨way.length + 1 - (j + 1), by omega, j + 1, W, aw, cw, (fun kz => ([.int .i64 (way.getD j 0), .bool true, .pointer (pA ao j), .int .i64 (way.getD j 0), .int .i64 (way.getD j 0), .bool true, .bool true, .int .i64 (way.getD j 0), .bool true, .bool true, .bool true, .slice aw W.length cw, .int .i64 (way.getD j 0), .int .i64 (plc W (way.getD j 0)), .bool false, .bool false, us1 16, us1 17, us1 18, us1 19, .int .i64 ((j + 1 : Nat) : Int)] : List Value).getD kz undef), rfl, rfl, by omega, hW, hsB, GG, kg1, kg2, HV⟩
        · refine s_gvalY 35 rfl rfl y6 rfl (.bool true) (run_lssT 3 _ _ _ rfl (plc W (way.getD j 0)) 0 rfl rfl true hpl _) ?_
          refine nr ?_; intro U h; simp only [z0, z1] at h; subst h
          refine s_val 36 rfl rfl (.bool true) (rfl) ?_
          refine nr ?_; intro U h; simp only [z0, z1] at h; subst h
          refine wpList_nil ?_
          refine then_n ?_
          refine wp_cond_true rfl ?_
          refine wp_region_lit ?_
          refine s_val 37 rfl rfl (.slice aw W.length cw) (ldL_0 _ rfl g2 rfl (kg2)) ?_
          refine nr ?_; intro U h; simp only [z0, z1] at h; subst h
          refine s_val 38 rfl rfl (.int .i64 (way.getD j 0)) (rfl) ?_
          refine nr ?_; intro U h; simp only [z0, z1] at h; subst h
          refine s_bsl 39 rfl rfl 32 1 _ rfl [(0, .int .i64 (way.getD j 0))] rfl (ci ([(way.getD j 0)] : List Int)).toArray 3 (by kernel_rfl) ?_
          intro w4 q1 G eq1 kq1
          have bq1 := size_base GG eq1
          have dHI1g1 := ne_blk (n := (ci ([(way.getD j 0)] : List Int)).length) (lt_new kg1 eq1)
          have dHI1g2 := ne_blk (n := (ci ([(way.getD j 0)] : List Int)).length) (lt_new kg2 eq1)
          replace hsB := Nat.le_trans hsB G.size
          replace kg1 := G.has kg1
          replace kg2 := G.has kg2
          replace HV := HV.gro G
          replace GG := GG.trans G
          clear G
          have HI1 : RC _ (some ⟨q1, 0, none⟩) 1 ([(way.getD j 0)] : List Int) := RC.blk kq1 (fun y hy => by rw [List.mem_singleton.1 hy]; exact HI.at hjl) (Nat.le_refl _)
          clear kq1 eq1
          refine nr ?_; intro U h; simp only [z0, z1] at h; subst h
          refine s_appI 40 rfl rfl _ _ rfl (l := W) rfl HV rfl HI1 (by show W.length + 1 ≤ _; omega) hsB ?_
          intro aw2 cw2 w5 HV2 HBl
          replace kg1 := (HBl.block g1 l3B).trans kg1
          replace kg2 := (HBl.block g2 l5B).trans kg2
          replace GG := below_gro GG HBl hwB
          replace hsB := Nat.le_trans hsB HBl.size
          have dHVg2 := HV2.neL l5B
          clear HV HBl HI1
          have HV := HV2
          clear HV2
          refine nr ?_; intro U h; simp only [z0, z1] at h; subst h
          refine s_store rfl rfl 32 _ _ rfl g2 0 rfl (.slice aw2 (W ++ [(way.getD j 0)]).length cw2) rfl 32 _ kg2 (#[.slice aw2 (W ++ [(way.getD j 0)]).length cw2]) rfl (si32) (Nat.le_refl _) (sl_one _ _ _) (#[.slice aw2 (W ++ [(way.getD j 0)]).length cw2]) (splice_whole _ _ rfl) ?_
          intro w6 St
          have kS := kg2
          replace kg1 := St.has (fun e => ne_cells kg1 kS (by decide) (by simp [e])) kg1
          replace HV := HV.st St dHVg2
          replace GG := GG.store St bg2
          replace kg2 := St.new
          replace hsB := Nat.le_trans hsB (Nat.le_of_eq St.size.symm)
          clear St
          refine wpList_nil ?_
          refine blk_n ?_
          refine then_n ?_
          refine wp_region_lit ?_
          refine s_val 41 rfl rfl (.int .i64 ((j + 1 : Nat) : Int)) (run_addI 3 _ _ _ rfl ((j : Nat) : Int) 1 ((j + 1 : Nat) : Int) rfl rfl (by omega) (by omega) (by omega) _) ?_
          refine nr ?_; intro U h; simp only [z0, z1] at h; subst h
          refine s_val 21 rfl rfl (.int .i64 ((j + 1 : Nat) : Int)) (rfl) ?_
          refine nr ?_; intro U h; simp only [z0, z1] at h; subst h
          refine wpList_nil ?_
          refine then_n ?_
          exact ⟨way.length + 1 - (j + 1), by omega, j + 1, W ++ [(way.getD j 0)], aw2, cw2, (fun kz => ([.int .i64 (way.getD j 0), .bool true, .pointer (pA ao j), .int .i64 (way.getD j 0), .int .i64 (way.getD j 0), .bool true, .bool true, .int .i64 (way.getD j 0), .bool true, .bool true, .bool true, .slice aw W.length cw, .int .i64 (way.getD j 0), .int .i64 (plc W (way.getD j 0)), .bool true, .bool true, .slice aw W.length cw, .int .i64 (way.getD j 0), .slice (some ⟨q1, 0, none⟩) 1 1, .slice aw2 (W ++ [(way.getD j 0)]).length cw2, .int .i64 ((j + 1 : Nat) : Int)] : List Value).getD kz undef), rfl, rfl, by omega, hW.snoc (of_decide_eq_true hlo) (of_decide_eq_true hhi) (of_decide_eq_true hpl), hsB, GG, kg1, kg2, HV⟩
end Go.Proofs.Ytkjnefgenffhcaa
