/- Wire: a text that is read shares nothing with the bytes. -/
import Derived.Test.YtkhbpkhkbidbdaaC1
namespace Go.Proofs.Ytkhbpkhkbidbdaa
open Go.RowKit

theorem Gro.le {w w' : World} (h : Gro w w') : w.heap.size ≤ w'.heap.size := h.size
theorem run_oneT {o : Oper} {A : Act} (x : Operand) (ho : o.op = .buildSlice 23 1 #[(0, x)]) (ao : Option Addr) (n cap : Nat) (hx : A.eval x = .slice ao n cap) (w : World) :
    (execOp A.eval o).run Try.prog w = .ok (.value (.slice (some ⟨w.heap.size, 0, none⟩) 1 1)) (w.alloc (.cells #[.slice ao n cap] 24)) := by
  have h1 : (Instr.buildSlice 23 1 #[(0, .slice ao n cap)]).run Try.prog w = .ok (.slice (some ⟨w.heap.size, 0, none⟩) 1 1) (w.alloc (.cells #[.slice ao n cap] 24)) := by kernel_rfl
  unfold execOp
  simp only [ho, List.map_toArray, List.map_cons, List.map_nil, hx, Sem.run_bind, h1, Result.andThen_ok, Sem.run_pure]
theorem wpList_oneT {ops : Array Oper} {rest : List Oper} {o : Oper} {a : Act} {w : World} {Q : Exit → Act → World → Prop} (dst : Nat) (hd : o.dst = some dst) (hgd : o.guard = none) (x : Operand) (ho : o.op = .buildSlice 23 1 #[(0, x)]) (ao : Option Addr) (cap : Nat) (l : List Nat) (hx : a.eval x = .slice ao l.length cap) (hc : NC w .u8 ao cap l)
    (h : ∀ w' g, Gro w w' → w.heap.size = g → LC w' (some ⟨g, 0, none⟩) 1 [l] → wpList Try.prog ops Q rest (a.put (some dst) (.slice (some ⟨g, 0, none⟩) 1 1)) w') : wpList Try.prog ops Q (o :: rest) a w :=
  wpList_plain hgd fun _ hK => by
    unfold Oper.wp
    rw [run_oneT x ho ao l.length cap hx, Oper.upon_value, hd]
    refine hK _ _ (h _ _ (gro_alloc _ _) rfl ⟨by simp, fun h => by (cases h), fun ad ha j hj => ?_⟩)
    cases ha
    have hj0 : j = 0 := by simp at hj; omega
    subst hj0
    refine ⟨ao, cap, ?_, hc.gro (gro_alloc _ _)⟩
    rw [add_at, cell_of_row _ _ _ _ 24 _ (heap_alloc_new w _)]
    rfl
theorem run_idx0 {P : Program} {t e : TypeId} {k : IntKind} {b : Nat} {o : Oper} {A : Act} (T : NumT P t e k b) (x y : Operand) (ho : o.op = .indexAddr t x y) (g n cap j : Nat) (hx : A.eval x = .slice (some ⟨g, 0, none⟩) n cap) (hy : A.eval y = .int .i64 (j : Int)) (hj : j < n) (w : World) :
    (execOp A.eval o).run P w = .ok (.value (.pointer (some ⟨g, j, none⟩))) w := by
  rw [run_idx T x y ho _ n cap j hx hy hj w, add_at, Nat.zero_add]
theorem xor_lt (a b : Nat) : ∃ r : Nat, r < 256 ∧ IntKind.u8.wrap (((BitVec.ofInt 8 (a : Int) ^^^ BitVec.ofInt 8 (b : Int)).toNat : Nat) : Int) = (r : Int) := by
  refine ⟨(BitVec.ofInt 8 (a : Int) ^^^ BitVec.ofInt 8 (b : Int)).toNat, (BitVec.ofInt 8 (a : Int) ^^^ BitVec.ofInt 8 (b : Int)).isLt, ?_⟩
  have h := (BitVec.ofInt 8 (a : Int) ^^^ BitVec.ofInt 8 (b : Int)).isLt
  generalize (BitVec.ofInt 8 (a : Int) ^^^ BitVec.ofInt 8 (b : Int)).toNat = q at *
  simp [IntKind.wrap, IntKind.bits, IntKind.signed]
  omega
theorem run_xor8 {P : Program} {o : Oper} {A : Act} (t t2 : TypeId) (x y : Operand) (ho : o.op = .binOp .xor t x y t2) (a b r : Nat) (hr : IntKind.u8.wrap (((BitVec.ofInt 8 (a : Int) ^^^ BitVec.ofInt 8 (b : Int)).toNat : Nat) : Int) = (r : Int)) (hx : A.eval x = .int .u8 (a : Int)) (hy : A.eval y = .int .u8 (b : Int)) (w : World) : (execOp A.eval o).run P w = .ok (.value (.int .u8 (r : Int))) w := by
  refine run_binop .xor t x y t2 ho _ _ _ hx hy (by simp [eqGuard]) ?_
  show (Op.intBits .xor .u8 (a : Int) (b : Int)).run P w = _
  unfold Op.intBits
  simp only [Sem.run_pure]
  exact congrArg (fun z => Result.ok (Value.int .u8 z) w) hr
theorem putT_one (l : List Nat) : putT [l] = textL l := by simp [putT]
theorem textL_len (l : List Nat) : (textL l).length ≤ l.length + 9 ∧ 0 < (textL l).length := by
  have := numL_le l.length
  have h := numL_len l.length
  unfold textL
  rw [List.length_append]
  omega
/-- What is kept of the bytes that are turned over. -/
structure Turn (w : World) (g n : Nat) : Prop where
  out : ∃ cs, w.heap[g]? = some (.cells cs 5 (0, 0)) ∧ n ≤ cs.size ∧ ∀ j, j < n → ∃ z : Nat, z < 256 ∧ cs[j]? = some (.int .u8 (z : Int))
theorem Turn.ofOB {w : World} {B g cap : Nat} {l : List Nat} (h : OB w 5 .u8 B (some ⟨g, 0, none⟩) cap l) : Turn w g l.length := by
  rcases h.own.2 with ⟨h1, _⟩ | ⟨g', c, cur, h1, _, h2, h3, _, h4, h5⟩
  · cases h1
  · injection h1 with e1 e2 e3
    injection e1 with e1
    injection e1 with e1
    subst e1
    refine ⟨cur, h2, by omega, fun j hj => ?_⟩
    have h6 : (l.map fun r : Nat => Value.int .u8 (r : Int))[j]? = some (.int .u8 (l.getD j 0 : Int)) := by
      rw [List.getElem?_map, List.getElem?_eq_getElem hj, List.getD_eq_getElem?_getD, List.getElem?_eq_getElem hj]
      rfl
    rw [← h5, List.getElem?_take, if_pos (by omega)] at h6
    have h7 := h.wf _ (getD_mem l 0 j hj)
    rw [max_u8] at h7
    exact ⟨l.getD j 0, by omega, by simpa using h6⟩
theorem Turn.gro {w w' : World} {g n : Nat} (h : Turn w g n) (G : Gro w w') : Turn w' g n := by
  obtain ⟨cs, h1, h2⟩ := h.out
  exact ⟨cs, G.has h1, h2⟩
theorem Turn.step {w w' : World} {g n j r : Nat} {cs : Array Value} (h : ∀ i, i < n → ∃ z : Nat, z < 256 ∧ cs[i]? = some (.int .u8 (z : Int))) (hs : n ≤ cs.size) (hr : r < 256) (S : Stored w w' g (.cells (cs.setIfInBounds j (.int .u8 (r : Int))) 5 (0, 0))) : Turn w' g n := by
  refine ⟨_, S.new, by simpa using hs, fun i hi => ?_⟩
  rw [Array.getElem?_setIfInBounds]
  split
  · rw [if_pos (by omega)]
    exact ⟨r, hr, rfl⟩
  · exact h i hi
set_option maxHeartbeats 3200000 in
theorem wireNew_any (ao : Option Addr) (cap : Nat) (l : List Nat) (w : World) (HC : NC w .u8 ao cap l) (hlen : l.length ≤ 140737488351232) : Calls Try.prog 8 #[.slice ao l.length cap] w fun e w' => e = .returned (.bool true) ∧ Gro w w' := by
  have GG : Gro w w := Gro.refl w
  have hTL := textL_len l
  have HG : Shut (getT (textL l) 0 (l.length : Int) = (l, (textL l).length, 0)) := ⟨by
    have := getT_text [] l (by unfold lim; omega)
    simpa using this⟩
  go_enter Try.func8, Try.ntmps8
  go_wp2_with (first | (go_at_call 13; refine (putText_any (some ⟨g1, 0, none⟩) 1 [l] _ K1 (by rw [putT_one]; omega) (by simp)).mono ?_; rintro e wN ⟨ao1, cap1, L1, rfl, E1, O1, GN⟩; replace GG := GG.trans GN; clear GN K1; have EL := E1.out.trans (putT_one l); rw [← EL] at HG hTL; clear EL E1) | (go_at_call 16; refine (getText_any ao1 cap1 L1 _ O1.nc 0 (l.length : Int) (by omega) (by omega)).mono ?_; rintro e wM ⟨ao2, cap2, L2, rfl, E2, O2, GN⟩; rw [HG.out] at E2 ⊢) | (with_reducible refine wpList_at ?_; first | (refine wpList_oneT 9 rfl rfl _ rfl ao cap l rfl HC ?_; intro w1 g1 G1 e1 K1; replace GG := GG.trans G1; have hw1 := GG.le; clear G1 e1; (try simp only [Act.put, List.setIfInBounds_toArray, List.set_cons_zero, List.set_cons_succ]))))
  have EL2 : L2 = l := E2.out
  subst L2
  clear E2 HG
  obtain ⟨ad1, rfl, _⟩ := O1.nc.at (j := 0) hTL.2
  have hge := O1.ge _ rfl
  obtain ⟨gb, rfl⟩ : ∃ gb, ad1 = ⟨gb, 0, none⟩ := by
    rcases O1.own.2 with ⟨h1, _⟩ | ⟨g', c, cur, h1, _⟩
    · cases h1
    · injection h1 with e1
      injection e1 with e1
      exact ⟨g', e1⟩
  have TT : Turn wM gb L1.length := (Turn.ofOB O1).gro GN
  have hb1 : w.heap.size ≤ gb := Nat.le_trans hw1 hge.1
  have hb2 : gb < wN.heap.size := hge.2
  replace GG := GG.trans GN
  have hL1 : L1.length ≤ 140737488351241 := by omega
  clear GN O1 hge hw1 hTL
  go_wp2
  go_loopw [21] (fun i wr => ∃ j : Nat, j ≤ L1.length ∧ i = .int .i64 (j : Int) ∧ Gro w wr ∧ Turn wr gb L1.length ∧ OB wr 5 .u8 wN.heap.size ao2 cap2 l) (fun i _ => L1.length - (intOf i).toNat)
  case atStart => exact ⟨0, by omega, rfl, GG, TT, O2⟩
  case round =>
    clear GG TT O2
    obtain ⟨j, hj, rfl, GG, TT, O2⟩ := hrel
    cases hlt : decide ((j : Int) < (L1.length : Int))
    · have HC2 := HC.gro GG
      have N2 := O2.nc
      clear O2 TT
      go_wp2_with (first | (go_at_call 11; refine (fixed_any _).mono ?_; rintro e wF ⟨rfl, GN⟩; replace GG := GG.trans GN; replace HC2 := HC2.gro GN; replace N2 := N2.gro GN; clear GN) | (with_reducible refine wpList_at ?_; first | (refine wpList_value_d 22 rfl rfl (.bool false) (run_lss64 _ _ _ rfl (j : Int) (L1.length : Int) rfl rfl false hlt _) ?_; (try simp only [Act.put, List.setIfInBounds_toArray, List.set_cons_zero, List.set_cons_succ])) | (refine wpList_gvalue_d 38 rfl rfl (.string (bas l)) (run_text_op bT 9 Try.underlying9 _ rfl rfl N2) ?_; (try simp only [Act.put, List.setIfInBounds_toArray, List.set_cons_zero, List.set_cons_succ])) | (refine wpList_gvalue_d 40 rfl rfl (.string (bas l)) (run_text_op bT 9 Try.underlying9 _ rfl rfl HC2) ?_; (try simp only [Act.put, List.setIfInBounds_toArray, List.set_cons_zero, List.set_cons_succ])) | (refine wpList_gvalue_d 41 rfl rfl (.bool true) (run_eqs_op _ _ _ rfl _ _ rfl rfl true (decide_eq_true rfl) _) ?_; (try simp only [Act.put, List.setIfInBounds_toArray, List.set_cons_zero, List.set_cons_succ]))))
      go_ret
      exact ⟨rfl, GG⟩
    · have hjl : j < L1.length := by simp at hlt; omega
      obtain ⟨cs, k1, hsz, hcs⟩ := TT.out
      obtain ⟨z, hz, hcz⟩ := hcs j hjl
      have HCS : Shut _ := ⟨hcs⟩
      have hcell : Shut (World.cell? _ ⟨gb, j, none⟩ = some (.int .u8 (z : Int))) := ⟨by rw [cell_of_row _ gb j _ 5 _ k1]; exact hcz⟩
      obtain ⟨r, hr, hxr⟩ := xor_lt z 255
      have HXR : Shut _ := ⟨hxr⟩
      have hjs : j < cs.size := by omega
      clear hcs hcz hxr TT
      go_wp2_with (first | (with_reducible refine wpList_at ?_; first | (refine wpList_value_d 22 rfl rfl (.bool true) (run_lss64 _ _ _ rfl (j : Int) (L1.length : Int) rfl rfl true hlt _) ?_; (try simp only [Act.put, List.setIfInBounds_toArray, List.set_cons_zero, List.set_cons_succ])) | (refine wpList_value_d 26 rfl rfl (.pointer (some ⟨gb, j, none⟩)) (run_idx0 bT _ _ rfl gb L1.length cap1 j rfl rfl hjl _) ?_; (try simp only [Act.put, List.setIfInBounds_toArray, List.set_cons_zero, List.set_cons_succ])) | (refine wpList_value_d 27 rfl rfl (.int .u8 (z : Int)) (run_ld bT _ rfl ⟨gb, j, none⟩ rfl _ _ hcell.out) ?_; (try simp only [Act.put, List.setIfInBounds_toArray, List.set_cons_zero, List.set_cons_succ])) | (refine wpList_value_d 28 rfl rfl (.int .u8 (r : Int)) (run_xor8 _ _ _ _ rfl z 255 r HXR.out rfl rfl _) ?_; (try simp only [Act.put, List.setIfInBounds_toArray, List.set_cons_zero, List.set_cons_succ])) | (refine wpList_value_d 29 rfl rfl (.pointer (some ⟨gb, j, none⟩)) (run_idx0 bT _ _ rfl gb L1.length cap1 j rfl rfl hjl _) ?_; (try simp only [Act.put, List.setIfInBounds_toArray, List.set_cons_zero, List.set_cons_succ])) | (refine wpList_store_cell rfl rfl 5 _ _ rfl gb j rfl .u8 (r : Int) rfl 5 _ k1 size5 hjs _ rfl ?_; intro wS SS; have TT2 := Turn.step HCS.out hsz hr SS; replace GG := GG.store SS hb1; replace O2 := O2.apart SS (fun ad ha => by have := (O2.ge ad ha).1; omega); clear SS k1)))
      go_light
      go_roundw
      case rel => exact ⟨j + 1, by omega, by go_num, GG, TT2, O2⟩
      case measure => simp [intOf]; omega
end Go.Proofs.Ytkhbpkhkbidbdaa
