/- Reading: items, numbers within bounds, counts, flags; that nothing follows. -/
import Derived.Test.YthmcnlmphikicaaDR3
namespace Go.Proofs.Ythmcnlmphikicaa
open Go.RowKit
set_option maxRecDepth 100000 in
set_option maxHeartbeats 4000000 in
theorem end_bad (rb : Nat) (so : Option Addr) (sc : Nat) (l : List Nat) (i : Nat) (w : World) (krb : w.heap[rb]? = some (.cells (c123 ⟨so, l.length, sc⟩ (i : Int)) 123 (0, 0))) (_HB : BS rb w so sc l) (_hl : l.length ≤ 140737488355000) (hlt : decide (((i : Nat) : Int) < ((l.length : Nat) : Int)) = true) : Calls Try.prog 57 #[.pointer (some ⟨rb, 0, none⟩)] w fun e w' => e = .panicked (thrown 4) ∧ GroR rb w w' := by
  refine s_enter Try.func57 rfl Try.ntmps57 [.pointer (some ⟨rb, 0, none⟩)] [.pointer (some ⟨rb, 0, none⟩), undef, undef, undef, undef, undef, undef, undef, undef, undef, undef, undef, undef] rfl ?_
  have GG := GroR.refl rb w
  have hrb := lt_of_heap krb
  refine wp_seq ?_
  refine wp_region_exA (A := ?A) 10 [(0, 2), (1, 3), (2, 4), (3, 5), (4, 6), (5, 7), (6, 8), (7, 9), (8, 10), (9, 11)] [.val (.pointer (some ⟨rb, 0, none⟩)), .val (.pointer (some ⟨rb, 0, none⟩)), .val (.pointer (some ⟨rb, 1, none⟩)), .val (.int .i64 ((i : Nat) : Int)), .val (.pointer (some ⟨rb, 0, none⟩)), .val (.pointer (some ⟨rb, 0, none⟩)), .val (.pointer (some ⟨rb, 0, none⟩)), .val (.slice so l.length sc), .val (.int .i64 ((l.length : Nat) : Int)), .val (.bool true)] follows (by kernel_rfl) rfl ?hA (opsA_cons ?o0 (opsA_cons ?o1 (opsA_cons ?o2 (opsA_cons ?o3 (opsA_cons ?o4 (opsA_cons ?o5 (opsA_cons ?o6 (opsA_cons ?o7 (opsA_cons ?o8 (opsA_cons ?o9 opsA_nil)))))))))) ?rest
  case hA =>
    intro ptrs
    simp only [full, foldSlots, filledE, postE, List.foldl_cons, List.foldl_nil, List.getD_cons_zero, List.getD_cons_succ, fill_val, List.set_cons_zero, List.set_cons_succ]
    exact rfl
  case o0 => exact fun _ _ _ _ => opE_move (v := .pointer (some ⟨rb, 0, none⟩)) _ rfl rfl rfl
  case o1 => exact fun _ _ hw _ => opE_value (v := .pointer (some ⟨rb, 0, none⟩)) rfl (run_nc _ rfl _ rfl)
  case o2 => exact fun _ _ hw _ => opE_value (v := .pointer (some ⟨rb, 1, none⟩)) rfl (run_fld 123 _ 1 rfl _ _ rfl _)
  case o3 => exact fun _ _ hw _ => opE_value (v := .int .i64 ((i : Nat) : Int)) rfl (run_ldc 3 _ rfl rb 1 rfl 123 _ (hw.has krb) (na3 _) _ rfl)
  case o4 => exact fun _ _ _ _ => opE_move (v := .pointer (some ⟨rb, 0, none⟩)) _ rfl rfl rfl
  case o5 => exact fun _ _ hw _ => opE_value (v := .pointer (some ⟨rb, 0, none⟩)) rfl (run_nc _ rfl _ rfl)
  case o6 => exact fun _ _ hw _ => opE_value (v := .pointer (some ⟨rb, 0, none⟩)) rfl (run_fld 123 _ 0 rfl _ _ rfl _)
  case o7 => exact fun _ _ hw _ => opE_value (v := .slice so l.length sc) rfl (run_ldc 32 _ rfl rb 0 rfl 123 _ (hw.has krb) (na32 _) _ rfl)
  case o8 => exact fun _ _ hw _ => opE_value (v := .int .i64 ((l.length : Nat) : Int)) rfl (run_len Try.underlying32 _ rfl _ _ _ rfl _)
  case o9 => exact fun _ _ hw _ => opE_value (v := .bool true) rfl (run_lssT 3 _ _ _ rfl ((i : Nat) : Int) ((l.length : Nat) : Int) rfl rfl true hlt _)
  intro ptrs w1 GD hxE
  simp only [List.drop_succ_cons, List.drop_zero]
  replace krb := GD.has krb
  replace GG := GG.tg ((Gro.refl _).drew.trans GD)
  clear GD
  refine wpList_nil (then_n (wp_cond_true rfl (wp_region_lit (sv 12 (.iface 38 (.int .i64 4)) (run_mk 38 _ rfl _ rfl) ?_))))
  simp only [z0, z1]
  refine s_panic rfl _ rfl 38 (.int .i64 4) rfl ?_
  refine post_p rfl ?_
  exact ⟨rfl, GG⟩
end Go.Proofs.Ythmcnlmphikicaa
