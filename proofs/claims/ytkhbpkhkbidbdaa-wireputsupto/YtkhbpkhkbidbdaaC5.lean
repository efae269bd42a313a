/- Wire: what is put is got. -/
import Derived.Test.YtkhbpkhkbidbdaaC3
import Derived.Test.YtkhbpkhkbidbdaaC4
namespace Go.Proofs.Ytkhbpkhkbidbdaa
open Go.RowKit

theorem OB.ltg {w : World} {e : TypeId} {k : IntKind} {B g : Nat} {ao : Option Addr} {cap : Nat} {l : List Nat} (h : OB w e k B ao cap l) (hg : w.heap.size = g) : ∀ ad, ao = some ad → ad.block < g := fun ad ha => by have := (h.ge ad ha).2; omega
theorem gro_app {w w1 w2 : World} {B : Nat} (h : Gro w w1) (hB : w.heap.size ≤ B) (hb : Below B w1 w2) : Gro w w2 := Below.trans h (hb.mono hB)
set_option maxHeartbeats 6400000 in
theorem wireBack_any (n : Nat) (hn : n < lim) (aos : Option Addr) (caps : Nat) (ls : List Nat) (aoa : Option Addr) (capa : Nat) (la : List Nat) (w : World) (HS : NC w .u8 aos caps ls) (HA : NC w .u8 aoa capa la) (hls : ls.length ≤ 1048576) (hla : la.length ≤ 1048576) :
    Calls Try.prog 5 #[.int .u64 (n : Int), .slice aos ls.length caps, .slice aoa la.length capa] w fun e w' => e = .returned (.bool true) ∧ Gro w w' := by
  have GG : Gro w w := Gro.refl w
  have HN : Shut (n < lim) := ⟨hn⟩
  have hnl := numL_le n
  have hTL := (textL_len ls).1
  clear hn
  go_enter Try.func5, Try.ntmps5
  go_wp2_with (first | (with_reducible refine wpList_at ?_; first | (refine wpList_none0 15 rfl rfl rfl ?_; intro w1 g1 G1 e1 K1; have b1 := size_base GG e1; replace GG := GG.trans G1; clear G1 e1; (try simp only [Act.put, List.setIfInBounds_toArray, List.set_cons_zero, List.set_cons_succ])) | (refine wpList_stop rfl ?_)))
  constructor
  have hg1 : g1 ≤ w1.heap.size := Nat.le_of_lt (K1.ge _ rfl).2
  refine wpList_app bT 17 rfl rfl _ _ rfl (l := []) rfl K1 rfl (HA.gro GG) (by simp; omega) (by decide) hg1 ?_
  intro ao3 cap3 L3 w3 E3 O3 B3
  replace GG := gro_app GG b1 B3
  replace hg1 := Nat.le_trans hg1 B3.size
  have E3' : L3 = la := E3.out
  subst L3
  clear B3 K1 E3
  simp only [Act.put, List.setIfInBounds_toArray, List.set_cons_zero, List.set_cons_succ]
  go_wp2_with (first | (go_at_call 12; refine (putNum_any (some ⟨g4, 0, none⟩) 1 [n] _ K4 (by simp)).mono ?_; rintro e wN ⟨ao4, cap4, L4, rfl, E4, O4, GN⟩; replace GG := GG.trans GN; replace O3 := O3.gro GN; replace hg1 := Nat.le_trans hg1 GN.size; clear GN K4) | (with_reducible refine wpList_at ?_; first | (refine wpList_oneU 19 rfl rfl _ rfl n HN.out rfl ?_; intro w4 g4 G4 e4 K4; replace GG := GG.trans G4; replace O3 := O3.gro G4; replace hg1 := Nat.le_trans hg1 G4.le; clear G4 e4; (try simp only [Act.put, List.setIfInBounds_toArray, List.set_cons_zero, List.set_cons_succ])) | (refine wpList_stop rfl ?_)))
  constructor
  have E4' : L4 = numL n := E4.out.trans (putN_one n)
  have h4 : L4.length ≤ 9 := by rw [E4']; exact hnl
  refine wpList_app bT 21 rfl rfl _ _ rfl rfl O3 rfl O4.nc (by omega) (by decide) hg1 ?_
  intro ao5 cap5 L5 w5 E5 O5 B5
  replace GG := gro_app GG b1 B5
  have E5' : Shut (L5 = la ++ numL n) := ⟨by rw [E5.out, E4']⟩
  have h5 : L5.length ≤ 1048585 := by rw [E5.out, List.length_append]; omega
  have HG : Shut (getE L5 (la.length : Int) = (n, L5.length, 0)) := ⟨by
    have := getE_num la [] n HN.out
    rw [List.append_nil] at this
    rw [E5'.out, this, List.length_append]⟩
  clear E4 E4' h4 E5 B5 O4 O3 hg1 b1
  simp only [Act.put, List.setIfInBounds_toArray, List.set_cons_zero, List.set_cons_succ]
  go_wp2_with (first | (go_at_call 14; refine (getNum_any ao5 cap5 L5 _ O5.nc (la.length : Int) (by omega)).mono ?_; rintro e wN ⟨rfl, hwN⟩; replace hwN := hwN.symm; subst hwN; rw [HG.out]) | (with_reducible refine wpList_at ?_; first | (refine wpList_none0 30 rfl rfl rfl ?_; intro w6 g6 G6 e6 K6; have b6 := size_base GG e6; replace GG := GG.trans G6; have O5lt := OB.ltg O5 e6; replace O5 := O5.gro G6; clear G6 e6; (try simp only [Act.put, List.setIfInBounds_toArray, List.set_cons_zero, List.set_cons_succ])) | (refine wpList_stop rfl ?_)))
  constructor
  have hg6 : g6 ≤ w6.heap.size := Nat.le_of_lt (K6.ge _ rfl).2
  have s5 : Shut (∀ ad, ao5 = some ad → 0 < L5.length → ad.block < g6) := ⟨fun ad ha h => by have := O5lt ad ha; omega⟩
  refine wpList_app bT 32 rfl rfl _ _ rfl (l := []) rfl K6 rfl O5.nc (by simp; omega) (by decide) hg6 ?_
  intro ao7 cap7 L7 w7 E7 O7 B7
  replace GG := gro_app GG b6 B7
  replace hg6 := Nat.le_trans hg6 B7.size
  have N5 := O5.nc.below B7 s5.out
  have E7' : L7 = L5 := E7.out
  subst L7
  clear B7 K6 E7 O5 s5 O5lt
  simp only [Act.put, List.setIfInBounds_toArray, List.set_cons_zero, List.set_cons_succ]
  go_wp2_with (first | (go_at_call 13; refine (putText_any (some ⟨g8, 0, none⟩) 1 [ls] _ K8 (by rw [putT_one]; omega) (by simp)).mono ?_; rintro e wN ⟨ao8, cap8, L8, rfl, E8, O8, GN⟩; replace GG := GG.trans GN; replace O7 := O7.gro GN; replace N5 := N5.gro GN; replace hg6 := Nat.le_trans hg6 GN.size; clear GN K8) | (with_reducible refine wpList_at ?_; first | (refine wpList_oneT 34 rfl rfl _ rfl aos caps ls rfl (HS.gro GG) ?_; intro w8 g8 G8 e8 K8; replace GG := GG.trans G8; replace O7 := O7.gro G8; replace N5 := N5.gro G8; replace hg6 := Nat.le_trans hg6 G8.le; clear G8 e8; (try simp only [Act.put, List.setIfInBounds_toArray, List.set_cons_zero, List.set_cons_succ])) | (refine wpList_stop rfl ?_)))
  constructor
  have E8' : L8 = textL ls := E8.out.trans (putT_one ls)
  have h8 : L8.length ≤ 1048585 := by rw [E8']; omega
  refine wpList_app bT 36 rfl rfl _ _ rfl rfl O7 rfl O8.nc (by omega) (by decide) hg6 ?_
  intro ao9 cap9 L9 w9 E9 O9 B9
  replace GG := gro_app GG b6 B9
  have h9 : L9.length ≤ 2097170 := by rw [E9.out, List.length_append]; omega
  have HT : Shut (getT L9 (L5.length : Int) (ls.length : Int) = (ls, L9.length, 0)) := ⟨by rw [E9.out, E8']; exact getT_text L5 ls (by unfold lim; omega)⟩
  clear E8 E8' h8 E9 B9 O8 O7 hg6 b6 N5
  simp only [Act.put, List.setIfInBounds_toArray, List.set_cons_zero, List.set_cons_succ]
  go_wp2_with (first | (go_at_call 16; refine (getText_any ao9 cap9 L9 _ O9.nc (L5.length : Int) (ls.length : Int) (by omega) (by omega)).mono ?_; rintro e wN ⟨aot, capt, Lt, rfl, Et, Ot, GN⟩; rw [HT.out] at Et ⊢; have ELt : Lt = ls := Et.out; subst Lt; clear Et; replace GG := GG.trans GN; clear GN O9))
  refine (fixed_any _).mono ?_
  rintro e wN ⟨rfl, GN⟩
  have Nt := Ot.nc.gro GN
  replace GG := GG.trans GN
  have Ns := HS.gro GG
  clear GN Ot HG HT E5'
  go_wp2_with (first | (with_reducible refine wpList_at ?_; first | (refine wpList_gvalue_d 50 rfl rfl (.bool true) (run_eq_k 25 .u64 _ _ _ rfl Try.underlying25 (n : Int) (n : Int) rfl rfl true (decide_eq_true rfl) _) ?_; (try simp only [Act.put, List.setIfInBounds_toArray, List.set_cons_zero, List.set_cons_succ])) | (refine wpList_gvalue_d 56 rfl rfl (.bool true) (run_eq_k 3 .i64 _ _ _ rfl Try.underlying3 (L5.length : Int) (L5.length : Int) rfl rfl true (decide_eq_true rfl) _) ?_; (try simp only [Act.put, List.setIfInBounds_toArray, List.set_cons_zero, List.set_cons_succ])) | (refine wpList_gvalue_d 60 rfl rfl (.bool true) (run_eq_k 32 .i64 _ _ _ rfl Try.underlying32 ((0 : Nat) : Int) 0 rfl rfl true (decide_eq_true rfl) _) ?_; (try simp only [Act.put, List.setIfInBounds_toArray, List.set_cons_zero, List.set_cons_succ])) | (refine wpList_gvalue_d 64 rfl rfl (.string (bas ls)) (run_text_op bT 9 Try.underlying9 _ rfl rfl Nt) ?_; (try simp only [Act.put, List.setIfInBounds_toArray, List.set_cons_zero, List.set_cons_succ])) | (refine wpList_gvalue_d 66 rfl rfl (.string (bas ls)) (run_text_op bT 9 Try.underlying9 _ rfl rfl Ns) ?_; (try simp only [Act.put, List.setIfInBounds_toArray, List.set_cons_zero, List.set_cons_succ])) | (refine wpList_gvalue_d 67 rfl rfl (.bool true) (run_eqs_op _ _ _ rfl _ _ rfl rfl true (decide_eq_true rfl) _) ?_; (try simp only [Act.put, List.setIfInBounds_toArray, List.set_cons_zero, List.set_cons_succ])) | (refine wpList_gvalue_d 73 rfl rfl (.bool true) (run_eq_k 3 .i64 _ _ _ rfl Try.underlying3 (L9.length : Int) (L9.length : Int) rfl rfl true (decide_eq_true rfl) _) ?_; (try simp only [Act.put, List.setIfInBounds_toArray, List.set_cons_zero, List.set_cons_succ])) | (refine wpList_gvalue_d 77 rfl rfl (.bool true) (run_eq_k 32 .i64 _ _ _ rfl Try.underlying32 ((0 : Nat) : Int) 0 rfl rfl true (decide_eq_true rfl) _) ?_; (try simp only [Act.put, List.setIfInBounds_toArray, List.set_cons_zero, List.set_cons_succ]))))
  go_ret
  exact ⟨rfl, GG⟩
end Go.Proofs.Ytkhbpkhkbidbdaa
