/- What the document's Encode leans on: numbers (num), arrays in a boxed frame as rows. -/
import Derived.Test.YthmcnlmphikicaaEL1
import Derived.Test.YthmcnlmphikicaaEL7
import Derived.Test.YthmcnlmphikicaaEB11
namespace Go.Proofs.Ythmcnlmphikicaa
open Go.RowKit
theorem conv262 {o : Oper} {A : Act} (x : Operand) (ho : o.op = .convert 2 62 x) (n : Nat) (hn : n < 9223372036854775808) (hx : A.eval x = .int .i64 (n : Int)) (w : World) : (execOp A.eval o).run Try.prog w = .ok (.value (.int .u64 ((n : Nat) : Int))) w := by
  unfold execOp
  simp only [ho, hx]
  simp [go_sem]
  simp [IntKind.wrap, IntKind.bits, IntKind.signed]
  omega
theorem run_arrO {o : Oper} {A : Act} (x : Operand) (ho : o.op = .slice 23 x none none none) (g off : Nat) (hx : A.eval x = .pointer (some ⟨g, off, none⟩)) (w : World) : (execOp A.eval o).run Try.prog w = .ok (.value (.slice (some ⟨g, off, none⟩) 16 16)) w := by
  have h : (Instr.sliceAt 23 (.pointer (some ⟨g, off, none⟩)) none none none).run Try.prog w = .ok (.slice (some ⟨g, off, none⟩) 16 16) w := by kernel_rfl
  unfold execOp
  simp only [ho, hx, Option.map_none, Sem.run_bind, h, Result.andThen_ok, Sem.run_pure]
set_option maxRecDepth 100000 in
set_option maxHeartbeats 4000000 in
theorem num_d (n : Nat) (hn : n < 9223372036854775808) (w : World) : Calls Try.prog 26 #[.int .i64 ((n : Nat) : Int)] w fun e w' => ∃ ao cap, e = .returned (.slice ao (numL n).length cap) ∧ OB w' 5 .u8 w.heap.size ao cap (numL n) ∧ Gro w w' := by
  refine s_enter Try.func26 rfl Try.ntmps26 [.int .i64 ((n : Nat) : Int)] [.int .i64 ((n : Nat) : Int), undef, undef, undef, undef, undef] rfl ?_
  have GG := Gro.refl w
  refine wp_seq (wp_region_lit (mv 2 (.slice none 0 0) (wpList_nil (then_n (wp_seq (wp_region_lit (mv 3 (.int .i64 ((n : Nat) : Int)) (sv 4 (.int .u64 ((n : Nat) : Int)) (conv262 _ rfl n hn rfl _) ?_))))))))
  refine s_callx 5 rfl rfl _ 54 Try.call54 rfl rfl _ rfl [.int .u64 ((n : Nat) : Int)] rfl (num_doc n (by unfold lim; omega) _) (fun _ _ ⟨_, _, _, he, _⟩ => ⟨_, he⟩) ?_
  rintro v w1 ⟨ao, cap, L, he, hL, HO, G⟩
  cases he
  have e9 := hL.out
  subst e9
  replace G : Gro _ _ := G
  replace GG := GG.trans G
  clear G
  refine mv 2 (.slice ao ((numL n).length) cap) ?_
  refine nr ?_; intro U h; simp only [z0, z1] at h; subst h
  refine wpList_nil (then_n (wp_ret ?_))
  refine bodyPost_ret (results_tmp Try.results26 _ _ _) rfl ?_
  exact ⟨ao, cap, rfl, HO.mono (Nat.le_refl _), GG⟩
end Go.Proofs.Ythmcnlmphikicaa
namespace Go.Proofs.Ythmcnlmphikicaa
open Go.RowKit
def letL (f : Fr) (d : FD) (c : Nat) : List Nat :=
  bif decide (((c : Nat) : Int) = 102) then nI f.fi ++ nI f.fn
  else bif decide (((c : Nat) : Int) = 116) then nI f.ti ++ nI f.tn
  else bif decide (((c : Nat) : Int) = 110) then nI f.n
  else bif decide (((c : Nat) : Int) = 112) then idL f.pw ++ nI f.pn
  else bif decide (((c : Nat) : Int) = 97) then idL f.a
  else bif decide (((c : Nat) : Int) = 98) then idL f.b
  else bif decide (((c : Nat) : Int) = 100) then flagL f.toA
  else bif decide (((c : Nat) : Int) = 114) then trailL d.tr
  else bif decide (((c : Nat) : Int) = 115) then idsL d.ids
  else bif decide (((c : Nat) : Int) = 105) then idL f.key ++ nI f.vn ++ idL f.vw ++ textL d.val
  else bif decide (((c : Nat) : Int) = 107) then idL f.key ++ nI f.vn ++ idL f.vw
  else bif decide (((c : Nat) : Int) = 108) then nI f.op
  else bif decide (((c : Nat) : Int) = 111) then nI f.op
  else bif decide (((c : Nat) : Int) = 119) then nI f.ttl
  else bif decide (((c : Nat) : Int) = 120) then textL d.tx
  else bif decide (((c : Nat) : Int) = 121) then textL d.tx
  else []
def encN (f : Fr) (d : FD) (k : Nat) (F : List Nat) : Nat → List Nat
  | 0 => numL k
  | i + 1 => encN f d k F i ++ letL f d (F.getD i 0)
theorem letL_f (f : Fr) (d : FD) : letL f d 102 = nI f.fi ++ nI f.fn := rfl
theorem letL_t (f : Fr) (d : FD) : letL f d 116 = nI f.ti ++ nI f.tn := rfl
theorem letL_n (f : Fr) (d : FD) : letL f d 110 = nI f.n := rfl
theorem letL_p (f : Fr) (d : FD) : letL f d 112 = idL f.pw ++ nI f.pn := rfl
theorem letL_a (f : Fr) (d : FD) : letL f d 97 = idL f.a := rfl
theorem letL_b (f : Fr) (d : FD) : letL f d 98 = idL f.b := rfl
theorem letL_d (f : Fr) (d : FD) : letL f d 100 = flagL f.toA := rfl
theorem letL_r (f : Fr) (d : FD) : letL f d 114 = trailL d.tr := rfl
theorem letL_s (f : Fr) (d : FD) : letL f d 115 = idsL d.ids := rfl
theorem letL_i (f : Fr) (d : FD) : letL f d 105 = idL f.key ++ nI f.vn ++ idL f.vw ++ textL d.val := rfl
theorem letL_k (f : Fr) (d : FD) : letL f d 107 = idL f.key ++ nI f.vn ++ idL f.vw := rfl
theorem letL_l (f : Fr) (d : FD) : letL f d 108 = nI f.op := rfl
theorem letL_o (f : Fr) (d : FD) : letL f d 111 = nI f.op := rfl
theorem letL_w (f : Fr) (d : FD) : letL f d 119 = nI f.ttl := rfl
theorem letL_x (f : Fr) (d : FD) : letL f d 120 = textL d.tx := rfl
theorem letL_y (f : Fr) (d : FD) : letL f d 121 = textL d.tx := rfl
theorem encN_eq (k : Nat) (h1 : 1 ≤ k) (h2 : k ≤ 12) (f : Fr) (d : FD) : encN f d k (formL (k : Int)) (formL (k : Int)).length = frameL k f d := by
  rcases is12 h1 h2 with rfl | rfl | rfl | rfl | rfl | rfl | rfl | rfl | rfl | rfl | rfl | rfl
  · show encN f d 1 [102, 116, 97] 3 = frameL 1 f d
    simp [encN, letL_f, letL_t, letL_a, frameL, bodyL, sessL]
  · show encN f d 2 [102, 116, 110, 120] 4 = frameL 2 f d
    simp [encN, letL_f, letL_t, letL_n, letL_x, frameL, bodyL, sessL, putT]
  · show encN f d 3 [102, 116, 110] 3 = frameL 3 f d
    simp [encN, letL_f, letL_t, letL_n, frameL, bodyL, sessL]
  · show encN f d 4 [112, 97, 98, 114] 4 = frameL 4 f d
    simp [encN, letL_p, letL_a, letL_b, letL_r, frameL, bodyL, pathL]
  · show encN f d 5 [112] 1 = frameL 5 f d
    simp [encN, letL_p, frameL, bodyL, pathL]
  · show encN f d 6 [112, 100] 2 = frameL 6 f d
    simp [encN, letL_p, letL_d, frameL, bodyL, pathL]
  · show encN f d 7 [112, 100, 115] 3 = frameL 7 f d
    simp [encN, letL_p, letL_d, letL_s, frameL, bodyL, pathL]
  · show encN f d 8 [97, 98, 108, 112, 100, 114] 6 = frameL 8 f d
    simp [encN, letL_a, letL_b, letL_l, letL_p, letL_d, letL_r, frameL, bodyL, pathL]
  · show encN f d 9 [97, 110] 2 = frameL 9 f d
    simp [encN, letL_a, letL_n, frameL, bodyL]
  · show encN f d 10 [97, 98, 110, 111, 119, 105, 121] 7 = frameL 10 f d
    simp [encN, letL_a, letL_b, letL_n, letL_o, letL_w, letL_i, letL_y, frameL, bodyL, itemL, verL, putT]
  · show encN f d 11 [112, 100, 105] 3 = frameL 11 f d
    simp [encN, letL_p, letL_d, letL_i, frameL, bodyL, pathL, itemL, verL, putT]
  · show encN f d 12 [112, 100, 107] 3 = frameL 12 f d
    simp [encN, letL_p, letL_d, letL_k, frameL, bodyL, pathL, verL]
end Go.Proofs.Ythmcnlmphikicaa
