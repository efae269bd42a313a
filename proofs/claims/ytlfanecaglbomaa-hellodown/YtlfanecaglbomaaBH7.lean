/- The program's end: Tick; each call, told of the end alone. -/
import Derived.Test.YtlfanecaglbomaaBH6
namespace Go.Proofs.Ytlfanecaglbomaa
open Go.RowKit
theorem cellsF_cut (fs : List (PF × Fr)) (j : Nat) (x : PF × Fr) (h : fs[j]? = some x) : (((cellsF fs).drop (j * 95)).take 95).toArray = frA x.2 := by
  apply Array.toList_inj.1
  apply List.ext_getElem?
  intro i
  rw [List.getElem?_take]
  by_cases hi : i < 95
  · rw [if_pos hi, List.getElem?_drop]
    exact cellsF_at fs j x h i _ (List.getElem?_eq_getElem (by rw [frA_len]; exact hi)) |>.trans (List.getElem?_eq_getElem _).symm
  · rw [if_neg hi, List.getElem?_eq_none (by rw [frA_len]; omega)]
theorem LF.some {w : World} {B : Nat} {ao : Option Addr} {cap : Nat} {fs : List (PF × Fr)} (H : LF w B ao cap fs) (h : 0 < fs.length) : ∃ ad, ao = some ad := H.row.xc.some h
theorem run_ldF {o : Oper} {A : Act} {B cap : Nat} {fs : List (PF × Fr)} (x : Operand) (ho : o.op = .load 46 x) (ad : Addr) (j : Nat) (hx : A.eval x = .pointer (some (ad.add (j * 95)))) (w : World) (H : LF w B (some ad) cap fs) (y : PF × Fr) (hy : fs[j]? = some y) : (execOp A.eval o).run Try.prog w = .ok (.value (.agg (frA y.2))) w :=
  run_ldXv rF _ Try.underlying46 rfl x ho ad j hx w H.row.xc ((List.getElem?_eq_some_iff.1 hy).1) _ (cellsF_cut fs j y hy)
theorem run_idxF {o : Oper} {A : Act} (x y : Operand) (ho : o.op = .indexAddr 50 x y) (ad : Addr) (n cap j : Nat) (hx : A.eval x = .slice (some ad) n cap) (hy : A.eval y = .int .i64 (j : Int)) (hj : j < n) (w : World) : (execOp A.eval o).run Try.prog w = .ok (.value (.pointer (some (ad.add (j * 95))))) w := run_idxX rF x y ho ad n cap j hx hy hj w
/-- What a call that tells frames leaves of an end. -/
def ListP (w : World) (p : Nat) (id : Nat → Nat) (mu tb : List Nat) (r : ES × List PF) (e : Ending) (w' : World) : Prop := ∃ (ao : Option Addr) (cap : Nat) (fs : List (PF × Fr)) (mu' tb' : List Nat), e = .returned (.slice ao fs.length cap) ∧ fs.map (·.1) = r.2 ∧ LF w' 0 ao cap fs ∧ EX w' p id r.1 mu' tb' ∧ GroS mu w w' ∧ Fresh w mu mu' ∧ Fresh w tb tb'
theorem LF.mono {w : World} {B B' : Nat} {ao : Option Addr} {cap : Nat} {fs : List (PF × Fr)} (h : LF w B ao cap fs) (hB : B' ≤ B) : LF w B' ao cap fs := ⟨⟨h.row.len, h.row.row.imp (fun h => h) fun ⟨g, d, cur, h1, h2, h3⟩ => ⟨g, d, cur, h1, Nat.le_trans hB h2, h3⟩, h.row.one⟩, h.fv⟩
set_option maxRecDepth 100000 in
set_option maxHeartbeats 4000000 in
theorem tick_nil (w : World) : Calls Try.prog 14 #[.pointer none] w fun e w' => e = .returned (.slice none 0 0) ∧ Gro w w' := by
  refine s_enter Try.func14 rfl Try.ntmps14 [.pointer none] [.pointer none, undef, undef, undef, undef, undef, undef, undef, undef, undef, undef, undef, undef, undef, undef, undef, undef, undef, undef, undef, undef, undef, undef, undef, undef, undef, undef, undef, undef, undef, undef, undef, undef, undef, undef, undef, undef, undef, undef, undef, undef, undef, undef, undef, undef, undef, undef, undef] rfl ?_
  have GG := Gro.refl w
  refine wp_seq ?_
  refine wp_region_lit ?_
  refine s_val 2 rfl rfl (.slice none 0 0) (rfl) ?_
  refine nr ?_; intro U h; simp only [z0, z1] at h; subst h
  refine wpList_nil ?_
  refine then_n ?_
  refine wp_seq ?_
  refine wp_seq ?_
  refine wp_region_lit ?_
  refine s_val 8 rfl rfl (.pointer none) (rfl) ?_
  refine nr ?_; intro U h; simp only [z0, z1] at h; subst h
  refine s_callv 9 rfl rfl _ 28 Try.call28 rfl rfl _ rfl [.pointer none] rfl (up_nil _) ?_
  intro w1 G
  replace GG := GG.trans G
  clear G
  refine nr ?_; intro U h; simp only [z0, z1] at h; subst h
  refine s_val 10 rfl rfl (.bool true) (run_nt _ _ rfl false rfl) ?_
  refine nr ?_; intro U h; simp only [z0, z1] at h; subst h
  refine wpList_nil ?_
  refine then_n ?_
  refine wp_cond_true rfl ?_
  refine wp_seq ?_
  refine wp_region_lit ?_
  refine s_val 2 rfl rfl (.slice none 0 0) (rfl) ?_
  refine nr ?_; intro U h; simp only [z0, z1] at h; subst h
  refine wpList_nil ?_
  refine then_n ?_
  refine wp_ret ?_
  refine then_r ?_
  refine bodyPost_ret (results_tmp Try.results14 _ _ _) rfl ?_
  exact ⟨rfl, GG⟩
section
variable (w : World) (p : Nat) (id : Nat → Nat) (x : ES) (mu tb : List Nat)
theorem open_x (H : EX w p id x mu tb) : Calls Try.prog 24 #[.pointer (some ⟨p, 0, none⟩)] w fun e w' => e = .returned (.tuple #[.agg (c23 (if x.op = true then x.oth else zF)), .bool x.op]) ∧ Gro w w' := by
  obtain ⟨wp, B, ro, rc, q, h, _⟩ := H
  obtain ⟨up, op, mi, mn, pi, pn, oth, k, xq, c⟩ := x
  cases op
  · exact open_no w p wp B id up mi mn pi pn oth ro rc q k c h
  · exact open_yes w p wp B id up mi mn pi pn oth ro rc q k c h
theorem rise_x (H : EX w p id x mu tb) (ni nn : Int) : Calls Try.prog 10 #[.pointer (some ⟨p, 0, none⟩), .agg (c29 ni nn)] w (ListP w p id mu tb (riseS id x ni nn)) := by
  obtain ⟨wp, B, ro, rc, q, h, hq, rfl, rfl⟩ := H
  obtain ⟨up, op, mi, mn, pi, pn, oth, k, xq, c⟩ := x
  simp only at h hq
  subst hq
  cases up
  · exact (rise_down w p wp B id op mi mn pi pn oth ro rc q k c h ni nn).mono fun e w' ⟨g, f, he, G, h1, h2⟩ => ⟨_, _, [(_, f)], _, _, he, rfl, h2.mono (Nat.zero_le _), ⟨wp, B, ro, rc, q, h1, rfl, rfl, rfl⟩, G.p1, Fresh.refl _ _, Fresh.refl _ _⟩
  · exact (rise_up w p wp B id op mi mn pi pn oth ro rc q k c h ni nn).mono fun e w' ⟨he, G⟩ => ⟨none, 0, [], _, _, he, rfl, LF.nil _ _, ⟨wp, B, ro, rc, q, h.gro G, rfl, rfl, rfl⟩, GroS.of G, Fresh.refl _ _, Fresh.refl _ _⟩
end
def PF.zero : PF := ⟨0, zF, 0, 0, 0, 0, 0, []⟩
theorem FV.zero (w : World) : FV w PF.zero (pfr PF.zero Sl.nil Sl.nil Sl.nil Sl.nil) := ⟨Sl.nil, Sl.nil, Sl.nil, none, 0, rfl, NoR.nil, NoR.nil, NoR.nil, OB.nil _ _ _ _⟩
end Go.Proofs.Ytlfanecaglbomaa
