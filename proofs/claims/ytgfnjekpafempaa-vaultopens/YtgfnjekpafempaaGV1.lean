/- Bytes, keys and versions: Clone, apart, Newer, Form, the record of a beginning. -/
import Derived.Test.YtgfnjekpafempaaGA1
import Derived.Test.YtgfnjekpafempaaGG5
import Derived.Test.YtgfnjekpafempaaGAb
namespace Go.Proofs.Ytgfnjekpafempaa
set_option maxHeartbeats 4000000
set_option maxRecDepth 100000
open Go.RowKit
theorem Gro.gro {a b c : World} (h : Gro a b) (k : Gro b c) : Gro a c := h.trans k
theorem Gro.ne {a b : World} {g : Nat} (h : Gro a b) (e : b.heap.size = g) : a.heap.size ≤ g := e ▸ h.size
theorem Gro.st {a b c : World} {g : Nat} {x : Obj} (h : Gro a b) (S : Stored b c g x) (hn : a.heap.size ≤ g) : Gro a c := h.store S hn
theorem Gro.neG {a b : World} {g : Nat} (h : Gro a b) (c : b.heap.size ≤ g) : a.heap.size ≤ g := Nat.le_trans h.size c
def NEo (ao : Option Addr) (g : Nat) : Prop := ∀ ad, ao = some ad → ad.block ≠ g
section
variable {w w' : World} {e : TypeId} {k : IntKind} {B g : Nat} {ao : Option Addr} {cap : Nat} {l : List Nat} {x : Obj}
theorem NC.ne (h : NC w k ao cap l) (e : w.heap.size = g) : NE ao l.length g := fun ad ha h0 => by
  have := h.lt ad ha h0
  omega
theorem NC.st (h : NC w k ao cap l) (S : Stored w w' g x) (hn : NE ao l.length g) : NC w' k ao cap l := GroS.nc S.gros h (fun ad ha h0 => by simpa using hn ad ha h0)
theorem NC.neG (h : NC w k ao cap l) (c : w.heap.size ≤ g) : NE ao l.length g := fun ad ha h0 => by
  have := h.lt ad ha h0
  omega
theorem OB.neG (h : OB w e k B ao cap l) (c : w.heap.size ≤ g) : NEo ao g := fun ad ha => by
  have := (h.ge ad ha).2
  omega
theorem OB.ne (h : OB w e k B ao cap l) (hs : w.heap.size = g) : NEo ao g := fun ad ha => by
  have := (h.ge ad ha).2
  omega
theorem OB.neB (h : OB w e k B ao cap l) (hg : g < B) : NEo ao g := fun ad ha => by
  have := (h.ge ad ha).1
  omega
theorem OB.st (h : OB w e k B ao cap l) (S : Stored w w' g x) (hn : NEo ao g) : OB w' e k B ao cap l := h.apart S hn
end
theorem JK : top = 256 ^ 16 := by decide
theorem bA_of {l : List Nat} {n : Nat} (h : l.length = 16) (hj : ∀ j, j < 16 → l.getD j 0 = byt n j) : bA l = idA n := by
  apply Array.ext
  · rw [vC, h, zN]
  · intro j h1 h2
    have h3 : j < l.length := by rw [vC] at h1; exact h1
    have e := hj j (by omega)
    rw [List.getD_eq_getElem?_getD, List.getElem?_eq_getElem h3, Option.getD_some] at e
    simp only [bA, idA, List.getElem_toArray, List.getElem_map, Array.getElem_ofFn, e]
theorem bA_id (n : Nat) : bA (beL 16 n) = idA n := bA_of (jP 16 n) fun j hj => (yV 16 n j hj).trans rfl
theorem jca {l : List Nat} (h : l.length = 16) (hb : ∀ x ∈ l, x < 256) : bA l = idA (valL l) := by rw [← bA_id, Zz 16 l h hb]
theorem byt_be (n j : Nat) (hj : j < 16) : byt n j = (beL 16 n).getD j 0 := by
  rw [yV 16 n j hj]
  rfl
theorem jdk (x : IM) (j : Nat) (hj : j < 16) : (itA x)[0 + j]? = some (.int .u8 (byt x.key j : Int)) := by
  rw [Nat.zero_add, itA, List.getElem?_toArray, itL, List.getElem?_append_left (by rw [um]; exact hj), Array.getElem?_toList, zZ _ _ hj]
theorem jdj (x : IM) (j : Nat) (hj : j < 16) : (itA x)[17 + j]? = some (.int .u8 (byt x.who j : Int)) := by
  rw [itA, List.getElem?_toArray, itL, List.getElem?_append_right (by rw [um]; omega), um, show 17 + j - 16 = j + 1 by omega, List.getElem?_cons_succ, List.getElem?_append_left (by rw [um]; exact hj), Array.getElem?_toList, zZ _ _ hj]
theorem nc_id {w : World} {g off n : Nat} {cs : Array Value} {t : TypeId} (hg : w.heap[g]? = some (.cells cs t (0, 0))) (hc : ∀ j, j < 16 → cs[off + j]? = some (.int .u8 (byt n j : Int))) : NC w .u8 (some ⟨g, off, none⟩) 16 (beL 16 n) :=
  ⟨by rw [jP]; exact Nat.le_refl _, fun h => by (cases h), fun ad ha j hj => by
    cases ha
    rw [jP] at hj
    rw [zQ, cell_of_row w g _ _ t _ hg, hc j hj, byt_be n j hj], fun x hx => by
    have := Yu 16 n x hx
    rw [yW]
    omega⟩
theorem YR {o : Oper} {A : Act} (x : Operand) (ho : o.op = .slice 52 x none none none) (g off : Nat) (hx : A.eval x = .pointer (some ⟨g, off, none⟩)) (w : World) : (execOp A.eval o).run Try.prog w = .ok (.value (.slice (some ⟨g, off, none⟩) 16 16)) w := by
  have h : (Instr.sliceAt 52 (.pointer (some ⟨g, off, none⟩)) none none none).run Try.prog w = .ok (.slice (some ⟨g, off, none⟩) 16 16) w := by kernel_rfl
  unfold execOp
  simp only [ho, hx, Option.map_none, Sem.run_bind, h, Result.andThen_ok, Sem.run_pure]
theorem conv2U {o : Oper} {A : Act} (x : Operand) (ho : o.op = .convert 2 75 x) (z : Int) (hx : A.eval x = .int .i64 z) (n : Nat) (hz : z = (n : Int)) (hn : n < lim) (w : World) : (execOp A.eval o).run Try.prog w = .ok (.value (.int .u64 (n : Int))) w := by
  subst hz
  have h : IntKind.u64.wrap (n : Int) = (n : Int) := by
    unfold lim at hn
    simp [IntKind.wrap, IntKind.bits, IntKind.signed]
    omega
  unfold execOp
  simp only [ho, hx]
  simp [go_sem, h]
theorem convU2 {o : Oper} {A : Act} (x : Operand) (ho : o.op = .convert 75 2 x) (n : Nat) (hn : n < 9223372036854775808) (hx : A.eval x = .int .u64 (n : Int)) (w : World) : (execOp A.eval o).run Try.prog w = .ok (.value (.int .i64 (n : Int))) w := by
  have h : IntKind.i64.wrap (n : Int) = (n : Int) := by
    simp [IntKind.wrap, IntKind.bits, IntKind.signed]
    omega
  unfold execOp
  simp only [ho, hx]
  simp [go_sem, h]
def BytP (w : World) (l : List Nat) (e : Ending) (w' : World) : Prop := ∃ ao cap, e = .returned (.slice ao l.length cap) ∧ Gro w w' ∧ OB w' 5 .u8 w.heap.size ao cap l
theorem AppP.byt {w : World} {l : List Nat} {e : Ending} {w' : World} (h : AppP w w.heap.size l e w') : BytP w l e w' := by
  obtain ⟨ao, cap, L, he, hL, ho, hb⟩ := h
  have := hL.out
  subst this
  exact ⟨ao, cap, he, hb, ho⟩
theorem BytP.to {w : World} {l m : List Nat} (h : l = m) {e : Ending} {w' : World} (H : BytP w l e w') : BytP w m e w' := h ▸ H
theorem VO {w : World} {g : Nat} {l : List Nat} {t : TypeId} (hg : w.heap[g]? = some (.cells (l.map fun n : Nat => Value.int .u64 (n : Int)).toArray t (0, 0))) (hl : ∀ x ∈ l, x < lim) : NC w .u64 (some ⟨g, 0, none⟩) l.length l :=
  ⟨Nat.le_refl _, fun h => by (cases h), fun ad ha j hj => by
    cases ha
    rw [zQ, cell_of_row w g _ _ t _ hg, Nat.zero_add]
    simp [List.getD_eq_getElem?_getD, hj], fun x hx => by
    have := hl x hx
    rw [UK]
    unfold lim at this
    omega⟩
theorem jdi {w : World} {g : Nat} {ao : Option Addr} {cap : Nat} {l : List Nat} {t : TypeId} (hg : w.heap[g]? = some (.cells #[.slice ao l.length cap] t (0, 0))) (h : NC w .u8 ao cap l) : LC w (some ⟨g, 0, none⟩) 1 [l] := by
  have h1 := jax (w := w) (ao := some ⟨g, 0, none⟩) (cap := 1) (q := [⟨ao, cap, l⟩]) (Vr hg rfl) (fun x hx => by rw [List.mem_singleton.1 hx]; exact h)
  exact h1
section
variable {ops : Array Oper} {rest : List Oper} {o : Oper} {T : List Value} {ds : List Deferred} {w : World} {Q : Exit → Act → World → Prop}
theorem jcp (dst : Nat) (hd : o.dst = some dst) (hgd : o.guard = none) (ho : o.op = .buildSlice 30 0 #[])
    (h : ∀ w' g, Gro w w' → w.heap.size = g → OB w' 5 .u8 g (some ⟨g, 0, none⟩) 0 [] → wpList Try.prog ops Q rest ⟨(T.set dst (.slice (some ⟨g, 0, none⟩) 0 0)).toArray, ds⟩ w') : wpList Try.prog ops Q (o :: rest) ⟨T.toArray, ds⟩ w :=
  uK dst hd hgd ho fun w' g h1 h2 h3 => by rw [jY]; exact h w' g h1 h2 h3
end
theorem putN1 (n : Nat) : putN [n] = numL n := by simp [putN]
theorem putN2 (n m : Nat) : putN [n, m] = numL n ++ numL m := by simp [putN]
theorem putT1 (l : List Nat) : putT [l] = textL l := by simp [putT]
theorem yZ (l : List Nat) : (textL l).length ≤ l.length + 9 := by
  unfold textL
  rw [List.length_append]
  have := UG l.length
  omega
def IM.it (x : IM) : It := ⟨x.key, x.n.toNat, x.who, x.val⟩
theorem jds (x : IM) : (((numL 2 ++ beL 16 x.key) ++ numL x.n.toNat) ++ beL 16 x.who) ++ textL x.val = formV x.it := by
  unfold formV IM.it
  simp only [List.append_assoc]
def cmpZ (a b : Int) : Int := if a < b then -1 else if b < a then 1 else 0
def nwV (a b : VM) : Bool := decide (b.n < a.n ∨ (a.n = b.n ∧ b.who < a.who))
def orZ (a b : Int) : Int := if a = 0 then b else a
theorem nw_or (a b : VM) : decide (0 < orZ (cmpZ a.n b.n) (cmpN a.who b.who)) = nwV a b := by
  unfold nwV
  rw [decide_eq_decide]
  unfold orZ cmpZ cmpN
  repeat' split
  all_goals omega
theorem Ke (ao : Option Addr) (cap : Nat) (l : List Nat) (w : World) (HC : NC w .u8 ao cap l) (hb : l.length ≤ 140737488355000) : Calls Try.prog 70 #[.slice ao l.length cap] w (BytP w l) := by
  cases ao with
  | none =>
    have h1 := HC.bare rfl
    have h2 := HC.fit
    have h4 : l = [] := List.eq_nil_of_length_eq_zero (by omega)
    subst h1 h4
    refine js Try.func70 rfl Try.ntmps70 [.slice none 0 0] [.slice none 0 0, uD, uD, uD, uD, uD, uD, uD] rfl ?_
    have GG := Gro.refl w
    refine qS ?_
    refine ja 2 rfl rfl (.slice none 0 0) (rfl) ?_
    refine nr ?_; intro U h; simp only [z0, z1] at h; subst h
    refine qL (qE (qS ?_))
    refine ja 3 rfl rfl (.slice none 0 0) (rfl) ?_
    refine ja 4 rfl rfl (vT) (jD .eql 30 _ _ _ rfl _ _ _ rfl rfl (by kernel_rfl) (by kernel_rfl)) ?_
    refine nr ?_; intro U h; simp only [z0, z1] at h; subst h
    refine qL (qT rfl (qS ?_))
    refine ja 2 rfl rfl (.slice none 0 0) (rfl) ?_
    refine nr ?_; intro U h; simp only [z0, z1] at h; subst h
    refine qL (qR (jr ?_))
    refine bodyPost_ret (results_tmp Try.results70 _ _ _) rfl ?_
    exact ⟨none, 0, rfl, GG, OB.nil _ _ _ _⟩
  | some ad =>
    refine js Try.func70 rfl Try.ntmps70 [.slice (some ad) l.length cap] [.slice (some ad) l.length cap, uD, uD, uD, uD, uD, uD, uD] rfl ?_
    have GG := Gro.refl w
    refine qS ?_
    refine ja 2 rfl rfl (.slice none 0 0) (rfl) ?_
    refine nr ?_; intro U h; simp only [z0, z1] at h; subst h
    refine qL (qE (qS ?_))
    refine ja 3 rfl rfl (.slice (some ad) l.length cap) (rfl) ?_
    refine ja 4 rfl rfl (vF) (jD .eql 30 _ _ _ rfl _ _ _ rfl rfl (by kernel_rfl) (by kernel_rfl)) ?_
    refine nr ?_; intro U h; simp only [z0, z1] at h; subst h
    refine qL (qF rfl (qK (qS ?_)))
    refine jcp 5 rfl rfl rfl ?_
    intro w1 q1 G eq1 HO
    have bq := jk GG eq1
    replace HC := HC.gro G
    replace GG := GG.trans G
    clear G
    refine nr ?_; intro U h; simp only [z0, z1] at h; subst h
    refine ja 6 rfl rfl (.slice (some ad) l.length cap) (rfl) ?_
    refine nr ?_; intro U h; simp only [z0, z1] at h; subst h
    refine vD bT 7 rfl rfl _ _ rfl (l := []) rfl HO rfl HC (by simp only [List.length_nil]; omega) (by decide) (Nat.le_of_lt (HO.ge _ rfl).2) ?_
    intro ao2 cap2 w2 HO2 BB
    replace GG := zI GG BB bq
    rw [List.nil_append] at HO2 ⊢
    refine nr ?_; intro U h; simp only [z0, z1] at h; subst h
    refine ja 2 rfl rfl (.slice ao2 l.length cap2) (rfl) ?_
    refine nr ?_; intro U h; simp only [z0, z1] at h; subst h
    refine qL (qR ?_)
    refine bodyPost_ret (results_tmp Try.results70 _ _ _) rfl ?_
    exact ⟨ao2, cap2, rfl, GG, HO2.mono bq⟩
theorem vo (x : IM) (w : World) (HX : NC w .u8 x.ao x.cap x.val) (hb : x.val.length ≤ 140737488355000) : Calls Try.prog 44 #[.agg (itA x)] w (fun e w' => ∃ ao cap, e = .returned (.agg (itA (x.re ao cap))) ∧ Gro w w' ∧ OB w' 5 .u8 w.heap.size ao cap x.val) := by
  refine js Try.func44 rfl Try.ntmps44 [.agg (itA x)] [.agg (itA x), uD, uD, uD, uD, uD, uD, uD] rfl ?_
  have GG := Gro.refl w
  refine qS ?_
  refine zw 1 rfl rfl 56 _ rfl _ rfl (itA x) rfl ?_
  intro w1 g1 G eg1 kg1
  have bg1 := jk GG eg1
  have dHXg1 := HX.ne eg1
  replace HX := HX.gro G
  replace GG := GG.trans G
  clear G
  clear eg1
  refine nr ?_; intro U h; simp only [z0, z1] at h; subst h
  refine jU 2 rfl rfl 56 rfl _ zeroIt (itA zM) rfl ?_
  intro w2 g2 G eg2 kg2
  have bg2 := jk GG eg2
  have dg1g2 := jH kg1 eg2
  have dHXg2 := HX.ne eg2
  replace kg1 := G.has kg1
  replace HX := HX.gro G
  replace GG := GG.trans G
  clear G
  clear eg2
  refine nr ?_; intro U h; simp only [z0, z1] at h; subst h
  refine qA ?_
  refine ja 3 rfl rfl (vP g1 33) (jf 56 _ 2 rfl g1 0 rfl 33 (by kernel_rfl)) ?_
  refine ja 4 rfl rfl (.slice x.ao x.val.length x.cap) (ldItr _ rfl g1 rfl (kg1)) ?_
  refine nr ?_; intro U h; simp only [z0, z1] at h; subst h
  refine jx 5 rfl rfl _ 70 Try.call70 rfl rfl _ rfl [.slice x.ao x.val.length x.cap] rfl (Ke x.ao x.cap x.val _ HX hb) (by rintro _ _ ⟨_, _, he, _, _⟩; exact ⟨_, he⟩) ?_
  have lzg1 := ji kg1
  have lzg2 := ji kg2
  rintro v w3 ⟨ao1, cap1, he, G, HO1⟩
  cases he
  have dHO1g1 := HO1.neB lzg1
  have dHO1g2 := HO1.neB lzg2
  replace HO1 := HO1.mono GG.size
  replace kg1 := G.has kg1
  replace kg2 := G.has kg2
  replace HX := HX.gro G
  replace GG := GG.trans G
  clear G
  refine nr ?_; intro U h; simp only [z0, z1] at h; subst h
  refine ja 6 rfl rfl (vP g1 33) (jf 56 _ 2 rfl g1 0 rfl 33 (by kernel_rfl)) ?_
  refine nr ?_; intro U h; simp only [z0, z1] at h; subst h
  refine jt rfl rfl 30 _ _ rfl g1 33 rfl (.slice ao1 x.val.length cap1) rfl 56 _ kg1 #[.slice ao1 x.val.length cap1] rfl siBy (by rw [zX]; exact Nat.le_refl _) (Ks _ _ _) (itA (x.re ao1 cap1)) (jck x _ _) ?_
  intro w4 St
  replace kg2 := St.has (by omega) kg2
  replace HX := HX.st St dHXg1
  replace HO1 := HO1.st St dHO1g1
  replace GG := GG.store St bg1
  replace kg1 := St.new
  clear St
  refine qA ?_
  refine ja 7 rfl rfl (.agg (itA (x.re ao1 cap1))) (ldIt0 _ rfl g1 rfl (kg1)) ?_
  refine nr ?_; intro U h; simp only [z0, z1] at h; subst h
  refine jt rfl rfl 56 _ _ rfl g2 0 rfl (.agg (itA (x.re ao1 cap1))) rfl 56 _ kg2 (itA (x.re ao1 cap1)) rfl (siIt' _) (jT _ _) (jQ _) (itA (x.re ao1 cap1)) (jm _ _ (jZ _ _)) ?_
  intro w5 St
  replace kg1 := St.has (by omega) kg1
  replace HX := HX.st St dHXg2
  replace HO1 := HO1.st St dHO1g2
  replace GG := GG.store St bg2
  replace kg2 := St.new
  clear St
  refine qL (qR ?_)
  refine bodyPost_ret (results_cell_row Try.results44 _ _ g2 56 _ (0, 0) _ rfl kg2 Try.underlying56 rfl (siIt' _)) rfl ?_
  exact ⟨_, _, rfl, GG, HO1⟩
theorem UI (x : Int) (w : World) : Calls Try.prog 74 #[iK x] w (fun e w' => e = .returned (vF) ∧ Gro w w') := by
  refine js Try.func74 rfl Try.ntmps74 [iK x] [iK x, uD, uD, uD, uD, uD] rfl ?_
  have GG := Gro.refl w
  refine qS ?_
  refine ja 2 rfl rfl (vF) (rfl) ?_
  refine nr ?_; intro U h; simp only [z0, z1] at h; subst h
  refine qA ?_
  refine ja 3 rfl rfl (iK x) (rfl) ?_
  refine ja 4 rfl rfl (iK x) (rfl) ?_
  refine ja 5 rfl rfl (vF) (jh 2 .i64 _ _ _ rfl Try.underlying2 x x rfl rfl false (decide_eq_true rfl) _) ?_
  refine ja 2 rfl rfl (vF) (rfl) ?_
  refine nr ?_; intro U h; simp only [z0, z1] at h; subst h
  refine qL (qR ?_)
  refine bodyPost_ret (results_tmp Try.results74 _ _ _) rfl ?_
  exact ⟨rfl, GG⟩
theorem Kc (x y : Int) (w : World) : Calls Try.prog 52 #[iK x, iK y] w (fun e w' => e = .returned (iK (cmpZ x y)) ∧ Gro w w') := by
  refine js Try.func52 rfl Try.ntmps52 [iK x, iK y] [iK x, iK y, uD, uD, uD, uD, uD, uD, uD, uD, uD, uD, uD, uD, uD, uD, uD, uD, uD, uD] rfl ?_
  have GG := Gro.refl w
  refine qS ?_
  refine ja 4 rfl rfl (iK 0) (rfl) ?_
  refine nr ?_; intro U h; simp only [z0, z1] at h; subst h
  refine qA ?_
  refine ja 7 rfl rfl (iK x) (rfl) ?_
  refine nr ?_; intro U h; simp only [z0, z1] at h; subst h
  refine jy 8 rfl rfl _ 74 Try.call74 rfl rfl _ rfl [iK x] rfl (UI x _) ?_
  intro w1 G
  replace GG := GG.trans G
  clear G
  refine nr ?_; intro U h; simp only [z0, z1] at h; subst h
  refine ja 5 rfl rfl (vF) (rfl) ?_
  refine nr ?_; intro U h; simp only [z0, z1] at h; subst h
  refine qA ?_
  refine ja 9 rfl rfl (iK y) (rfl) ?_
  refine nr ?_; intro U h; simp only [z0, z1] at h; subst h
  refine jy 10 rfl rfl _ 74 Try.call74 rfl rfl _ rfl [iK y] rfl (UI y _) ?_
  intro w2 G
  replace GG := GG.trans G
  clear G
  refine nr ?_; intro U h; simp only [z0, z1] at h; subst h
  refine ja 6 rfl rfl (vF) (rfl) ?_
  refine nr ?_; intro U h; simp only [z0, z1] at h; subst h
  refine qL (qE (qS ?_))
  refine ja 11 rfl rfl (vF) (rfl) ?_
  refine nr ?_; intro U h; simp only [z0, z1] at h; subst h
  refine qL (qF rfl (qK (qE (qS ?_))))
  refine ja 13 rfl rfl (vF) (rfl) ?_
  refine nr ?_; intro U h; simp only [z0, z1] at h; subst h
  refine qL (qF rfl (qK (qE (qE ?_))))
  cases h1 : decide (x < y)
  refine qG ?_
  refine ja 14 rfl rfl (iK x) (rfl) ?_
  refine ja 15 rfl rfl (iK y) (rfl) ?_
  refine ja 16 rfl rfl (vF) (jE 2 _ _ _ rfl x y rfl rfl false h1 _) ?_
  refine nr ?_; intro U h; simp only [z0, z1] at h; subst h
  refine qL (qF rfl (qK (qE (qE ?_))))
  cases h2 : decide (y < x)
  refine qG ?_
  refine ja 17 rfl rfl (iK x) (rfl) ?_
  refine ja 18 rfl rfl (iK y) (rfl) ?_
  refine ja 19 rfl rfl (vF) (jJ 2 _ _ _ rfl x y rfl rfl false h2 _) ?_
  refine nr ?_; intro U h; simp only [z0, z1] at h; subst h
  refine qL (qF rfl (qK (qS ?_)))
  refine ja 4 rfl rfl (iK 0) (rfl) ?_
  refine nr ?_; intro U h; simp only [z0, z1] at h; subst h
  refine qL (qR ?_)
  refine bodyPost_ret (results_tmp Try.results52 _ _ _) rfl ?_
  have hc : cmpZ x y = 0 := by unfold cmpZ; rw [if_neg (of_decide_eq_false h1), if_neg (of_decide_eq_false h2)]
  rw [hc]
  exact ⟨rfl, GG⟩
  refine qG ?_
  refine ja 17 rfl rfl (iK x) (rfl) ?_
  refine ja 18 rfl rfl (iK y) (rfl) ?_
  refine ja 19 rfl rfl (vT) (jJ 2 _ _ _ rfl x y rfl rfl true h2 _) ?_
  refine nr ?_; intro U h; simp only [z0, z1] at h; subst h
  refine qL (qT rfl (qS ?_))
  refine ja 4 rfl rfl (iK 1) (rfl) ?_
  refine nr ?_; intro U h; simp only [z0, z1] at h; subst h
  refine qL (qR (jr ?_))
  refine bodyPost_ret (results_tmp Try.results52 _ _ _) rfl ?_
  have hc : cmpZ x y = 1 := by unfold cmpZ; rw [if_neg (of_decide_eq_false h1), if_pos (of_decide_eq_true h2)]
  rw [hc]
  exact ⟨rfl, GG⟩
  refine qG ?_
  refine ja 14 rfl rfl (iK x) (rfl) ?_
  refine ja 15 rfl rfl (iK y) (rfl) ?_
  refine ja 16 rfl rfl (vT) (jE 2 _ _ _ rfl x y rfl rfl true h1 _) ?_
  refine nr ?_; intro U h; simp only [z0, z1] at h; subst h
  refine qL (qT rfl (qS ?_))
  refine ja 4 rfl rfl (iK (-1)) (rfl) ?_
  refine nr ?_; intro U h; simp only [z0, z1] at h; subst h
  refine qL (qR (jr ?_))
  refine bodyPost_ret (results_tmp Try.results52 _ _ _) rfl ?_
  have hc : cmpZ x y = -1 := by unfold cmpZ; rw [if_pos (of_decide_eq_true h1)]
  rw [hc]
  exact ⟨rfl, GG⟩
def kN : Kd Int := ⟨fun z => [.int .i64 z], 1, fun _ => True, 0, fun _ => rfl, fun z v hv => by rw [List.mem_singleton.1 hv]; rfl⟩
theorem rN : RowT Try.prog 60 3 kN.sz 8 (.int .i64 0) := ⟨Try.underlying60, JW (by kernel_rfl), rfl, by decide⟩
theorem na3v (w : World) : (isAgg 3).run Try.prog w = .ok false w := by kernel_rfl
theorem KL {o : Oper} {A : Act} {w : World} {ao : Option Addr} {cap : Nat} {l : List Int} (h : RK kN w ao cap l) (x : Operand) (ho : o.op = .load 3 x) (j : Nat) (hx : A.eval x = .pointer (pK kN ao j 0)) (hj : j < l.length) : (execOp A.eval o).run Try.prog w = .ok (.value (.int .i64 (l.getD j 0))) w :=
  YN h 3 (na3v w) 0 (by decide) x ho j hx hj _ rfl
theorem bsN2 (a b : Int) (w : World) : (Instr.buildSlice 60 2 #[(0, .int .i64 a), (1, .int .i64 b)]).run Try.prog w = .ok (.slice (some ⟨w.heap.size, 0, none⟩) 2 2) (w.alloc (.cells ([a, b].flatMap kN.E).toArray 3)) := by kernel_rfl
theorem or_any (x y : Int) (w : World) (ao : Option Addr) (cap : Nat) (HR : RK kN w ao cap [x, y]) : Calls Try.prog 51 #[.slice ao 2 cap] w (fun e w' => e = .returned (iK (orZ x y)) ∧ Gro w w') := by
  refine js Try.func51 rfl Try.ntmps51 [.slice ao 2 cap] [.slice ao 2 cap, uD, uD, uD, uD, uD, uD, uD, uD, uD, uD, uD, uD, uD, uD, uD, uD, uD] rfl ?_
  have GG := Gro.refl w
  refine qS ?_
  refine ja 2 rfl rfl (iK 0) (rfl) ?_
  refine nr ?_; intro U h; simp only [z0, z1] at h; subst h
  refine qA ?_
  refine ja 3 rfl rfl (iK 0) (rfl) ?_
  refine nr ?_; intro U h; simp only [z0, z1] at h; subst h
  refine qL (qE (qS ?_))
  refine ja 6 rfl rfl (.slice ao 2 cap) (rfl) ?_
  refine ja 7 rfl rfl (nK 2) (jA Try.underlying60 _ rfl _ _ _ rfl _) ?_
  refine ja 8 rfl rfl (iK 0) (rfl) ?_
  refine nr ?_; intro U h; simp only [z0, z1] at h; subst h
  refine qL (qB ?_)
  refine jV (fun mz az wv => ∃ (i : Nat) (us1 : Nat → Value), mz = 2 - i ∧ az = ⟨[.slice ao 2 cap, uD, us1 0, iK 0, uD, us1 1, .slice ao 2 cap, nK 2, nK i, us1 2, us1 3, us1 4, us1 5, us1 6, us1 7, us1 8, us1 9, uD].toArray, []⟩ ∧ Gro w wv ∧ RK kN wv ao cap [x, y] ∧ i ≤ 2 ∧ (∀ j, j < i → ([x, y] : List Int).getD j 0 = 0)) ?_ _ ⟨0, (fun kz => ([iK 0, uD, uD, uD, uD, uD, uD, uD, uD, uD] : List Value).getD kz uD), rfl, rfl, GG, HR, Nat.zero_le _, fun _ h => absurd h (Nat.not_lt_zero _)⟩
  clear GG HR
  rintro mz az wv ⟨i, us1, rfl, rfl, GG, HR, hi, hz⟩
  refine qE ?_
  cases h1 : decide (((i : Nat) : Int) < 2)
  have hi2 : i = 2 := by have := of_decide_eq_false h1; omega
  have hx0 : x = 0 := hz 0 (by omega)
  have hy0 : y = 0 := hz 1 (by omega)
  refine qG ?_
  refine ja 9 rfl rfl (vF) (jE 3 _ _ _ rfl ((i : Nat) : Int) ((2 : Nat) : Int) rfl rfl false h1 _) ?_
  refine nr ?_; intro U h; simp only [z0, z1] at h; subst h
  refine qL (qE (qF rfl (wp_exit (jL (jL (zC (jG (qS ?_))))))))
  refine ja 17 rfl rfl (iK 0) (rfl) ?_
  refine ja 2 rfl rfl (iK 0) (rfl) ?_
  refine nr ?_; intro U h; simp only [z0, z1] at h; subst h
  refine qL (qR ?_)
  refine bodyPost_ret (results_tmp Try.results51 _ _ _) rfl ?_
  subst hx0 hy0
  exact ⟨rfl, GG⟩
  have hlt : i < 2 := by have := of_decide_eq_true h1; omega
  refine qG ?_
  refine ja 9 rfl rfl (vT) (jE 3 _ _ _ rfl ((i : Nat) : Int) ((2 : Nat) : Int) rfl rfl true h1 _) ?_
  refine nr ?_; intro U h; simp only [z0, z1] at h; subst h
  refine qL (qE (qT rfl (qK (qE (qB (qS ?_))))))
  refine ja 10 rfl rfl (.pointer (pK kN ao i 0)) (zf rN (HR) _ _ rfl rfl i rfl hlt) ?_
  refine ja 11 rfl rfl (iK ([x, y].getD i 0)) (KL (HR) _ rfl i rfl hlt) ?_
  refine ja 5 rfl rfl (iK ([x, y].getD i 0)) (rfl) ?_
  refine nr ?_; intro U h; simp only [z0, z1] at h; subst h
  refine qL (qE ?_)
  cases h2 : decide (([x, y] : List Int).getD i 0 = 0)
  refine qG ?_
  refine ja 12 rfl rfl (iK ([x, y].getD i 0)) (rfl) ?_
  refine ja 13 rfl rfl (iK 0) (rfl) ?_
  refine ja 14 rfl rfl (vT) (jh 3 .i64 _ _ _ rfl Try.underlying3 ([x, y].getD i 0) 0 rfl rfl true h2 _) ?_
  refine nr ?_; intro U h; simp only [z0, z1] at h; subst h
  refine qL (qT rfl (qS ?_))
  refine ja 15 rfl rfl (iK ([x, y].getD i 0)) (rfl) ?_
  refine ja 2 rfl rfl (iK ([x, y].getD i 0)) (rfl) ?_
  refine nr ?_; intro U h; simp only [z0, z1] at h; subst h
  refine qL (qR (zk (jr (jr (zk (jr ?_))))))
  refine bodyPost_ret (results_tmp Try.results51 _ _ _) rfl ?_
  have hv : ([x, y] : List Int).getD i 0 = orZ x y := by
    have hn := of_decide_eq_false h2
    rcases (by omega : i = 0 ∨ i = 1) with rfl | rfl
    exact (if_neg hn).symm
    exact (if_pos (hz 0 (by decide))).symm
  rw [hv]
  exact ⟨rfl, GG⟩
  have hz2 : ∀ j, j < i + 1 → ([x, y] : List Int).getD j 0 = 0 := fun j hj => by
    rcases Nat.lt_or_ge j i with c | c
    exact hz j c
    rw [show j = i by omega]; exact of_decide_eq_true h2
  refine qG ?_
  refine ja 12 rfl rfl (iK ([x, y].getD i 0)) (rfl) ?_
  refine ja 13 rfl rfl (iK 0) (rfl) ?_
  refine ja 14 rfl rfl (vF) (jh 3 .i64 _ _ _ rfl Try.underlying3 ([x, y].getD i 0) 0 rfl rfl false h2 _) ?_
  refine nr ?_; intro U h; simp only [z0, z1] at h; subst h
  refine qL (qF rfl (wp_skip (zh (jG (qG ?_)))))
  refine ja 16 rfl rfl (nK (i + 1)) (zm 3 _ _ _ rfl ((i : Nat) : Int) 1 ((i + 1 : Nat) : Int) rfl rfl (by omega) (by omega) (by omega) _) ?_
  refine ja 8 rfl rfl (nK (i + 1)) (rfl) ?_
  refine nr ?_; intro U h; simp only [z0, z1] at h; subst h
  refine qL ?_
  exact ⟨_, by omega, i + 1, (fun kz => ([us1 0, iK ([x, y].getD i 0), vT, .pointer (pK kN ao i 0), iK ([x, y].getD i 0), iK ([x, y].getD i 0), iK 0, vF, us1 8, nK (i + 1)] : List Value).getD kz uD), rfl, rfl, GG, HR, by omega, hz2⟩
theorem QL (a b : VM) (ha : a.ok) (hb : b.ok) (w : World) : Calls Try.prog 21 #[.agg (veA a), .agg (veA b)] w (fun e w' => e = .returned (.bool (nwV a b)) ∧ Gro w w') := by
  refine js Try.func21 rfl Try.ntmps21 [.agg (veA a), .agg (veA b)] [.agg (veA a), .agg (veA b), uD, uD, uD, uD, uD, uD, uD, uD, uD, uD, uD, uD, uD, uD, uD, uD] rfl ?_
  have GG := Gro.refl w
  refine qS ?_
  refine zw 2 rfl rfl 54 _ rfl _ rfl (veA a) rfl ?_
  intro w1 g1 G eg1 kg1
  have bg1 := jk GG eg1
  replace GG := GG.trans G
  clear G
  clear eg1
  refine nr ?_; intro U h; simp only [z0, z1] at h; subst h
  refine zw 3 rfl rfl 54 _ rfl _ rfl (veA b) rfl ?_
  intro w2 g2 G eg2 kg2
  have bg2 := jk GG eg2
  replace kg1 := G.has kg1
  replace GG := GG.trans G
  clear G
  clear eg2
  refine nr ?_; intro U h; simp only [z0, z1] at h; subst h
  refine ja 4 rfl rfl (vF) (rfl) ?_
  refine nr ?_; intro U h; simp only [z0, z1] at h; subst h
  refine qL (qE ?_)
  refine jl (A := ?Ax1) 9 [(0, 5), (1, 6), (2, 7), (3, 8), (4, 9), (5, 10), (6, 11), (7, 12), (8, 13)] [.val (vP g1 0), .val (iK a.n), .val (vP g2 0), .val (iK b.n), .val (iK (cmpZ a.n b.n)), .val (vP g1 1), .val (.agg (idA a.who)), .val (vP g2 1), .val (.agg (idA b.who))] follows (by kernel_rfl) rfl ?hAx1 (jb ?o0x1 (jb ?o1x1 (jb ?o2x1 (jb ?o3x1 (jb ?o4x1 (jb ?o5x1 (jb ?o6x1 (jb ?o7x1 (jb ?o8x1 jF))))))))) ?restx1
  case hAx1 =>
    intro ptrs
    simp only [full, foldSlots, filledE, postE, List.foldl_cons, List.foldl_nil, List.getD_cons_zero, List.getD_cons_succ, jI, List.set_cons_zero, List.set_cons_succ]
    exact rfl
  case o0x1 => exact fun _ _ _ _ => jd (v := vP g1 0) rfl (jf 54 _ 0 rfl g1 0 rfl 0 (by kernel_rfl))
  case o1x1 => exact fun _ _ hw _ => jd (v := iK a.n) rfl (ldVen _ rfl g1 rfl (hw.has kg1))
  case o2x1 => exact fun _ _ _ _ => jd (v := vP g2 0) rfl (jf 54 _ 0 rfl g2 0 rfl 0 (by kernel_rfl))
  case o3x1 => exact fun _ _ hw _ => jd (v := iK b.n) rfl (ldVen _ rfl g2 rfl (hw.has kg2))
  case o4x1 =>
    intro ptrs w' hw hE
    exact zr (.val (iK (cmpZ a.n b.n))) rfl _ 52 Try.call52 rfl rfl _ rfl [iK a.n, iK b.n] rfl ((Kc a.n b.n _).mono fun e w' ⟨he, hg⟩ => ⟨_, he, hg, rfl⟩)
  case o5x1 => exact fun _ _ _ _ => jd (v := vP g1 1) rfl (jf 54 _ 1 rfl g1 0 rfl 1 (by kernel_rfl))
  case o6x1 => exact fun _ _ hw _ => jd (v := .agg (idA a.who)) rfl (ldVew _ rfl g1 rfl (hw.has kg1))
  case o7x1 => exact fun _ _ _ _ => jd (v := vP g2 1) rfl (jf 54 _ 1 rfl g2 0 rfl 1 (by kernel_rfl))
  case o8x1 => exact fun _ _ hw _ => jd (v := .agg (idA b.who)) rfl (ldVew _ rfl g2 rfl (hw.has kg2))
  intro ptrs w3 GD hxE
  simp only [List.drop_succ_cons, List.drop_zero]
  replace kg1 := GD.has kg1
  replace kg2 := GD.has kg2
  replace GG := GG.drew.trans GD
  clear GD
  refine jy 14 rfl rfl _ 47 Try.call47 rfl rfl _ rfl [.agg (idA a.who), .agg (idA b.who)] rfl (Ys a.who b.who ha.who hb.who _) ?_
  intro w4 G
  replace kg1 := G.has kg1
  replace kg2 := G.has kg2
  replace GG := GG.trans G
  clear G
  refine nr ?_; intro U h; simp only [z0, z1] at h; subst h
  refine yM 15 rfl rfl 60 2 _ rfl [(0, iK (cmpZ a.n b.n)), (1, iK (cmpN a.who b.who))] rfl ([(cmpZ a.n b.n), (cmpN a.who b.who)].flatMap kN.E).toArray 3 (bsN2 _ _ _) ?_
  intro w5 q G eq kq
  replace kg1 := G.has kg1
  replace kg2 := G.has kg2
  replace GG := GG.trans G
  clear G
  have HR : RK kN _ (some ⟨q, 0, none⟩) 2 [(cmpZ a.n b.n), (cmpN a.who b.who)] := RK.blk kq (fun _ _ => trivial) (Nat.le_refl _)
  clear eq
  refine nr ?_; intro U h; simp only [z0, z1] at h; subst h
  refine jy 16 rfl rfl _ 51 Try.call51 rfl rfl _ rfl [.slice (some ⟨q, 0, none⟩) 2 2] rfl (or_any _ _ _ _ _ HR) ?_
  intro w6 G
  replace kg1 := G.has kg1
  replace kg2 := G.has kg2
  replace HR := HR.gro G
  replace GG := GG.trans G
  clear G
  refine nr ?_; intro U h; simp only [z0, z1] at h; subst h
  refine ja 17 rfl rfl (.bool (nwV a b)) (jJ 3 _ _ _ rfl _ _ rfl rfl _ (nw_or a b) _) ?_
  refine ja 4 rfl rfl (.bool (nwV a b)) (rfl) ?_
  refine nr ?_; intro U h; simp only [z0, z1] at h; subst h
  refine qL (qR ?_)
  refine bodyPost_ret (results_tmp Try.results21 _ _ _) rfl ?_
  exact ⟨rfl, GG⟩
theorem Zl (a b : VM) (ha : a.ok) (hb : b.ok) (w : World) : Calls Try.prog 22 #[.agg (veA a), .agg (veA b)] w (fun e w' => e = .returned (.bool (nwV a b)) ∧ Gro w w') := by
  refine js Try.func22 rfl Try.ntmps22 [.agg (veA a), .agg (veA b)] [.agg (veA a), .agg (veA b), uD, uD, uD, uD, uD, uD, uD, uD, uD, uD, uD, uD, uD, uD, uD, uD, uD, uD] rfl ?_
  have GG := Gro.refl w
  refine qS ?_
  refine zw 2 rfl rfl 54 _ rfl _ rfl (veA a) rfl ?_
  intro w1 g1 G eg1 kg1
  have bg1 := jk GG eg1
  replace GG := GG.trans G
  clear G
  clear eg1
  refine nr ?_; intro U h; simp only [z0, z1] at h; subst h
  refine zw 3 rfl rfl 54 _ rfl _ rfl (veA b) rfl ?_
  intro w2 g2 G eg2 kg2
  have bg2 := jk GG eg2
  replace kg1 := G.has kg1
  replace GG := GG.trans G
  clear G
  clear eg2
  refine nr ?_; intro U h; simp only [z0, z1] at h; subst h
  refine ja 4 rfl rfl (vF) (rfl) ?_
  refine nr ?_; intro U h; simp only [z0, z1] at h; subst h
  refine qL (qE (qE ?_))
  cases h1 : decide (a.n = b.n)
  refine qG ?_
  refine ja 5 rfl rfl (vP g1 0) (jf 54 _ 0 rfl g1 0 rfl 0 (by kernel_rfl)) ?_
  refine ja 6 rfl rfl (iK a.n) (ldVen _ rfl g1 rfl (kg1)) ?_
  refine ja 7 rfl rfl (vP g2 0) (jf 54 _ 0 rfl g2 0 rfl 0 (by kernel_rfl)) ?_
  refine ja 8 rfl rfl (iK b.n) (ldVen _ rfl g2 rfl (kg2)) ?_
  refine ja 9 rfl rfl (vT) (jh 2 .i64 _ _ _ rfl Try.underlying2 a.n b.n rfl rfl true h1 _) ?_
  refine nr ?_; intro U h; simp only [z0, z1] at h; subst h
  refine qL (qT rfl (qE ?_))
  cases h2 : decide (b.n < a.n)
  refine qG ?_
  refine ja 10 rfl rfl (vP g1 0) (jf 54 _ 0 rfl g1 0 rfl 0 (by kernel_rfl)) ?_
  refine ja 11 rfl rfl (iK a.n) (ldVen _ rfl g1 rfl (kg1)) ?_
  refine ja 12 rfl rfl (vP g2 0) (jf 54 _ 0 rfl g2 0 rfl 0 (by kernel_rfl)) ?_
  refine ja 13 rfl rfl (iK b.n) (ldVen _ rfl g2 rfl (kg2)) ?_
  refine ja 14 rfl rfl (vF) (jJ 2 _ _ _ rfl a.n b.n rfl rfl false h2 _) ?_
  refine ja 4 rfl rfl (vF) (rfl) ?_
  refine nr ?_; intro U h; simp only [z0, z1] at h; subst h
  refine qL (qR (jr ?_))
  refine bodyPost_ret (results_tmp Try.results22 _ _ _) rfl ?_
  have hc : nwV a b = false := by
    have h3 := of_decide_eq_false h1
    have h4 := of_decide_eq_false h2
    unfold nwV
    exact decide_eq_false (by omega)
  rw [hc]
  exact ⟨rfl, GG⟩
  refine qG ?_
  refine ja 10 rfl rfl (vP g1 0) (jf 54 _ 0 rfl g1 0 rfl 0 (by kernel_rfl)) ?_
  refine ja 11 rfl rfl (iK a.n) (ldVen _ rfl g1 rfl (kg1)) ?_
  refine ja 12 rfl rfl (vP g2 0) (jf 54 _ 0 rfl g2 0 rfl 0 (by kernel_rfl)) ?_
  refine ja 13 rfl rfl (iK b.n) (ldVen _ rfl g2 rfl (kg2)) ?_
  refine ja 14 rfl rfl (vT) (jJ 2 _ _ _ rfl a.n b.n rfl rfl true h2 _) ?_
  refine ja 4 rfl rfl (vT) (rfl) ?_
  refine nr ?_; intro U h; simp only [z0, z1] at h; subst h
  refine qL (qR (jr ?_))
  refine bodyPost_ret (results_tmp Try.results22 _ _ _) rfl ?_
  have hc : nwV a b = true := by
    have h3 := of_decide_eq_false h1
    have h4 := of_decide_eq_true h2
    unfold nwV
    exact decide_eq_true (by omega)
  rw [hc]
  exact ⟨rfl, GG⟩
  refine qG ?_
  refine ja 5 rfl rfl (vP g1 0) (jf 54 _ 0 rfl g1 0 rfl 0 (by kernel_rfl)) ?_
  refine ja 6 rfl rfl (iK a.n) (ldVen _ rfl g1 rfl (kg1)) ?_
  refine ja 7 rfl rfl (vP g2 0) (jf 54 _ 0 rfl g2 0 rfl 0 (by kernel_rfl)) ?_
  refine ja 8 rfl rfl (iK b.n) (ldVen _ rfl g2 rfl (kg2)) ?_
  refine ja 9 rfl rfl (vF) (jh 2 .i64 _ _ _ rfl Try.underlying2 a.n b.n rfl rfl false h1 _) ?_
  refine nr ?_; intro U h; simp only [z0, z1] at h; subst h
  refine qL (qF rfl (qK (qS ?_)))
  refine ja 15 rfl rfl (vP g2 1) (jf 54 _ 1 rfl g2 0 rfl 1 (by kernel_rfl)) ?_
  refine ja 16 rfl rfl (.agg (idA b.who)) (ldVew _ rfl g2 rfl (kg2)) ?_
  refine ja 17 rfl rfl (vP g1 1) (jf 54 _ 1 rfl g1 0 rfl 1 (by kernel_rfl)) ?_
  refine ja 18 rfl rfl (.agg (idA a.who)) (ldVew _ rfl g1 rfl (kg1)) ?_
  refine nr ?_; intro U h; simp only [z0, z1] at h; subst h
  refine jy 19 rfl rfl _ 30 Try.call30 rfl rfl _ rfl [.agg (idA b.who), .agg (idA a.who)] rfl (Zs b.who a.who hb.who ha.who _) ?_
  intro w3 G
  replace kg1 := G.has kg1
  replace kg2 := G.has kg2
  replace GG := GG.trans G
  clear G
  refine nr ?_; intro U h; simp only [z0, z1] at h; subst h
  refine ja 4 rfl rfl (.bool (decide (b.who < a.who))) (rfl) ?_
  refine nr ?_; intro U h; simp only [z0, z1] at h; subst h
  refine qL (qR ?_)
  refine bodyPost_ret (results_tmp Try.results22 _ _ _) rfl ?_
  have hc : nwV a b = decide (b.who < a.who) := by
    have h3 := of_decide_eq_true h1
    unfold nwV
    rw [decide_eq_decide]
    omega
  rw [hc]
  exact ⟨rfl, GG⟩
theorem Vl (x : IM) (hx : x.ok) (h0 : 0 ≤ x.n) (hl : x.val.length ≤ 140737488351232) (w : World) (HX : NC w .u8 x.ao x.cap x.val) : Calls Try.prog 19 #[.agg (itA x)] w (BytP w (formV x.it)) := by
  refine js Try.func19 rfl Try.ntmps19 [.agg (itA x)] [.agg (itA x), uD, uD, uD, uD, uD, uD, uD, uD, uD, uD, uD, uD, uD, uD, uD, uD, uD, uD, uD, uD, uD, uD, uD, uD, uD, uD, uD, uD] rfl ?_
  have GG := Gro.refl w
  refine qS ?_
  refine zw 1 rfl rfl 56 _ rfl _ rfl (itA x) rfl ?_
  intro w1 g1 G eg1 kg1
  have bg1 := jk GG eg1
  replace HX := HX.gro G
  replace GG := GG.trans G
  clear G
  clear eg1
  refine nr ?_; intro U h; simp only [z0, z1] at h; subst h
  refine ja 2 rfl rfl (.slice none 0 0) (rfl) ?_
  refine nr ?_; intro U h; simp only [z0, z1] at h; subst h
  refine qA ?_
  refine yM 4 rfl rfl 135 1 _ rfl [(0, .int .u64 2)] rfl (([2] : List Nat).map fun n : Nat => Value.int .u64 (n : Int)).toArray 75 (by kernel_rfl) ?_
  intro w2 q1 G eq1 kq1
  replace kg1 := G.has kg1
  replace HX := HX.gro G
  replace GG := GG.trans G
  clear G
  have HN1 : NC _ .u64 (some ⟨q1, 0, none⟩) 1 ([2] : List Nat) := VO kq1 (by decide)
  clear eq1 kq1
  refine nr ?_; intro U h; simp only [z0, z1] at h; subst h
  have zg1 := kg1
  have zHX := HX
  have GZ := GG
  have GA := Gro.refl w2
  refine jx 5 rfl rfl _ 48 Try.call48 rfl rfl _ rfl [.slice (some ⟨q1, 0, none⟩) 1 1] rfl ((uE _ _ ([2] : List Nat) _ HN1 (Nat.le_of_ble_eq_true rfl)).mono fun _ _ h => (h.byt).to (putN1 _)) (by rintro _ _ ⟨_, _, he, _, _⟩; exact ⟨_, he⟩) ?_
  rintro v w3 ⟨ao2, cap2, he, G, HO2⟩
  cases he
  replace kg1 := G.has kg1
  replace HX := HX.gro G
  replace GA := GA.gro G
  replace GG := GG.trans G
  clear G
  refine nr ?_; intro U h; simp only [z0, z1] at h; subst h
  refine ja 3 rfl rfl (.slice ao2 (numL 2).length cap2) (rfl) ?_
  refine nr ?_; intro U h; simp only [z0, z1] at h; subst h
  refine qA ?_
  refine ja 6 rfl rfl (.slice ao2 (numL 2).length cap2) (rfl) ?_
  refine ja 7 rfl rfl (vP g1 0) (jf 56 _ 0 rfl g1 0 rfl 0 (by kernel_rfl)) ?_
  refine ja 8 rfl rfl (.slice (some ⟨g1, 0, none⟩) 16 16) (YR _ rfl g1 0 rfl _) ?_
  refine nr ?_; intro U h; simp only [z0, z1] at h; subst h
  refine vD bT 9 rfl rfl _ _ rfl (l := numL 2) (by exact rfl) HO2 (l' := beL 16 x.key) (by rw [jP]; rfl) (nc_id kg1 (jdk x)) (by simp only [jP, yk]; have h1 := yw 2; have h2 := yw x.n.toNat; have h3 := yZ x.val; omega) (by decide) GA.size ?_
  intro ao3 cap3 w4 HO3 BB
  replace GA := zI GA BB (Nat.le_refl _)
  replace kg1 := GA.has zg1
  replace HX := zHX.gro GA
  replace GG := GZ.trans GA
  clear BB
  refine nr ?_; intro U h; simp only [z0, z1] at h; subst h
  refine ja 3 rfl rfl (.slice ao3 (numL 2 ++ beL 16 x.key).length cap3) (rfl) ?_
  refine nr ?_; intro U h; simp only [z0, z1] at h; subst h
  refine qA ?_
  refine ja 10 rfl rfl (.slice ao3 (numL 2 ++ beL 16 x.key).length cap3) (rfl) ?_
  refine ja 11 rfl rfl (vP g1 16) (jf 56 _ 1 rfl g1 0 rfl 16 (by kernel_rfl)) ?_
  refine ja 12 rfl rfl (vP g1 16) (jf 54 _ 0 rfl g1 16 rfl 16 (by kernel_rfl)) ?_
  refine ja 13 rfl rfl (iK x.n) (ldItn _ rfl g1 rfl (kg1)) ?_
  refine ja 14 rfl rfl (.int .u64 ((x.n.toNat : Nat) : Int)) (conv2U _ rfl x.n rfl x.n.toNat (by omega) (by have := hx.n.2; unfold lim; omega) _) ?_
  refine nr ?_; intro U h; simp only [z0, z1] at h; subst h
  refine yM 15 rfl rfl 135 1 _ rfl [(0, .int .u64 (x.n.toNat : Nat))] rfl (([x.n.toNat] : List Nat).map fun n : Nat => Value.int .u64 (n : Int)).toArray 75 (by kernel_rfl) ?_
  intro w5 q4 G eq4 kq4
  replace kg1 := G.has kg1
  replace HX := HX.gro G
  replace GA := GA.gro G
  replace HO3 := HO3.gro G
  replace GG := GG.trans G
  clear G
  have HN4 : NC _ .u64 (some ⟨q4, 0, none⟩) 1 ([x.n.toNat] : List Nat) := VO kq4 (fun y hy => by rw [List.mem_singleton.1 hy]; have := hx.n.2; unfold lim; omega)
  clear eq4 kq4
  refine nr ?_; intro U h; simp only [z0, z1] at h; subst h
  refine jx 16 rfl rfl _ 48 Try.call48 rfl rfl _ rfl [.slice (some ⟨q4, 0, none⟩) 1 1] rfl ((uE _ _ ([x.n.toNat] : List Nat) _ HN4 (Nat.le_of_ble_eq_true rfl)).mono fun _ _ h => (h.byt).to (putN1 _)) (by rintro _ _ ⟨_, _, he, _, _⟩; exact ⟨_, he⟩) ?_
  rintro v w6 ⟨ao5, cap5, he, G, HO5⟩
  cases he
  replace kg1 := G.has kg1
  replace HX := HX.gro G
  replace GA := GA.gro G
  replace HO3 := HO3.gro G
  replace GG := GG.trans G
  clear G
  refine nr ?_; intro U h; simp only [z0, z1] at h; subst h
  refine vD bT 17 rfl rfl _ _ rfl (l := (numL 2 ++ beL 16 x.key)) (by exact rfl) HO3 (l' := numL x.n.toNat) (by exact rfl) (HO5.nc) (by simp only [List.length_append, jP, yk]; have h1 := yw 2; have h2 := yw x.n.toNat; have h3 := yZ x.val; omega) (by decide) GA.size ?_
  intro ao6 cap6 w7 HO6 BB
  replace GA := zI GA BB (Nat.le_refl _)
  replace kg1 := GA.has zg1
  replace HX := zHX.gro GA
  replace GG := GZ.trans GA
  clear BB
  refine nr ?_; intro U h; simp only [z0, z1] at h; subst h
  refine ja 3 rfl rfl (.slice ao6 ((numL 2 ++ beL 16 x.key) ++ numL x.n.toNat).length cap6) (rfl) ?_
  refine nr ?_; intro U h; simp only [z0, z1] at h; subst h
  refine qA ?_
  refine ja 18 rfl rfl (.slice ao6 ((numL 2 ++ beL 16 x.key) ++ numL x.n.toNat).length cap6) (rfl) ?_
  refine ja 19 rfl rfl (vP g1 16) (jf 56 _ 1 rfl g1 0 rfl 16 (by kernel_rfl)) ?_
  refine ja 20 rfl rfl (vP g1 17) (jf 54 _ 1 rfl g1 16 rfl 17 (by kernel_rfl)) ?_
  refine ja 21 rfl rfl (.slice (some ⟨g1, 17, none⟩) 16 16) (YR _ rfl g1 17 rfl _) ?_
  refine nr ?_; intro U h; simp only [z0, z1] at h; subst h
  refine vD bT 22 rfl rfl _ _ rfl (l := ((numL 2 ++ beL 16 x.key) ++ numL x.n.toNat)) (by exact rfl) HO6 (l' := beL 16 x.who) (by rw [jP]; rfl) (nc_id kg1 (jdj x)) (by simp only [List.length_append, jP, yk]; have h1 := yw 2; have h2 := yw x.n.toNat; have h3 := yZ x.val; omega) (by decide) GA.size ?_
  intro ao7 cap7 w8 HO7 BB
  replace GA := zI GA BB (Nat.le_refl _)
  replace kg1 := GA.has zg1
  replace HX := zHX.gro GA
  replace GG := GZ.trans GA
  clear BB
  refine nr ?_; intro U h; simp only [z0, z1] at h; subst h
  refine ja 3 rfl rfl (.slice ao7 (((numL 2 ++ beL 16 x.key) ++ numL x.n.toNat) ++ beL 16 x.who).length cap7) (rfl) ?_
  refine nr ?_; intro U h; simp only [z0, z1] at h; subst h
  refine qA ?_
  refine ja 23 rfl rfl (.slice ao7 (((numL 2 ++ beL 16 x.key) ++ numL x.n.toNat) ++ beL 16 x.who).length cap7) (rfl) ?_
  refine ja 24 rfl rfl (vP g1 33) (jf 56 _ 2 rfl g1 0 rfl 33 (by kernel_rfl)) ?_
  refine ja 25 rfl rfl (.slice x.ao x.val.length x.cap) (ldItr _ rfl g1 rfl (kg1)) ?_
  refine nr ?_; intro U h; simp only [z0, z1] at h; subst h
  refine yM 26 rfl rfl 22 1 _ rfl [(0, .slice x.ao x.val.length x.cap)] rfl #[.slice x.ao x.val.length x.cap] 30 (by kernel_rfl) ?_
  intro w9 q8 G eq8 kq8
  replace kg1 := G.has kg1
  replace HX := HX.gro G
  replace GA := GA.gro G
  replace HO7 := HO7.gro G
  replace GG := GG.trans G
  clear G
  have HL : LC _ (some ⟨q8, 0, none⟩) 1 [x.val] := jdi kq8 HX
  clear eq8 kq8
  refine nr ?_; intro U h; simp only [z0, z1] at h; subst h
  refine jx 27 rfl rfl _ 49 Try.call49 rfl rfl _ rfl [.slice (some ⟨q8, 0, none⟩) 1 1] rfl ((YW _ _ [x.val] _ HL (by rw [putT1]; have := yZ x.val; omega) (Nat.le_of_ble_eq_true rfl)).mono fun _ _ h => (h.byt).to (putT1 _)) (by rintro _ _ ⟨_, _, he, _, _⟩; exact ⟨_, he⟩) ?_
  rintro v w10 ⟨ao9, cap9, he, G, HO9⟩
  cases he
  replace kg1 := G.has kg1
  replace HX := HX.gro G
  replace GA := GA.gro G
  replace HO7 := HO7.gro G
  replace GG := GG.trans G
  clear G
  refine nr ?_; intro U h; simp only [z0, z1] at h; subst h
  refine vD bT 28 rfl rfl _ _ rfl (l := (((numL 2 ++ beL 16 x.key) ++ numL x.n.toNat) ++ beL 16 x.who)) (by exact rfl) HO7 (l' := textL x.val) (by exact rfl) (HO9.nc) (by simp only [List.length_append, jP, yk]; have h1 := yw 2; have h2 := yw x.n.toNat; have h3 := yZ x.val; omega) (by decide) GA.size ?_
  intro ao10 cap10 w11 HO10 BB
  replace GA := zI GA BB (Nat.le_refl _)
  replace kg1 := GA.has zg1
  replace HX := zHX.gro GA
  replace GG := GZ.trans GA
  clear BB
  refine nr ?_; intro U h; simp only [z0, z1] at h; subst h
  refine ja 2 rfl rfl (.slice ao10 ((((numL 2 ++ beL 16 x.key) ++ numL x.n.toNat) ++ beL 16 x.who) ++ textL x.val).length cap10) (rfl) ?_
  refine nr ?_; intro U h; simp only [z0, z1] at h; subst h
  refine qL (qR ?_)
  refine bodyPost_ret (results_tmp Try.results19 _ _ _) rfl ?_
  exact BytP.to (jds x) ⟨_, _, rfl, GG, HO10.mono GZ.size⟩
theorem ZS (n : Nat) (hn : n ≤ 9223372036854775807) (w : World) : Calls Try.prog 40 #[nK n] w (BytP w (begV n)) := by
  refine js Try.func40 rfl Try.ntmps40 [nK n] [nK n, uD, uD, uD, uD, uD, uD] rfl ?_
  have GG := Gro.refl w
  refine qS ?_
  refine ja 2 rfl rfl (.slice none 0 0) (rfl) ?_
  refine nr ?_; intro U h; simp only [z0, z1] at h; subst h
  refine qA ?_
  refine ja 3 rfl rfl (nK n) (rfl) ?_
  refine ja 4 rfl rfl (.int .u64 ((n : Nat) : Int)) (conv2U _ rfl ((n : Nat) : Int) rfl n rfl (by unfold lim; omega) _) ?_
  refine nr ?_; intro U h; simp only [z0, z1] at h; subst h
  refine yM 5 rfl rfl 135 2 _ rfl [(0, .int .u64 1), (1, .int .u64 (n : Nat))] rfl (([1, n] : List Nat).map fun n : Nat => Value.int .u64 (n : Int)).toArray 75 (by kernel_rfl) ?_
  intro w1 q1 G eq1 kq1
  replace GG := GG.trans G
  clear G
  have HN1 : NC _ .u64 (some ⟨q1, 0, none⟩) 2 ([1, n] : List Nat) := VO kq1 (fun y hy => by rcases List.mem_cons.1 hy with rfl | hy; (unfold lim; omega); rw [List.mem_singleton.1 hy]; unfold lim; omega)
  clear eq1 kq1
  refine nr ?_; intro U h; simp only [z0, z1] at h; subst h
  refine jx 6 rfl rfl _ 48 Try.call48 rfl rfl _ rfl [.slice (some ⟨q1, 0, none⟩) 2 2] rfl ((uE _ _ [1, n] _ HN1 (Nat.le_of_ble_eq_true rfl)).mono fun _ _ h => (h.byt).to (putN2 _ _)) (by rintro _ _ ⟨_, _, he, _, _⟩; exact ⟨_, he⟩) ?_
  rintro v w2 ⟨ao2, cap2, he, G, HO2⟩
  cases he
  replace HO2 := HO2.mono GG.size
  replace GG := GG.trans G
  clear G
  refine nr ?_; intro U h; simp only [z0, z1] at h; subst h
  refine ja 2 rfl rfl (.slice ao2 (begV n).length cap2) (rfl) ?_
  refine nr ?_; intro U h; simp only [z0, z1] at h; subst h
  refine qL (qR ?_)
  refine bodyPost_ret (results_tmp Try.results40 _ _ _) rfl ?_
  exact ⟨_, _, rfl, GG, HO2⟩
end Go.Proofs.Ytgfnjekpafempaa
