import Derived.Test.YtgfnjekpafempaaGreatBA1
import Derived.Test.YtgfnjekpafempaaGreatBG5
import Derived.Test.YtgfnjekpafempaaGreatBAb
namespace Go.Proofs.YtgfnjekpafempaaGreat
open Go.Proofs.Tryz
set_option maxHeartbeats 4000000
set_option maxRecDepth 100000
open Go.RowKit
theorem Gro.gro {a b c : World} (h : Gro a b) (k : Gro b c) : Gro a c := h.trans k
theorem Gro.ne {a b : World} {g : Nat} (h : Gro a b) (e : b.heap.size = g) : a.heap.size ≤ g := e ▸ h.size
theorem Gro.st {a b c : World} {g : Nat} {x : Obj} (h : Gro a b) (S : Stored b c g x) (hn : a.heap.size ≤ g) : Gro a c := h.store S hn
theorem Gro.neG {a b : World} {g : Nat} (h : Gro a b) (c : b.heap.size ≤ g) : a.heap.size ≤ g := Nat.le_trans h.size c
def NEo (ao : Option Addr) (g : Nat) : Prop := ∀ ad, ao = some ad → ad.block ≠ g
section
variable {w w' : World} {e : TypeId} {k : IntKind} {B g : Nat} {ao : Option Addr} {cap : Nat} {l : List Nat} {x : Obj}
theorem NC.ne (h : NC w k ao cap l) (e : w.heap.size = g) : NE ao l.length g := fun ad ha h0 => by
  have := h.lt ad ha h0
  omega
theorem NC.st (h : NC w k ao cap l) (S : Stored w w' g x) (hn : NE ao l.length g) : NC w' k ao cap l := GroS.nc S.gros h (fun ad ha h0 => by simpa using hn ad ha h0)
theorem NC.neG (h : NC w k ao cap l) (c : w.heap.size ≤ g) : NE ao l.length g := fun ad ha h0 => by
  have := h.lt ad ha h0
  omega
theorem OB.neG (h : OB w e k B ao cap l) (c : w.heap.size ≤ g) : NEo ao g := fun ad ha => by
  have := (h.ge ad ha).2
  omega
theorem OB.ne (h : OB w e k B ao cap l) (hs : w.heap.size = g) : NEo ao g := fun ad ha => by
  have := (h.ge ad ha).2
  omega
theorem OB.neB (h : OB w e k B ao cap l) (hg : g < B) : NEo ao g := fun ad ha => by
  have := (h.ge ad ha).1
  omega
theorem OB.st (h : OB w e k B ao cap l) (S : Stored w w' g x) (hn : NEo ao g) : OB w' e k B ao cap l := h.apart S hn
end
def boxE (B : Nat) (t : TypeId) (cs : Array Value) : PostE := PostE.ex (fun v x => ∃ g, v = .pointer (some ⟨g, 0, none⟩) ∧ x.heap[g]? = some (.cells cs t (0, 0)) ∧ B ≤ g) (fun _ _ _ G ⟨g, h1, h2, h3⟩ => ⟨g, h1, G.has h2, h3⟩)
theorem jay (B : Nat) (t : TypeId) (cs : Array Value) (v : Value) : (boxE B t cs).fill v = v := rfl
theorem jag {P : Program} {ops : Array Oper} {o : Oper} {A : Act} {w : World} (hw : Region.wanted o (yielded ops A.tmps) = true) (ty : TypeId) (ho : o.op = .alloc ty) (v : Value) (hz : ∀ w, (zeroValue ty).run P w = .ok v w) (cs : Array Value) (hc : v.cells = cs) (B : Nat) (hB : B ≤ w.heap.size) : OpE P ops (boxE B ty cs) o A w := by
  subst hc
  exact uA (boxE B ty v.cells) hw (yk ty ho v hz) (zl _ _) ⟨_, rfl, heap_alloc_new _ _, hB⟩
theorem uq : top = 256 ^ 16 := by decide
theorem bA_of {l : List Nat} {n : Nat} (h : l.length = 16) (hj : ∀ j, j < 16 → l.getD j 0 = byt n j) : bA l = idA n := by
  apply Array.ext
  · rw [vX, h, zI]
  · intro j h1 h2
    have h3 : j < l.length := by rw [vX] at h1; exact h1
    have e := hj j (by omega)
    rw [List.getD_eq_getElem?_getD, List.getElem?_eq_getElem h3, Option.getD_some] at e
    simp only [bA, idA, List.getElem_toArray, List.getElem_map, Array.getElem_ofFn, e]
theorem bA_id (n : Nat) : bA (beL 16 n) = idA n := bA_of (jL 16 n) fun j hj => (vn 16 n j hj).trans rfl
theorem bA_val {l : List Nat} (h : l.length = 16) (hb : ∀ x ∈ l, x < 256) : bA l = idA (valL l) := by rw [← bA_id, Yl 16 l h hb]
theorem byt_be (n j : Nat) (hj : j < 16) : byt n j = (beL 16 n).getD j 0 := by
  rw [vn 16 n j hj]
  rfl
theorem Kf (x : IM) (j : Nat) (hj : j < 16) : (itA x)[0 + j]? = some (.int .u8 (byt x.key j : Int)) := by
  rw [Nat.zero_add, itA, List.getElem?_toArray, itL, List.getElem?_append_left (by rw [uG]; exact hj), Array.getElem?_toList, zX _ _ hj]
theorem Ke (x : IM) (j : Nat) (hj : j < 16) : (itA x)[17 + j]? = some (.int .u8 (byt x.who j : Int)) := by
  rw [itA, List.getElem?_toArray, itL, List.getElem?_append_right (by rw [uG]; omega), uG, show 17 + j - 16 = j + 1 by omega, List.getElem?_cons_succ, List.getElem?_append_left (by rw [uG]; exact hj), Array.getElem?_toList, zX _ _ hj]
theorem QY {w : World} {g off n : Nat} {cs : Array Value} {t : TypeId} (hg : w.heap[g]? = some (.cells cs t (0, 0))) (hc : ∀ j, j < 16 → cs[off + j]? = some (.int .u8 (byt n j : Int))) : NC w .u8 (some ⟨g, off, none⟩) 16 (beL 16 n) :=
  ⟨by rw [jL]; exact Nat.le_refl _, fun h => by (cases h), fun ad ha j hj => by
    cases ha
    rw [jL] at hj
    rw [zQ, cell_of_row w g _ _ t _ hg, hc j hj, byt_be n j hj], fun x hx => by
    have := Vw 16 n x hx
    rw [yY]
    omega⟩
theorem Jp {o : Oper} {A : Act} (x : Operand) (ho : o.op = .slice 38 x none none none) (g off : Nat) (hx : A.eval x = .pointer (some ⟨g, off, none⟩)) (w : World) : (execOp A.eval o).run Tryz.prog w = .ok (.value (.slice (some ⟨g, off, none⟩) 16 16)) w := by
  have h : (Instr.sliceAt 38 (.pointer (some ⟨g, off, none⟩)) none none none).run Tryz.prog w = .ok (.slice (some ⟨g, off, none⟩) 16 16) w := by kernel_rfl
  unfold execOp
  simp only [ho, hx, Option.map_none, Sem.run_bind, h, Result.andThen_ok, Sem.run_pure]
theorem conv2U {o : Oper} {A : Act} (x : Operand) (ho : o.op = .convert 2 64 x) (z : Int) (hx : A.eval x = .int .i64 z) (n : Nat) (hz : z = (n : Int)) (hn : n < lim) (w : World) : (execOp A.eval o).run Tryz.prog w = .ok (.value (.int .u64 (n : Int))) w := by
  subst hz
  have h : IntKind.u64.wrap (n : Int) = (n : Int) := by
    unfold lim at hn
    simp [IntKind.wrap, IntKind.bits, IntKind.signed]
    omega
  unfold execOp
  simp only [ho, hx]
  simp [go_sem, h]
theorem convU2 {o : Oper} {A : Act} (x : Operand) (ho : o.op = .convert 64 2 x) (n : Nat) (hn : n < 9223372036854775808) (hx : A.eval x = .int .u64 (n : Int)) (w : World) : (execOp A.eval o).run Tryz.prog w = .ok (.value (.int .i64 (n : Int))) w := by
  have h : IntKind.i64.wrap (n : Int) = (n : Int) := by
    simp [IntKind.wrap, IntKind.bits, IntKind.signed]
    omega
  unfold execOp
  simp only [ho, hx]
  simp [go_sem, h]
def BytP (w : World) (l : List Nat) (e : Ending) (w' : World) : Prop := ∃ ao cap, e = .returned (.slice ao l.length cap) ∧ Gro w w' ∧ OB w' 5 .u8 w.heap.size ao cap l
theorem AppP.byt {w : World} {l : List Nat} {e : Ending} {w' : World} (h : AppP w w.heap.size l e w') : BytP w l e w' := by
  obtain ⟨ao, cap, L, he, hL, ho, hb⟩ := h
  have := hL.out
  subst this
  exact ⟨ao, cap, he, hb, ho⟩
theorem BytP.to {w : World} {l m : List Nat} (h : l = m) {e : Ending} {w' : World} (H : BytP w l e w') : BytP w m e w' := h ▸ H
theorem Qh {w : World} {g : Nat} {l : List Nat} {t : TypeId} (hg : w.heap[g]? = some (.cells (l.map fun n : Nat => Value.int .u64 (n : Int)).toArray t (0, 0))) (hl : ∀ x ∈ l, x < lim) : NC w .u64 (some ⟨g, 0, none⟩) l.length l :=
  ⟨Nat.le_refl _, fun h => by (cases h), fun ad ha j hj => by
    cases ha
    rw [zQ, cell_of_row w g _ _ t _ hg, Nat.zero_add]
    simp [List.getD_eq_getElem?_getD, hj], fun x hx => by
    have := hl x hx
    rw [Kb]
    unfold lim at this
    omega⟩
theorem lc_row1 {w : World} {g : Nat} {ao : Option Addr} {cap : Nat} {l : List Nat} {t : TypeId} (hg : w.heap[g]? = some (.cells #[.slice ao l.length cap] t (0, 0))) (h : NC w .u8 ao cap l) : LC w (some ⟨g, 0, none⟩) 1 [l] := by
  have h1 := jdz (w := w) (ao := some ⟨g, 0, none⟩) (cap := 1) (q := [⟨ao, cap, l⟩]) (UI hg rfl) (fun x hx => by rw [List.mem_singleton.1 hx]; exact h)
  exact h1
section
variable {ops : Array Oper} {rest : List Oper} {o : Oper} {T : List Value} {ds : List Deferred} {w : World} {Q : Exit → Act → World → Prop}
theorem s_none0 (dst : Nat) (hd : o.dst = some dst) (hgd : o.guard = none) (ho : o.op = .buildSlice 27 0 #[])
    (h : ∀ w' g, Gro w w' → w.heap.size = g → OB w' 5 .u8 g (some ⟨g, 0, none⟩) 0 [] → wpList Tryz.prog ops Q rest ⟨(T.set dst (.slice (some ⟨g, 0, none⟩) 0 0)).toArray, ds⟩ w') : wpList Tryz.prog ops Q (o :: rest) ⟨T.toArray, ds⟩ w :=
  Jg dst hd hgd ho fun w' g h1 h2 h3 => by rw [jX]; exact h w' g h1 h2 h3
end
theorem putN1 (n : Nat) : putN [n] = numL n := by simp [putN]
theorem putN2 (n m : Nat) : putN [n, m] = numL n ++ numL m := by simp [putN]
theorem putT1 (l : List Nat) : putT [l] = textL l := by simp [putT]
theorem zU (l : List Nat) : (textL l).length ≤ l.length + 9 := by
  unfold textL
  rw [List.length_append]
  have := Vg l.length
  omega
def IM.it (x : IM) : It := ⟨x.key, x.n.toNat, x.who, x.val⟩
theorem Kp (x : IM) : (((numL 2 ++ beL 16 x.key) ++ numL x.n.toNat) ++ beL 16 x.who) ++ textL x.val = formV x.it := by
  unfold formV IM.it
  simp only [List.append_assoc]
def cmpZ (a b : Int) : Int := if a < b then -1 else if b < a then 1 else 0
def nwV (a b : VM) : Bool := decide (b.n < a.n ∨ (a.n = b.n ∧ b.who < a.who))
def orZ (a b : Int) : Int := if a = 0 then b else a
theorem nw_or (a b : VM) : decide (0 < orZ (cmpZ a.n b.n) (cmpN a.who b.who)) = nwV a b := by
  unfold nwV
  rw [decide_eq_decide]
  unfold orZ cmpZ cmpN
  repeat' split
  all_goals omega
theorem jbb (ao : Option Addr) (cap : Nat) (l : List Nat) (w : World) (HC : NC w .u8 ao cap l) (hb : l.length ≤ 140737488355000) : Calls Tryz.prog 60 #[.slice ao l.length cap] w (BytP w l) := by
  cases ao with
  | none =>
    have h1 := HC.bare rfl
    have h2 := HC.fit
    have h4 : l = [] := List.eq_nil_of_length_eq_zero (by omega)
    subst h1 h4
    refine eN func60 rfl ntmps60 [.slice none 0 0] ?_
    have GG := Gro.refl w
    refine qE (qG (mv (.slice none 0 0) rfl (nq ?_)))
    refine qL (qE (qE (qG (mv (.slice none 0 0) rfl (sv (vT) (jF .eql 27 _ _ _ rfl _ _ _ rfl rfl (by kernel_rfl) (by kernel_rfl)) rfl (nq ?_))))))
    refine qL (qT rfl (qE (qG (mv (.slice none 0 0) rfl (nq ?_)))))
    refine qL (qR (jm ?_))
    refine bodyPost_ret (results_tmp results60 _ _ _) rfl ?_
    exact ⟨none, 0, rfl, GG, OB.nil _ _ _ _⟩
  | some ad =>
    refine eN func60 rfl ntmps60 [.slice (some ad) l.length cap] ?_
    have GG := Gro.refl w
    refine qE (qG (mv (.slice none 0 0) rfl (nq ?_)))
    refine qL (qE (qE (qG (mv (.slice (some ad) l.length cap) rfl (sv (vF) (jF .eql 27 _ _ _ rfl _ _ _ rfl rfl (by kernel_rfl) (by kernel_rfl)) rfl (nq ?_))))))
    refine qL (qF rfl (qK (qS ?_)))
    refine s_none0 5 rfl rfl rfl ?_
    intro w1 q1 G eq1 HO
    have bq := jh GG eq1
    replace HC := HC.gro G
    replace GG := GG.trans G
    clear G
    refine nq ?_
    refine mv (.slice (some ad) l.length cap) rfl (nq ?_)
    refine yH bT 7 rfl rfl _ _ rfl (l := []) rfl HO rfl HC (by simp only [List.length_nil]; omega) (by decide) (Nat.le_of_lt (HO.ge _ rfl).2) ?_
    intro ao2 cap2 w2 HO2 BB
    replace GG := zq GG BB bq
    rw [List.nil_append] at HO2 ⊢
    refine nq ?_
    refine mv (.slice ao2 l.length cap2) rfl (nq ?_)
    refine qL (qR ?_)
    refine bodyPost_ret (results_tmp results60 _ _ _) rfl ?_
    exact ⟨ao2, cap2, rfl, GG, HO2.mono bq⟩
theorem vH (x : IM) (w : World) (HX : NC w .u8 x.ao x.cap x.val) (hb : x.val.length ≤ 140737488355000) : Calls Tryz.prog 35 #[.agg (itA x)] w (fun e w' => ∃ ao cap, e = .returned (.agg (itA (x.re ao cap))) ∧ Gro w w' ∧ OB w' 5 .u8 w.heap.size ao cap x.val) := by
  refine eN func35 rfl ntmps35 [iA x] ?_
  have GG := Gro.refl w
  refine qS ?_
  refine jW 1 rfl rfl 42 _ rfl _ rfl (itA x) rfl ?_
  intro w1 g1 G eg1 kg1
  have bg1 := jh GG eg1
  have dHXg1 := HX.ne eg1
  replace HX := HX.gro G
  replace GG := GG.trans G
  clear G
  clear eg1
  refine nq ?_
  refine jH 2 rfl rfl 42 rfl _ zeroIt (itA zM) rfl ?_
  intro w2 g2 G eg2 kg2
  have bg2 := jh GG eg2
  have dg1g2 := jn kg1 eg2
  have dHXg2 := HX.ne eg2
  replace kg1 := G.has kg1
  replace HX := HX.gro G
  replace GG := GG.trans G
  clear G
  clear eg2
  refine nq ?_
  refine qL (qE (qG (sv (vP g1 33) (je 42 _ 2 rfl g1 0 rfl 33 (by kernel_rfl)) rfl (sv (.slice x.ao x.val.length x.cap) (ldItr _ rfl g1 rfl (kg1)) rfl (nq ?_)))))
  refine jq 5 rfl rfl _ 60 call60 rfl rfl _ rfl [.slice x.ao x.val.length x.cap] rfl (jbb x.ao x.cap x.val _ HX hb) (by rintro _ _ ⟨_, _, he, _, _⟩; exact ⟨_, he⟩) ?_
  have lzg1 := ji kg1
  have lzg2 := ji kg2
  rintro v w3 ⟨ao1, cap1, he, G, HO1⟩
  cases he
  have dHO1g1 := HO1.neB lzg1
  have dHO1g2 := HO1.neB lzg2
  replace HO1 := HO1.mono GG.size
  replace kg1 := G.has kg1
  replace kg2 := G.has kg2
  replace HX := HX.gro G
  replace GG := GG.trans G
  clear G
  refine nq ?_
  refine sv (vP g1 33) (je 42 _ 2 rfl g1 0 rfl 33 (by kernel_rfl)) rfl (nq ?_)
  refine jE rfl rfl 27 _ _ rfl g1 33 rfl (.slice ao1 x.val.length cap1) rfl 42 _ kg1 #[.slice ao1 x.val.length cap1] rfl siBy (by rw [zB]; exact Nat.le_refl _) (ZH _ _ _) (itA (x.re ao1 cap1)) (Zp x _ _) ?_
  intro w4 St
  replace kg2 := St.has (by omega) kg2
  replace HX := HX.st St dHXg1
  replace HO1 := HO1.st St dHO1g1
  replace GG := GG.store St bg1
  replace kg1 := St.new
  clear St
  refine qL (qE (qG (sv (iA (x.re ao1 cap1)) (ldIt0 _ rfl g1 rfl (kg1)) rfl (nq ?_))))
  refine stI (x.re ao1 cap1) rfl rfl rfl kg2 rfl ?_
  intro w5 St
  replace kg1 := St.has (by omega) kg1
  replace HX := HX.st St dHXg2
  replace HO1 := HO1.st St dHO1g2
  replace GG := GG.store St bg2
  replace kg2 := St.new
  clear St
  refine qL (qR ?_)
  refine bodyPost_ret (results_cell_row results35 _ _ g2 42 _ (0, 0) _ rfl kg2 underlying42 rfl (siIt' _)) rfl ?_
  exact ⟨_, _, rfl, GG, HO1⟩
theorem QZ (x : Int) (w : World) : Calls Tryz.prog 97 #[iK x] w (fun e w' => e = .returned (vF) ∧ Gro w w') := by
  refine eN func97 rfl ntmps97 [iK x] ?_
  have GG := Gro.refl w
  refine qE (qG (mv (vF) rfl (nq ?_)))
  refine qL (qE (qG (mv (iK x) rfl (mv (iK x) rfl (sv (vF) (jj 2 .i64 _ _ _ rfl underlying2 x x rfl rfl false (decide_eq_true rfl) _) rfl (mv (vF) rfl (nq ?_)))))))
  refine qL (qR ?_)
  refine bodyPost_ret (results_tmp results97 _ _ _) rfl ?_
  exact ⟨rfl, GG⟩
theorem jba (x y : Int) (w : World) : Calls Tryz.prog 81 #[iK x, iK y] w (fun e w' => e = .returned (iK (cmpZ x y)) ∧ Gro w w') := by
  refine eN func81 rfl ntmps81 [iK x, iK y] ?_
  have GG := Gro.refl w
  refine qE (qG (mv (iK 0) rfl (nq ?_)))
  refine qL (qE (qG (mv (iK x) rfl (nq ?_))))
  refine jr 8 rfl rfl _ 97 call97 rfl rfl _ rfl [iK x] rfl (QZ x _) ?_
  intro w1 G
  replace GG := GG.trans G
  clear G
  refine nq ?_
  refine mv (vF) rfl (nq ?_)
  refine qL (qE (qG (mv (iK y) rfl (nq ?_))))
  refine jr 10 rfl rfl _ 97 call97 rfl rfl _ rfl [iK y] rfl (QZ y _) ?_
  intro w2 G
  replace GG := GG.trans G
  clear G
  refine nq ?_
  refine mv (vF) rfl (nq ?_)
  refine qL (qE (qE (qG (mv (vF) rfl (nq ?_)))))
  refine qL (qF rfl (qK (qE (qE (qG (mv (vF) rfl (nq ?_)))))))
  refine qL (qF rfl (qK (qE (qE ?_))))
  cases h1 : decide (x < y)
  refine qG (mv (iK x) rfl (mv (iK y) rfl (sv (vF) (jv 2 _ _ _ rfl x y rfl rfl false h1 _) rfl (nq ?_))))
  refine qL (qF rfl (qK (qE (qE ?_))))
  cases h2 : decide (y < x)
  refine qG (mv (iK x) rfl (mv (iK y) rfl (sv (vF) (jy 2 _ _ _ rfl x y rfl rfl false h2 _) rfl (nq ?_))))
  refine qL (qF rfl (qK (qE (qG (mv (iK 0) rfl (nq ?_))))))
  refine qL (qR ?_)
  refine bodyPost_ret (results_tmp results81 _ _ _) rfl ?_
  have hc : cmpZ x y = 0 := by unfold cmpZ; rw [if_neg (of_decide_eq_false h1), if_neg (of_decide_eq_false h2)]
  rw [hc]
  exact ⟨rfl, GG⟩
  refine qG (mv (iK x) rfl (mv (iK y) rfl (sv (vT) (jy 2 _ _ _ rfl x y rfl rfl true h2 _) rfl (nq ?_))))
  refine qL (qT rfl (qE (qG (mv (iK 1) rfl (nq ?_)))))
  refine qL (qR (jm ?_))
  refine bodyPost_ret (results_tmp results81 _ _ _) rfl ?_
  have hc : cmpZ x y = 1 := by unfold cmpZ; rw [if_neg (of_decide_eq_false h1), if_pos (of_decide_eq_true h2)]
  rw [hc]
  exact ⟨rfl, GG⟩
  refine qG (mv (iK x) rfl (mv (iK y) rfl (sv (vT) (jv 2 _ _ _ rfl x y rfl rfl true h1 _) rfl (nq ?_))))
  refine qL (qT rfl (qE (qG (mv (iK (-1)) rfl (nq ?_)))))
  refine qL (qR (jm ?_))
  refine bodyPost_ret (results_tmp results81 _ _ _) rfl ?_
  have hc : cmpZ x y = -1 := by unfold cmpZ; rw [if_pos (of_decide_eq_true h1)]
  rw [hc]
  exact ⟨rfl, GG⟩
def kN : Kd Int := ⟨fun z => [.int .i64 z], 1, fun _ => True, 0, fun _ => rfl, fun z v hv => by rw [List.mem_singleton.1 hv]; rfl⟩
theorem rN : RowT Tryz.prog 159 3 kN.sz 8 (.int .i64 0) := ⟨underlying159, uF (by kernel_rfl), rfl, by decide⟩
theorem na3v (w : World) : (isAgg 3).run Tryz.prog w = .ok false w := by kernel_rfl
theorem jch {o : Oper} {A : Act} {w : World} {ao : Option Addr} {cap : Nat} {l : List Int} (h : RK kN w ao cap l) (x : Operand) (ho : o.op = .load 3 x) (j : Nat) (hx : A.eval x = .pointer (pK kN ao j 0)) (hj : j < l.length) : (execOp A.eval o).run Tryz.prog w = .ok (.value (.int .i64 (l.getD j 0))) w :=
  VX h 3 (na3v w) 0 (by decide) x ho j hx hj _ rfl
theorem bsN2 (a b : Int) (w : World) : (Instr.buildSlice 159 2 #[(0, .int .i64 a), (1, .int .i64 b)]).run Tryz.prog w = .ok (.slice (some ⟨w.heap.size, 0, none⟩) 2 2) (w.alloc (.cells ([a, b].flatMap kN.E).toArray 3)) := by kernel_rfl
theorem or_any (x y : Int) (w : World) (ao : Option Addr) (cap : Nat) (HR : RK kN w ao cap [x, y]) : Calls Tryz.prog 80 #[.slice ao 2 cap] w (fun e w' => e = .returned (iK (orZ x y)) ∧ Gro w w') := by
  refine eN func80 rfl ntmps80 [.slice ao 2 cap] ?_
  have GG := Gro.refl w
  refine qE (qG (mv (iK 0) rfl (nq ?_)))
  refine qL (qE (qG (mv (iK 0) rfl (nq ?_))))
  refine qL (qE (qE (qG (mv (.slice ao 2 cap) rfl (sv (nK 2) (js underlying159 _ rfl _ _ _ rfl _) rfl (mv (iK 0) rfl (nq ?_)))))))
  refine qL (qB ?_)
  refine jO (fun mz az wv => ∃ (i : Nat) (us1 : Nat → Value), mz = 2 - i ∧ az = ⟨[.slice ao 2 cap, uD, us1 2, iK 0, uD, us1 5, .slice ao 2 cap, nK 2, nK i, us1 9, us1 10, us1 11, us1 12, us1 13, us1 14, us1 15, us1 16, uD].toArray, []⟩ ∧ Gro w wv ∧ RK kN wv ao cap [x, y] ∧ i ≤ 2 ∧ (∀ j, j < i → ([x, y] : List Int).getD j 0 = 0)) ?_ _ ⟨0, usK ⟨GG, HR, Nat.zero_le _, fun _ h => absurd h (Nat.not_lt_zero _)⟩⟩
  clear GG HR
  rintro mz az wv ⟨i, us1, rfl, rfl, GG, HR, hi, hz⟩
  refine qE ?_
  cases h1 : decide (((i : Nat) : Int) < 2)
  have hi2 : i = 2 := by have := of_decide_eq_false h1; omega
  have hx0 : x = 0 := hz 0 (by omega)
  have hy0 : y = 0 := hz 1 (by omega)
  refine qG (sv (vF) (jv 3 _ _ _ rfl ((i : Nat) : Int) ((2 : Nat) : Int) rfl rfl false h1 _) rfl (nq ?_))
  refine qL (qE (qF rfl (wp_exit (jG (jG (zp (jC (qE (qG (mv (iK 0) rfl (mv (iK 0) rfl (nq ?_))))))))))))
  refine qL (qR ?_)
  refine bodyPost_ret (results_tmp results80 _ _ _) rfl ?_
  subst hx0 hy0
  exact ⟨rfl, GG⟩
  have hlt : i < 2 := by have := of_decide_eq_true h1; omega
  refine qG (sv (vT) (jv 3 _ _ _ rfl ((i : Nat) : Int) ((2 : Nat) : Int) rfl rfl true h1 _) rfl (nq ?_))
  refine qL (qE (qT rfl (qK (qE (qB (qE (qG (sv (.pointer (pK kN ao i 0)) (za rN (HR) _ _ rfl rfl i rfl hlt) rfl (sv (iK ([x, y].getD i 0)) (jch (HR) _ rfl i rfl hlt) rfl (mv (iK ([x, y].getD i 0)) rfl (nq ?_)))))))))))
  refine qL (qE ?_)
  cases h2 : decide (([x, y] : List Int).getD i 0 = 0)
  refine qG (mv (iK ([x, y].getD i 0)) rfl (mv (iK 0) rfl (sv (vT) (jj 3 .i64 _ _ _ rfl underlying3 ([x, y].getD i 0) 0 rfl rfl true h2 _) rfl (nq ?_))))
  refine qL (qT rfl (qE (qG (mv (iK ([x, y].getD i 0)) rfl (mv (iK ([x, y].getD i 0)) rfl (nq ?_))))))
  refine qL (qR (ze (jm (jm (ze (jm ?_))))))
  refine bodyPost_ret (results_tmp results80 _ _ _) rfl ?_
  have hv : ([x, y] : List Int).getD i 0 = orZ x y := by
    have hn := of_decide_eq_false h2
    rcases (by omega : i = 0 ∨ i = 1) with rfl | rfl
    exact (if_neg hn).symm
    exact (if_pos (hz 0 (by decide))).symm
  rw [hv]
  exact ⟨rfl, GG⟩
  have hz2 : ∀ j, j < i + 1 → ([x, y] : List Int).getD j 0 = 0 := fun j hj => by
    rcases Nat.lt_or_ge j i with c | c
    exact hz j c
    rw [show j = i by omega]; exact of_decide_eq_true h2
  refine qG (mv (iK ([x, y].getD i 0)) rfl (mv (iK 0) rfl (sv (vF) (jj 3 .i64 _ _ _ rfl underlying3 ([x, y].getD i 0) 0 rfl rfl false h2 _) rfl (nq ?_))))
  refine qL (qF rfl (wp_skip (zb (jC (qG (sv (nK (i + 1)) (jV 3 _ _ _ rfl ((i : Nat) : Int) 1 ((i + 1 : Nat) : Int) rfl rfl (by omega) (by omega) (by omega) _) rfl (mv (nK (i + 1)) rfl (nq ?_))))))))
  refine qL ?_
  exact ⟨_, by omega, i + 1, usK ⟨GG, HR, by omega, hz2⟩⟩
theorem jah (a b : VM) (ha : a.ok) (hb : b.ok) (w : World) : Calls Tryz.prog 63 #[.agg (veA a), .agg (veA b)] w (fun e w' => e = .returned (.bool (nwV a b)) ∧ Gro w w') := by
  refine eN func63 rfl ntmps63 [.agg (veA a), .agg (veA b)] ?_
  have GG := Gro.refl w
  refine qS ?_
  refine jW 2 rfl rfl 40 _ rfl _ rfl (veA a) rfl ?_
  intro w1 g1 G eg1 kg1
  have bg1 := jh GG eg1
  replace GG := GG.trans G
  clear G
  clear eg1
  refine nq ?_
  refine jW 3 rfl rfl 40 _ rfl _ rfl (veA b) rfl ?_
  intro w2 g2 G eg2 kg2
  have bg2 := jh GG eg2
  replace kg1 := G.has kg1
  replace GG := GG.trans G
  clear G
  clear eg2
  refine nq ?_
  refine mv (vF) rfl (nq ?_)
  refine qL (qE ?_)
  refine exQ 9 [(0, 5), (1, 6), (2, 7), (3, 8), (4, 9), (5, 10), (6, 11), (7, 12), (8, 13)] [.val (vP g1 0), .val (iK a.n), .val (vP g2 0), .val (iK b.n), .val (iK (cmpZ a.n b.n)), .val (vP g1 1), .val (eA a.who), .val (vP g2 1), .val (eA b.who)] follows (by kernel_rfl) rfl (ja ?_ (ja ?_ (ja ?_ (ja ?_ (ja ?_ (ja ?_ (ja ?_ (ja ?_ (ja ?_ jD))))))))) ?_
  exact fun _ _ _ _ => jb rfl (je 40 _ 0 rfl g1 0 rfl 0 (by kernel_rfl))
  exact fun _ _ hw _ => jb rfl (ldVen _ rfl g1 rfl (hw.has kg1))
  exact fun _ _ _ _ => jb rfl (je 40 _ 0 rfl g2 0 rfl 0 (by kernel_rfl))
  exact fun _ _ hw _ => jb rfl (ldVen _ rfl g2 rfl (hw.has kg2))
  intro ptrs w' hw hE
  exact zi (.val (iK (cmpZ a.n b.n))) rfl _ 81 call81 rfl rfl _ rfl [iK a.n, iK b.n] rfl ((jba a.n b.n _).mono fun e w' ⟨he, hg⟩ => ⟨_, he, hg, rfl⟩)
  exact fun _ _ _ _ => jb rfl (je 40 _ 1 rfl g1 0 rfl 1 (by kernel_rfl))
  exact fun _ _ hw _ => jb rfl (ldVew _ rfl g1 rfl (hw.has kg1))
  exact fun _ _ _ _ => jb rfl (je 40 _ 1 rfl g2 0 rfl 1 (by kernel_rfl))
  exact fun _ _ hw _ => jb rfl (ldVew _ rfl g2 rfl (hw.has kg2))
  intro ptrs w3 GD hxE
  simp only [List.drop_succ_cons, List.drop_zero]
  replace kg1 := GD.has kg1
  replace kg2 := GD.has kg2
  replace GG := GG.drew.trans GD
  clear GD
  refine jr 14 rfl rfl _ 42 call42 rfl rfl _ rfl [eA a.who, eA b.who] rfl (Vu a.who b.who ha.who hb.who _) ?_
  intro w4 G
  replace kg1 := G.has kg1
  replace kg2 := G.has kg2
  replace GG := GG.trans G
  clear G
  refine nq ?_
  refine ye 15 rfl rfl 159 2 _ rfl [(0, iK (cmpZ a.n b.n)), (1, iK (cmpN a.who b.who))] rfl ([(cmpZ a.n b.n), (cmpN a.who b.who)].flatMap kN.E).toArray 3 (bsN2 _ _ _) ?_
  intro w5 q G eq kq
  replace kg1 := G.has kg1
  replace kg2 := G.has kg2
  replace GG := GG.trans G
  clear G
  have HR : RK kN _ (some ⟨q, 0, none⟩) 2 [(cmpZ a.n b.n), (cmpN a.who b.who)] := RK.blk kq (fun _ _ => trivial) (Nat.le_refl _)
  clear eq
  refine nq ?_
  refine jr 16 rfl rfl _ 80 call80 rfl rfl _ rfl [.slice (some ⟨q, 0, none⟩) 2 2] rfl (or_any _ _ _ _ _ HR) ?_
  intro w6 G
  replace kg1 := G.has kg1
  replace kg2 := G.has kg2
  replace HR := HR.gro G
  replace GG := GG.trans G
  clear G
  refine nq ?_
  refine sv (.bool (nwV a b)) (jy 3 _ _ _ rfl _ _ rfl rfl _ (nw_or a b) _) rfl (mv (.bool (nwV a b)) rfl (nq ?_))
  refine qL (qR ?_)
  refine bodyPost_ret (results_tmp results63 _ _ _) rfl ?_
  exact ⟨rfl, GG⟩
theorem vL (a b : VM) (ha : a.ok) (hb : b.ok) (w : World) : Calls Tryz.prog 39 #[.agg (veA a), .agg (veA b)] w (fun e w' => e = .returned (.bool (nwV a b)) ∧ Gro w w') := by
  refine eN func39 rfl ntmps39 [.agg (veA a), .agg (veA b)] ?_
  have GG := Gro.refl w
  refine qS ?_
  refine jW 2 rfl rfl 40 _ rfl _ rfl (veA a) rfl ?_
  intro w1 g1 G eg1 kg1
  have bg1 := jh GG eg1
  replace GG := GG.trans G
  clear G
  clear eg1
  refine nq ?_
  refine jW 3 rfl rfl 40 _ rfl _ rfl (veA b) rfl ?_
  intro w2 g2 G eg2 kg2
  have bg2 := jh GG eg2
  replace kg1 := G.has kg1
  replace GG := GG.trans G
  clear G
  clear eg2
  refine nq ?_
  refine mv (vF) rfl (nq ?_)
  refine qL (qE (qE ?_))
  cases h1 : decide (a.n = b.n)
  refine qG (sv (vP g1 0) (je 40 _ 0 rfl g1 0 rfl 0 (by kernel_rfl)) rfl (sv (iK a.n) (ldVen _ rfl g1 rfl (kg1)) rfl (sv (vP g2 0) (je 40 _ 0 rfl g2 0 rfl 0 (by kernel_rfl)) rfl (sv (iK b.n) (ldVen _ rfl g2 rfl (kg2)) rfl (sv (vT) (jj 2 .i64 _ _ _ rfl underlying2 a.n b.n rfl rfl true h1 _) rfl (nq ?_))))))
  refine qL (qT rfl (qE ?_))
  cases h2 : decide (b.n < a.n)
  refine qG (sv (vP g1 0) (je 40 _ 0 rfl g1 0 rfl 0 (by kernel_rfl)) rfl (sv (iK a.n) (ldVen _ rfl g1 rfl (kg1)) rfl (sv (vP g2 0) (je 40 _ 0 rfl g2 0 rfl 0 (by kernel_rfl)) rfl (sv (iK b.n) (ldVen _ rfl g2 rfl (kg2)) rfl (sv (vF) (jy 2 _ _ _ rfl a.n b.n rfl rfl false h2 _) rfl (mv (vF) rfl ?_))))))
  refine nq ?_
  refine qL (qR (jm ?_))
  refine bodyPost_ret (results_tmp results39 _ _ _) rfl ?_
  have hc : nwV a b = false := by
    have h3 := of_decide_eq_false h1
    have h4 := of_decide_eq_false h2
    unfold nwV
    exact decide_eq_false (by omega)
  rw [hc]
  exact ⟨rfl, GG⟩
  refine qG (sv (vP g1 0) (je 40 _ 0 rfl g1 0 rfl 0 (by kernel_rfl)) rfl (sv (iK a.n) (ldVen _ rfl g1 rfl (kg1)) rfl (sv (vP g2 0) (je 40 _ 0 rfl g2 0 rfl 0 (by kernel_rfl)) rfl (sv (iK b.n) (ldVen _ rfl g2 rfl (kg2)) rfl (sv (vT) (jy 2 _ _ _ rfl a.n b.n rfl rfl true h2 _) rfl (mv (vT) rfl ?_))))))
  refine nq ?_
  refine qL (qR (jm ?_))
  refine bodyPost_ret (results_tmp results39 _ _ _) rfl ?_
  have hc : nwV a b = true := by
    have h3 := of_decide_eq_false h1
    have h4 := of_decide_eq_true h2
    unfold nwV
    exact decide_eq_true (by omega)
  rw [hc]
  exact ⟨rfl, GG⟩
  refine qG (sv (vP g1 0) (je 40 _ 0 rfl g1 0 rfl 0 (by kernel_rfl)) rfl (sv (iK a.n) (ldVen _ rfl g1 rfl (kg1)) rfl (sv (vP g2 0) (je 40 _ 0 rfl g2 0 rfl 0 (by kernel_rfl)) rfl (sv (iK b.n) (ldVen _ rfl g2 rfl (kg2)) rfl (sv (vF) (jj 2 .i64 _ _ _ rfl underlying2 a.n b.n rfl rfl false h1 _) rfl (nq ?_))))))
  refine qL (qF rfl (qK (qE (qG (sv (vP g2 1) (je 40 _ 1 rfl g2 0 rfl 1 (by kernel_rfl)) rfl (sv (eA b.who) (ldVew _ rfl g2 rfl (kg2)) rfl (sv (vP g1 1) (je 40 _ 1 rfl g1 0 rfl 1 (by kernel_rfl)) rfl (sv (eA a.who) (ldVew _ rfl g1 rfl (kg1)) rfl (nq ?_)))))))))
  refine jr 19 rfl rfl _ 62 call62 rfl rfl _ rfl [eA b.who, eA a.who] rfl (ZY b.who a.who hb.who ha.who _) ?_
  intro w3 G
  replace kg1 := G.has kg1
  replace kg2 := G.has kg2
  replace GG := GG.trans G
  clear G
  refine nq ?_
  refine mv (.bool (decide (b.who < a.who))) rfl (nq ?_)
  refine qL (qR ?_)
  refine bodyPost_ret (results_tmp results39 _ _ _) rfl ?_
  have hc : nwV a b = decide (b.who < a.who) := by
    have h3 := of_decide_eq_true h1
    unfold nwV
    rw [decide_eq_decide]
    omega
  rw [hc]
  exact ⟨rfl, GG⟩
theorem UB (x : IM) (hx : x.ok) (h0 : 0 ≤ x.n) (hl : x.val.length ≤ 140737488351232) (w : World) (HX : NC w .u8 x.ao x.cap x.val) : Calls Tryz.prog 59 #[.agg (itA x)] w (BytP w (formV x.it)) := by
  refine eN func59 rfl ntmps59 [iA x] ?_
  have GG := Gro.refl w
  refine qS ?_
  refine jW 1 rfl rfl 42 _ rfl _ rfl (itA x) rfl ?_
  intro w1 g1 G eg1 kg1
  have bg1 := jh GG eg1
  replace HX := HX.gro G
  replace GG := GG.trans G
  clear G
  clear eg1
  refine nq ?_
  refine mv (.slice none 0 0) rfl (nq ?_)
  refine qA ?_
  refine ye 4 rfl rfl 132 1 _ rfl [(0, .int .u64 2)] rfl (([2] : List Nat).map fun n : Nat => Value.int .u64 (n : Int)).toArray 64 (by kernel_rfl) ?_
  intro w2 q1 G eq1 kq1
  replace kg1 := G.has kg1
  replace HX := HX.gro G
  replace GG := GG.trans G
  clear G
  have HN1 : NC _ .u64 (some ⟨q1, 0, none⟩) 1 ([2] : List Nat) := Qh kq1 (by decide)
  clear eq1 kq1
  refine nq ?_
  have zg1 := kg1
  have zHX := HX
  have GZ := GG
  have GA := Gro.refl w2
  refine jq 5 rfl rfl _ 53 call53 rfl rfl _ rfl [.slice (some ⟨q1, 0, none⟩) 1 1] rfl ((Ja _ _ ([2] : List Nat) _ HN1 (Nat.le_of_ble_eq_true rfl)).mono fun _ _ h => (h.byt).to (putN1 _)) (by rintro _ _ ⟨_, _, he, _, _⟩; exact ⟨_, he⟩) ?_
  rintro v w3 ⟨ao2, cap2, he, G, HO2⟩
  cases he
  replace kg1 := G.has kg1
  replace HX := HX.gro G
  replace GA := GA.gro G
  replace GG := GG.trans G
  clear G
  refine nq ?_
  refine mv (.slice ao2 (numL 2).length cap2) rfl (nq ?_)
  refine qL (qE (qG (mv (.slice ao2 (numL 2).length cap2) rfl (sv (vP g1 0) (je 42 _ 0 rfl g1 0 rfl 0 (by kernel_rfl)) rfl (sv (.slice (some ⟨g1, 0, none⟩) 16 16) (Jp _ rfl g1 0 rfl _) rfl (nq ?_))))))
  refine yH bT 9 rfl rfl _ _ rfl (l := numL 2) (by exact rfl) HO2 (l' := beL 16 x.key) (by rw [jL]; rfl) (QY kg1 (Kf x)) (by simp only [jL, zG]; have h1 := zL 2; have h2 := zL x.n.toNat; have h3 := zU x.val; omega) (by decide) GA.size ?_
  intro ao3 cap3 w4 HO3 BB
  replace GA := zq GA BB (Nat.le_refl _)
  replace kg1 := GA.has zg1
  replace HX := zHX.gro GA
  replace GG := GZ.trans GA
  clear BB
  refine nq ?_
  refine mv (.slice ao3 (numL 2 ++ beL 16 x.key).length cap3) rfl (nq ?_)
  refine qL (qE (qG (mv (.slice ao3 (numL 2 ++ beL 16 x.key).length cap3) rfl (sv (vP g1 16) (je 42 _ 1 rfl g1 0 rfl 16 (by kernel_rfl)) rfl (sv (vP g1 16) (je 40 _ 0 rfl g1 16 rfl 16 (by kernel_rfl)) rfl (sv (iK x.n) (ldItn _ rfl g1 rfl (kg1)) rfl (sv (.int .u64 ((x.n.toNat : Nat) : Int)) (conv2U _ rfl x.n rfl x.n.toNat (by omega) (by have := hx.n.2; unfold lim; omega) _) rfl (nq ?_))))))))
  refine ye 15 rfl rfl 132 1 _ rfl [(0, .int .u64 (x.n.toNat : Nat))] rfl (([x.n.toNat] : List Nat).map fun n : Nat => Value.int .u64 (n : Int)).toArray 64 (by kernel_rfl) ?_
  intro w5 q4 G eq4 kq4
  replace kg1 := G.has kg1
  replace HX := HX.gro G
  replace GA := GA.gro G
  replace HO3 := HO3.gro G
  replace GG := GG.trans G
  clear G
  have HN4 : NC _ .u64 (some ⟨q4, 0, none⟩) 1 ([x.n.toNat] : List Nat) := Qh kq4 (fun y hy => by rw [List.mem_singleton.1 hy]; have := hx.n.2; unfold lim; omega)
  clear eq4 kq4
  refine nq ?_
  refine jq 16 rfl rfl _ 53 call53 rfl rfl _ rfl [.slice (some ⟨q4, 0, none⟩) 1 1] rfl ((Ja _ _ ([x.n.toNat] : List Nat) _ HN4 (Nat.le_of_ble_eq_true rfl)).mono fun _ _ h => (h.byt).to (putN1 _)) (by rintro _ _ ⟨_, _, he, _, _⟩; exact ⟨_, he⟩) ?_
  rintro v w6 ⟨ao5, cap5, he, G, HO5⟩
  cases he
  replace kg1 := G.has kg1
  replace HX := HX.gro G
  replace GA := GA.gro G
  replace HO3 := HO3.gro G
  replace GG := GG.trans G
  clear G
  refine nq ?_
  refine yH bT 17 rfl rfl _ _ rfl (l := (numL 2 ++ beL 16 x.key)) (by exact rfl) HO3 (l' := numL x.n.toNat) (by exact rfl) (HO5.nc) (by simp only [List.length_append, jL, zG]; have h1 := zL 2; have h2 := zL x.n.toNat; have h3 := zU x.val; omega) (by decide) GA.size ?_
  intro ao6 cap6 w7 HO6 BB
  replace GA := zq GA BB (Nat.le_refl _)
  replace kg1 := GA.has zg1
  replace HX := zHX.gro GA
  replace GG := GZ.trans GA
  clear BB
  refine nq ?_
  refine mv (.slice ao6 ((numL 2 ++ beL 16 x.key) ++ numL x.n.toNat).length cap6) rfl (nq ?_)
  refine qL (qE (qG (mv (.slice ao6 ((numL 2 ++ beL 16 x.key) ++ numL x.n.toNat).length cap6) rfl (sv (vP g1 16) (je 42 _ 1 rfl g1 0 rfl 16 (by kernel_rfl)) rfl (sv (vP g1 17) (je 40 _ 1 rfl g1 16 rfl 17 (by kernel_rfl)) rfl (sv (.slice (some ⟨g1, 17, none⟩) 16 16) (Jp _ rfl g1 17 rfl _) rfl (nq ?_)))))))
  refine yH bT 22 rfl rfl _ _ rfl (l := ((numL 2 ++ beL 16 x.key) ++ numL x.n.toNat)) (by exact rfl) HO6 (l' := beL 16 x.who) (by rw [jL]; rfl) (QY kg1 (Ke x)) (by simp only [List.length_append, jL, zG]; have h1 := zL 2; have h2 := zL x.n.toNat; have h3 := zU x.val; omega) (by decide) GA.size ?_
  intro ao7 cap7 w8 HO7 BB
  replace GA := zq GA BB (Nat.le_refl _)
  replace kg1 := GA.has zg1
  replace HX := zHX.gro GA
  replace GG := GZ.trans GA
  clear BB
  refine nq ?_
  refine mv (.slice ao7 (((numL 2 ++ beL 16 x.key) ++ numL x.n.toNat) ++ beL 16 x.who).length cap7) rfl (nq ?_)
  refine qL (qE (qG (mv (.slice ao7 (((numL 2 ++ beL 16 x.key) ++ numL x.n.toNat) ++ beL 16 x.who).length cap7) rfl (sv (vP g1 33) (je 42 _ 2 rfl g1 0 rfl 33 (by kernel_rfl)) rfl (sv (.slice x.ao x.val.length x.cap) (ldItr _ rfl g1 rfl (kg1)) rfl (nq ?_))))))
  refine ye 26 rfl rfl 73 1 _ rfl [(0, .slice x.ao x.val.length x.cap)] rfl #[.slice x.ao x.val.length x.cap] 27 (by kernel_rfl) ?_
  intro w9 q8 G eq8 kq8
  replace kg1 := G.has kg1
  replace HX := HX.gro G
  replace GA := GA.gro G
  replace HO7 := HO7.gro G
  replace GG := GG.trans G
  clear G
  have HL : LC _ (some ⟨q8, 0, none⟩) 1 [x.val] := lc_row1 kq8 HX
  clear eq8 kq8
  refine nq ?_
  refine jq 27 rfl rfl _ 78 call78 rfl rfl _ rfl [.slice (some ⟨q8, 0, none⟩) 1 1] rfl ((Ui _ _ [x.val] _ HL (by rw [putT1]; have := zU x.val; omega) (Nat.le_of_ble_eq_true rfl)).mono fun _ _ h => (h.byt).to (putT1 _)) (by rintro _ _ ⟨_, _, he, _, _⟩; exact ⟨_, he⟩) ?_
  rintro v w10 ⟨ao9, cap9, he, G, HO9⟩
  cases he
  replace kg1 := G.has kg1
  replace HX := HX.gro G
  replace GA := GA.gro G
  replace HO7 := HO7.gro G
  replace GG := GG.trans G
  clear G
  refine nq ?_
  refine yH bT 28 rfl rfl _ _ rfl (l := (((numL 2 ++ beL 16 x.key) ++ numL x.n.toNat) ++ beL 16 x.who)) (by exact rfl) HO7 (l' := textL x.val) (by exact rfl) (HO9.nc) (by simp only [List.length_append, jL, zG]; have h1 := zL 2; have h2 := zL x.n.toNat; have h3 := zU x.val; omega) (by decide) GA.size ?_
  intro ao10 cap10 w11 HO10 BB
  replace GA := zq GA BB (Nat.le_refl _)
  replace kg1 := GA.has zg1
  replace HX := zHX.gro GA
  replace GG := GZ.trans GA
  clear BB
  refine nq ?_
  refine mv (.slice ao10 ((((numL 2 ++ beL 16 x.key) ++ numL x.n.toNat) ++ beL 16 x.who) ++ textL x.val).length cap10) rfl (nq ?_)
  refine qL (qR ?_)
  refine bodyPost_ret (results_tmp results59 _ _ _) rfl ?_
  exact BytP.to (Kp x) ⟨_, _, rfl, GG, HO10.mono GZ.size⟩
theorem JP (x : IM) (hx : x.ok) (h0 : 0 ≤ x.n) (hl : x.val.length ≤ 140737488351232) (w : World) (HX : NC w .u8 x.ao x.cap x.val) : Calls Tryz.prog 36 #[.agg (itA x)] w (BytP w (formV x.it)) := by
  refine eN func36 rfl ntmps36 [iA x] ?_
  have GG := Gro.refl w
  refine qS ?_
  refine jW 1 rfl rfl 42 _ rfl _ rfl (itA x) rfl ?_
  intro w1 g1 G eg1 kg1
  have bg1 := jh GG eg1
  replace HX := HX.gro G
  replace GG := GG.trans G
  clear G
  clear eg1
  refine nq ?_
  refine mv (.slice none 0 0) rfl (nq ?_)
  refine qA ?_
  have zg1 := kg1
  have zHX := HX
  have GZ := GG
  have GA := Gro.refl w1
  refine jq 4 rfl rfl _ 32 call32 rfl rfl _ rfl [.int .u64 2] rfl ((vQ 2 (by decide) _).mono fun _ _ h => h.byt) (by rintro _ _ ⟨_, _, he, _, _⟩; exact ⟨_, he⟩) ?_
  rintro v w2 ⟨ao1, cap1, he, G, HO1⟩
  cases he
  replace kg1 := G.has kg1
  replace HX := HX.gro G
  replace GA := GA.gro G
  replace GG := GG.trans G
  clear G
  refine nq ?_
  refine mv (.slice ao1 (numL 2).length cap1) rfl (nq ?_)
  refine qL (qE (qG (mv (.slice ao1 (numL 2).length cap1) rfl (sv (vP g1 0) (je 42 _ 0 rfl g1 0 rfl 0 (by kernel_rfl)) rfl (sv (.slice (some ⟨g1, 0, none⟩) 16 16) (Jp _ rfl g1 0 rfl _) rfl (nq ?_))))))
  refine yH bT 8 rfl rfl _ _ rfl (l := numL 2) (by exact rfl) HO1 (l' := beL 16 x.key) (by rw [jL]; rfl) (QY kg1 (Kf x)) (by simp only [jL, zG]; have h1 := zL 2; have h2 := zL x.n.toNat; have h3 := zU x.val; omega) (by decide) GA.size ?_
  intro ao2 cap2 w3 HO2 BB
  replace GA := zq GA BB (Nat.le_refl _)
  replace kg1 := GA.has zg1
  replace HX := zHX.gro GA
  replace GG := GZ.trans GA
  clear BB
  refine nq ?_
  refine mv (.slice ao2 (numL 2 ++ beL 16 x.key).length cap2) rfl (nq ?_)
  refine qL (qE (qG (mv (.slice ao2 (numL 2 ++ beL 16 x.key).length cap2) rfl (sv (vP g1 16) (je 42 _ 1 rfl g1 0 rfl 16 (by kernel_rfl)) rfl (sv (vP g1 16) (je 40 _ 0 rfl g1 16 rfl 16 (by kernel_rfl)) rfl (sv (iK x.n) (ldItn _ rfl g1 rfl (kg1)) rfl (sv (.int .u64 ((x.n.toNat : Nat) : Int)) (conv2U _ rfl x.n rfl x.n.toNat (by omega) (by have := hx.n.2; unfold lim; omega) _) rfl (nq ?_))))))))
  refine jq 14 rfl rfl _ 32 call32 rfl rfl _ rfl [.int .u64 ((x.n.toNat : Nat) : Int)] rfl ((vQ x.n.toNat (by have := hx.n.2; unfold lim; omega) _).mono fun _ _ h => h.byt) (by rintro _ _ ⟨_, _, he, _, _⟩; exact ⟨_, he⟩) ?_
  rintro v w4 ⟨ao3, cap3, he, G, HO3⟩
  cases he
  replace kg1 := G.has kg1
  replace HX := HX.gro G
  replace GA := GA.gro G
  replace HO2 := HO2.gro G
  replace GG := GG.trans G
  clear G
  refine nq ?_
  refine yH bT 15 rfl rfl _ _ rfl (l := (numL 2 ++ beL 16 x.key)) (by exact rfl) HO2 (l' := numL x.n.toNat) (by exact rfl) (HO3.nc) (by simp only [List.length_append, jL, zG]; have h1 := zL 2; have h2 := zL x.n.toNat; have h3 := zU x.val; omega) (by decide) GA.size ?_
  intro ao4 cap4 w5 HO4 BB
  replace GA := zq GA BB (Nat.le_refl _)
  replace kg1 := GA.has zg1
  replace HX := zHX.gro GA
  replace GG := GZ.trans GA
  clear BB
  refine nq ?_
  refine mv (.slice ao4 ((numL 2 ++ beL 16 x.key) ++ numL x.n.toNat).length cap4) rfl (nq ?_)
  refine qL (qE (qG (mv (.slice ao4 ((numL 2 ++ beL 16 x.key) ++ numL x.n.toNat).length cap4) rfl (sv (vP g1 16) (je 42 _ 1 rfl g1 0 rfl 16 (by kernel_rfl)) rfl (sv (vP g1 17) (je 40 _ 1 rfl g1 16 rfl 17 (by kernel_rfl)) rfl (sv (.slice (some ⟨g1, 17, none⟩) 16 16) (Jp _ rfl g1 17 rfl _) rfl (nq ?_)))))))
  refine yH bT 20 rfl rfl _ _ rfl (l := ((numL 2 ++ beL 16 x.key) ++ numL x.n.toNat)) (by exact rfl) HO4 (l' := beL 16 x.who) (by rw [jL]; rfl) (QY kg1 (Ke x)) (by simp only [List.length_append, jL, zG]; have h1 := zL 2; have h2 := zL x.n.toNat; have h3 := zU x.val; omega) (by decide) GA.size ?_
  intro ao5 cap5 w6 HO5 BB
  replace GA := zq GA BB (Nat.le_refl _)
  replace kg1 := GA.has zg1
  replace HX := zHX.gro GA
  replace GG := GZ.trans GA
  clear BB
  refine nq ?_
  refine mv (.slice ao5 (((numL 2 ++ beL 16 x.key) ++ numL x.n.toNat) ++ beL 16 x.who).length cap5) rfl (nq ?_)
  refine qL (qE (qG (mv (.slice ao5 (((numL 2 ++ beL 16 x.key) ++ numL x.n.toNat) ++ beL 16 x.who).length cap5) rfl (sv (vP g1 33) (je 42 _ 2 rfl g1 0 rfl 33 (by kernel_rfl)) rfl (sv (.slice x.ao x.val.length x.cap) (ldItr _ rfl g1 rfl (kg1)) rfl (nq ?_))))))
  refine jq 24 rfl rfl _ 61 call61 rfl rfl _ rfl [.slice x.ao x.val.length x.cap] rfl ((jbk _ _ x.val _ HX (by omega)).mono fun _ _ h => h.byt) (by rintro _ _ ⟨_, _, he, _, _⟩; exact ⟨_, he⟩) ?_
  rintro v w7 ⟨ao6, cap6, he, G, HO6⟩
  cases he
  replace kg1 := G.has kg1
  replace HX := HX.gro G
  replace GA := GA.gro G
  replace HO5 := HO5.gro G
  replace GG := GG.trans G
  clear G
  refine nq ?_
  refine yH bT 25 rfl rfl _ _ rfl (l := (((numL 2 ++ beL 16 x.key) ++ numL x.n.toNat) ++ beL 16 x.who)) (by exact rfl) HO5 (l' := textL x.val) (by exact rfl) (HO6.nc) (by simp only [List.length_append, jL, zG]; have h1 := zL 2; have h2 := zL x.n.toNat; have h3 := zU x.val; omega) (by decide) GA.size ?_
  intro ao7 cap7 w8 HO7 BB
  replace GA := zq GA BB (Nat.le_refl _)
  replace kg1 := GA.has zg1
  replace HX := zHX.gro GA
  replace GG := GZ.trans GA
  clear BB
  refine nq ?_
  refine mv (.slice ao7 ((((numL 2 ++ beL 16 x.key) ++ numL x.n.toNat) ++ beL 16 x.who) ++ textL x.val).length cap7) rfl (nq ?_)
  refine qL (qR ?_)
  refine bodyPost_ret (results_tmp results36 _ _ _) rfl ?_
  exact BytP.to (Kp x) ⟨_, _, rfl, GG, HO7.mono GZ.size⟩
theorem YG (n : Nat) (hn : n ≤ 9223372036854775807) (w : World) : Calls Tryz.prog 28 #[nK n] w (BytP w (begV n)) := by
  refine eN func28 rfl ntmps28 [nK n] ?_
  have GG := Gro.refl w
  refine qE (qG (mv (.slice none 0 0) rfl (nq ?_)))
  refine qL (qE (qG (mv (nK n) rfl (sv (.int .u64 ((n : Nat) : Int)) (conv2U _ rfl ((n : Nat) : Int) rfl n rfl (by unfold lim; omega) _) rfl (nq ?_)))))
  refine ye 5 rfl rfl 132 2 _ rfl [(0, .int .u64 1), (1, .int .u64 (n : Nat))] rfl (([1, n] : List Nat).map fun n : Nat => Value.int .u64 (n : Int)).toArray 64 (by kernel_rfl) ?_
  intro w1 q1 G eq1 kq1
  replace GG := GG.trans G
  clear G
  have HN1 : NC _ .u64 (some ⟨q1, 0, none⟩) 2 ([1, n] : List Nat) := Qh kq1 (fun y hy => by rcases List.mem_cons.1 hy with rfl | hy; (unfold lim; omega); rw [List.mem_singleton.1 hy]; unfold lim; omega)
  clear eq1 kq1
  refine nq ?_
  refine jq 6 rfl rfl _ 53 call53 rfl rfl _ rfl [.slice (some ⟨q1, 0, none⟩) 2 2] rfl ((Ja _ _ [1, n] _ HN1 (Nat.le_of_ble_eq_true rfl)).mono fun _ _ h => (h.byt).to (putN2 _ _)) (by rintro _ _ ⟨_, _, he, _, _⟩; exact ⟨_, he⟩) ?_
  rintro v w2 ⟨ao2, cap2, he, G, HO2⟩
  cases he
  replace HO2 := HO2.mono GG.size
  replace GG := GG.trans G
  clear G
  refine nq ?_
  refine mv (.slice ao2 (begV n).length cap2) rfl (nq ?_)
  refine qL (qR ?_)
  refine bodyPost_ret (results_tmp results28 _ _ _) rfl ?_
  exact ⟨_, _, rfl, GG, HO2⟩
end Go.Proofs.YtgfnjekpafempaaGreat
