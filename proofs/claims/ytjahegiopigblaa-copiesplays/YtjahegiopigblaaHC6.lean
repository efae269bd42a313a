/- The program's book: Mark, keeps, Due. -/
import Derived.Test.YtjahegiopigblaaHC3
namespace Go.Proofs.Ytjahegiopigblaa
open Go.RowKit
/-- What a version's signs are: items as they are compared. -/
structure Sg where
  key : Nat
  n : Int
  who : Nat
  val : List Nat
def IM.sg (x : IM) : Sg := ⟨x.key, x.n, x.who, x.val⟩
/-- A row of items whose values are read. -/
def NCs (w : World) (l : List IM) : Prop := ∀ x ∈ l, NC w .u8 x.ao x.cap x.val
theorem NCs.gro {w w' : World} {l : List IM} (h : NCs w l) (G : Gro w w') : NCs w' l := fun x hx => (h x hx).gro G
theorem NCs.at {w : World} {l : List IM} (h : NCs w l) {j : Nat} (hj : j < l.length) : NC w .u8 (l.getD j zM).ao (l.getD j zM).cap (l.getD j zM).val := h _ (by rw [List.getD_eq_getElem?_getD, List.getElem?_eq_getElem hj]; exact List.getElem_mem hj)
def okV (L : List ((Nat × Nat) × VM)) : Prop := ∀ x ∈ L, x.2.ok
theorem okV.get {L : List ((Nat × Nat) × VM)} (h : okV L) (p : Nat × Nat) : ((getM L p).getD zV).ok := by
  cases e : getM L p with
  | none => exact zV_ok
  | some v => exact h _ (getM_some e)
/-- What is noted behind a mark. -/
def mkB (L : List ((Nat × Nat) × VM)) (p : Nat × Nat) (v : VM) : List ((Nat × Nat) × VM) := if eqV v zV = true then delM L p else putM L p v
theorem okV.mk {L : List ((Nat × Nat) × VM)} (h : okV L) (p : Nat × Nat) {v : VM} (hv : v.ok) : okV (mkB L p v) := fun x hx => by
  unfold mkB at hx
  split at hx
  · exact h x (List.mem_filter.1 hx).1
  · rcases List.mem_cons.1 hx with rfl | hx
    · exact hv
    · exact h x (List.mem_filter.1 hx).1
theorem mkB_get {L : List ((Nat × Nat) × VM)} (h : KNM L) (p q : Nat × Nat) (v : VM) : (getM (mkB L p v) q).getD zV = if q = p then v else (getM L q).getD zV := by
  unfold mkB
  by_cases c : eqV v zV = true
  · rw [if_pos c, getM_del h]
    by_cases e : q = p
    · rw [if_pos e, if_pos e, eqV_iff.1 c]
      rfl
    · rw [if_neg e, if_neg e]
  · rw [if_neg c, getM_put h]
    by_cases e : q = p
    · rw [if_pos e, if_pos e]
      rfl
    · rw [if_neg e, if_neg e]
theorem run_lkB {o : Oper} {A : Act} {w : World} {b : Nat} {L : List ((Nat × Nat) × VM)} (h : TB w b L) (x y : Operand) (ho : o.op = .lookup 73 x y false) (hx : A.eval x = .map (some b)) (p : Nat × Nat) (hy : A.eval y = .agg (abA p)) (hp : p.1 < top ∧ p.2 < top) : (execOp A.eval o).run Try.prog w = .ok (.value (.agg (veA ((getM L p).getD zV)))) w := by
  have h1 := run_lk1M mB h x y ho hx p hy hp
  rwa [evB_get] at h1
/-- Whether a version is noted of somebody: what is due of one item. -/
def dueX (f : Nat → Nat → VM) (x : IM) (o : List Nat) : List (Nat × Sg) := (o.filter fun i => !eqV (f i x.key) x.ver).map fun i => (i, x.sg)
def dueL (f : Nat → Nat → VM) (own : Nat → List Nat) (its : List IM) : List (Nat × Sg) := its.flatMap fun x => dueX f x (own x.key)
theorem dueX_no (f : Nat → Nat → VM) (x : IM) (o : List Nat) (j : Nat) (hj : j < o.length) (h : eqV (f (o.getD j 0) x.key) x.ver = true) : dueX f x (o.take (j + 1)) = dueX f x (o.take j) := by
  unfold dueX
  rw [take_at 0 o j hj, List.filter_append, List.filter_cons_of_neg (by simp only [h]; decide), List.filter_nil, List.append_nil]
theorem dueX_yes (f : Nat → Nat → VM) (x : IM) (o : List Nat) (j : Nat) (hj : j < o.length) (h : eqV (f (o.getD j 0) x.key) x.ver = false) : dueX f x (o.take (j + 1)) = dueX f x (o.take j) ++ [(o.getD j 0, x.sg)] := by
  unfold dueX
  rw [take_at 0 o j hj, List.filter_append, List.map_append, List.filter_cons_of_pos (by simp only [h]; decide), List.filter_nil]
  rfl
theorem dueL_step (f : Nat → Nat → VM) (own : Nat → List Nat) (its : List IM) (i : Nat) (hi : i < its.length) : dueL f own (its.take (i + 1)) = dueL f own (its.take i) ++ dueX f (its.getD i zM) (own (its.getD i zM).key) := by
  unfold dueL
  rw [take_at zM its i hi, List.flatMap_append, List.flatMap_cons, List.flatMap_nil, List.append_nil]
def DM.ab (d : DM) : Nat × Sg := (d.to, d.it.sg)
/-- Items for friends whose values lie in rows of one's own. -/
def OBd (w : World) (B : Nat) (Z : List DM) : Prop := ∀ d ∈ Z, OB w 5 .u8 B d.it.ao d.it.cap d.it.val
section
variable {w w' : World} {g B : Nat} {Z : List DM} {x : Obj}
def NEd (Z : List DM) (g : Nat) : Prop := ∀ d ∈ Z, NEo d.it.ao g
theorem OBd.gro (h : OBd w B Z) (G : Gro w w') : OBd w' B Z := fun x hx => (h x hx).gro G
theorem OBd.ne (h : OBd w B Z) (e : w.heap.size = g) : NEd Z g := fun x hx => (h x hx).ne e
theorem OBd.st (h : OBd w B Z) (S : Stored w w' g x) (hn : NEd Z g) : OBd w' B Z := fun y hy => (h y hy).st S (hn y hy)
theorem OBd.snoc (h : OBd w B Z) {y : DM} (hy : OB w 5 .u8 B y.it.ao y.it.cap y.it.val) : OBd w B (Z ++ [y]) := fun z hz => by
  rcases List.mem_append.1 hz with hz | hz
  · exact h z hz
  · rw [List.mem_singleton.1 hz]; exact hy
theorem OB.over {α : Type} {K : Kd α} {e : TypeId} {ao ro : Option Addr} {cap rc C : Nat} {l : List Nat} {L : List α} (h : OB w 5 .u8 B ao cap l) (ho : OW K e w C ro rc L) (he : (5 : TypeId) ≠ e) (G : GroS (Go.Proofs.Ytjahegiopigblaa.blk ro) w w') : OB w' 5 .u8 B ao cap l :=
  h.gros G fun ad ha hm => by
    obtain ⟨cur, hc⟩ := h.blk5 ha
    exact ho.own.ne hc he hm
theorem OBd.over {α : Type} {K : Kd α} {e : TypeId} {ro : Option Addr} {rc C : Nat} {L : List α} (h : OBd w B Z) (ho : OW K e w C ro rc L) (he : (5 : TypeId) ≠ e) (G : GroS (Go.Proofs.Ytjahegiopigblaa.blk ro) w w') : OBd w' B Z := fun x hx => (h x hx).over ho he G
end
def aptE (B : Nat) (x : IM) : PostE := PostE.ex (fun v w => ∃ ao cap, v = .agg (itA (x.re ao cap)) ∧ OB w 5 .u8 B ao cap x.val) (fun _ _ _ G ⟨a, c, h1, h2⟩ => ⟨a, c, h1, h2.gro G⟩)
theorem fill_aptE (B : Nat) (x : IM) (v : Value) : (aptE B x).fill v = v := rfl
def bldE (B : Nat) (i : Nat) (x : IM) : PostE := PostE.ex (fun v w => ∃ ao cap, v = .agg (duA ⟨i, x.re ao cap⟩) ∧ OB w 5 .u8 B ao cap x.val) (fun _ _ _ G ⟨a, c, h1, h2⟩ => ⟨a, c, h1, h2.gro G⟩)
theorem fill_bldE (B : Nat) (i : Nat) (x : IM) (v : Value) : (bldE B i x).fill v = v := rfl
def rowD (B : Nat) (i : Nat) (x : IM) : PostE := PostE.ex (fun v w => ∃ ro rc ao cap, v = .slice ro 1 rc ∧ RK kdu w ro rc [⟨i, x.re ao cap⟩] ∧ OB w 5 .u8 B ao cap x.val) (fun _ _ _ G ⟨r, q, a, c, h1, h2, h3⟩ => ⟨r, q, a, c, h1, h2.gro G, h3.gro G⟩)
theorem fill_rowD (B : Nat) (i : Nat) (x : IM) (v : Value) : (rowD B i x).fill v = v := rfl
theorem run_fdKq {α : Type} {K : Kd α} {o : Oper} {A : Act} {w : World} {ao : Option Addr} {cap : Nat} {l : List α} (h : RK K w ao cap l) (ty : TypeId) (x : Operand) (i p q : Nat) (hf : ∀ ad, (Instr.fieldAt ty (.pointer (some ad)) i).run Try.prog w = .ok (.pointer (some (ad.add q))) w) (ho : o.op = .fieldAddr ty x i) (j : Nat) (hx : A.eval x = .pointer (pK K ao j p)) (hj : j < l.length) : (execOp A.eval o).run Try.prog w = .ok (.value (.pointer (pK K ao j (p + q)))) w := by
  obtain ⟨ad, ha⟩ := h.xc.some (by omega)
  subst ha
  have hx' : A.eval x = .pointer (some (ad.add (j * K.sz + p))) := hx
  have h1 := run_fdA ty x i ho hx' _ (hf _)
  rw [h1]
  have e : (ad.add (j * K.sz + p)).add q = ad.add (j * K.sz + (p + q)) := by rw [Addr.add_add, Nat.add_assoc]
  rw [e]
  rfl
theorem getD_mC {l : List IM} {j : Nat} (hj : j < l.length) : l.getD j zM ∈ l := by
  rw [List.getD_eq_getElem?_getD, List.getElem?_eq_getElem hj]
  exact List.getElem_mem hj
set_option maxRecDepth 100000 in
set_option maxHeartbeats 4000000 in
theorem mark_any (g mb i k : Nat) (v : VM) (L : List ((Nat × Nat) × VM)) (w : World) (hi : i < top) (hk : k < top) (hv : v.ok) (kg : w.heap[g]? = some (.cells (bkA mb) 75 (0, 0))) (HM : TB w mb L) : Calls Try.prog 19 #[.pointer (some ⟨g, 0, none⟩), .agg (idA i), .agg (idA k), .agg (veA v)] w (fun e w' => e = .returned (.tuple #[]) ∧ GroS [mb] w w' ∧ TB w' mb (mkB L (i, k) v)) := by
  refine s_enter Try.func19 rfl Try.ntmps19 [.pointer (some ⟨g, 0, none⟩), .agg (idA i), .agg (idA k), .agg (veA v)] [.pointer (some ⟨g, 0, none⟩), .agg (idA i), .agg (idA k), .agg (veA v), undef, undef, undef, undef, undef, undef, undef, undef, undef, undef, undef, undef, undef, undef, undef, undef, undef, undef, undef, undef, undef, undef, undef, undef] rfl ?_
  have GG := GroS.refl [mb] w
  refine wp_seq ?_
  refine wp_region_lit ?_
  refine s_box 5 rfl rfl 23 _ rfl _ rfl (idA i) rfl ?_
  intro w1 g1 G eg1 kg1
  have bg1 := size_basS GG eg1
  have dgg1 := lt_new kg eg1
  have dHMg1 := HM.ne eg1
  replace kg := G.has kg
  replace HM := HM.gro G
  replace GG := GG.tg G
  clear G
  clear eg1
  refine nr ?_; intro U h; simp only [z0, z1] at h; subst h
  refine s_box 6 rfl rfl 23 _ rfl _ rfl (idA k) rfl ?_
  intro w2 g2 G eg2 kg2
  have bg2 := size_basS GG eg2
  have dgg2 := lt_new kg eg2
  have dg1g2 := lt_new kg1 eg2
  have dHMg2 := HM.ne eg2
  replace kg := G.has kg
  replace kg1 := G.has kg1
  replace HM := HM.gro G
  replace GG := GG.tg G
  clear G
  clear eg2
  refine nr ?_; intro U h; simp only [z0, z1] at h; subst h
  refine s_box 7 rfl rfl 39 _ rfl _ rfl (veA v) rfl ?_
  intro w3 g3 G eg3 kg3
  have bg3 := size_basS GG eg3
  have dgg3 := lt_new kg eg3
  have dg1g3 := lt_new kg1 eg3
  have dg2g3 := lt_new kg2 eg3
  have dHMg3 := HM.ne eg3
  replace kg := G.has kg
  replace kg1 := G.has kg1
  replace kg2 := G.has kg2
  replace HM := HM.gro G
  replace GG := GG.tg G
  clear G
  clear eg3
  refine nr ?_; intro U h; simp only [z0, z1] at h; subst h
  refine wpList_nil ?_
  refine then_n ?_
  refine wp_seq ?_
  refine wp_seq ?_
  refine wp_region_lit ?_
  refine s_val 9 rfl rfl (.pointer (some ⟨g, 0, none⟩)) (rfl) ?_
  refine nr ?_; intro U h; simp only [z0, z1] at h; subst h
  refine s_val 10 rfl rfl (.bool false) (run_eqnp 32 _ _ _ rfl _ rfl rfl Try.underlying32 _) ?_
  refine nr ?_; intro U h; simp only [z0, z1] at h; subst h
  refine wpList_nil ?_
  refine then_n ?_
  refine wp_cond_false rfl ?_
  refine wp_skip ?_
  refine then_n ?_
  refine wp_seq ?_
  refine wp_region_lit ?_
  refine s_val 11 rfl rfl (.agg (idA i)) (ldI0 _ rfl g1 rfl (kg1)) ?_
  refine nr ?_; intro U h; simp only [z0, z1] at h; subst h
  refine s_val 12 rfl rfl (.agg (idA k)) (ldI0 _ rfl g2 rfl (kg2)) ?_
  refine nr ?_; intro U h; simp only [z0, z1] at h; subst h
  refine s_val 13 rfl rfl (.agg (abA (i, k))) (run_bd 77 _ rfl [(0, .agg (idA i)), (1, .agg (idA k))] rfl _ (bdAb i k _)) ?_
  refine nr ?_; intro U h; simp only [z0, z1] at h; subst h
  refine s_alloc 8 rfl rfl 77 rfl _ zeroab77 (abA (0, 0)) rfl ?_
  intro w4 g4 G eg4 kg4
  have bg4 := size_basS GG eg4
  have dgg4 := lt_new kg eg4
  have dg1g4 := lt_new kg1 eg4
  have dg2g4 := lt_new kg2 eg4
  have dg3g4 := lt_new kg3 eg4
  have dHMg4 := HM.ne eg4
  replace kg := G.has kg
  replace kg1 := G.has kg1
  replace kg2 := G.has kg2
  replace kg3 := G.has kg3
  replace HM := HM.gro G
  replace GG := GG.tg G
  clear G
  clear eg4
  refine nr ?_; intro U h; simp only [z0, z1] at h; subst h
  refine s_store rfl rfl 77 _ _ rfl g4 0 rfl (.agg (abA (i, k))) rfl 77 _ kg4 (abA (i, k)) rfl (siab77' _) (abA_fit _ _) (abA_one _) (abA (i, k)) (splice_whole _ _ (abA_sz _ _)) ?_
  intro w5 St
  replace kg := St.has (by omega) kg
  replace kg1 := St.has (by omega) kg1
  replace kg2 := St.has (by omega) kg2
  replace kg3 := St.has (by omega) kg3
  replace HM := HM.st St dHMg4
  replace GG := GG.st St (.inl bg4)
  replace kg4 := St.new
  clear St
  refine wpList_nil ?_
  refine then_n ?_
  refine wp_seq ?_
  refine wp_seq ?_
  cases k1 : eqV v zV
  · refine wp_region_lit ?_
    refine s_val 14 rfl rfl (.agg (veA v)) (ldVe0 _ rfl g3 rfl (kg3)) ?_
    refine nr ?_; intro U h; simp only [z0, z1] at h; subst h
    refine s_val 15 rfl rfl (.agg (veA zV)) (run_bd 39 _ rfl [] rfl _ (bdV0 _)) ?_
    refine nr ?_; intro U h; simp only [z0, z1] at h; subst h
    refine s_val 16 rfl rfl (.bool false) (run_eqV _ _ _ rfl _ _ rfl rfl hv zV_ok false k1) ?_
    refine nr ?_; intro U h; simp only [z0, z1] at h; subst h
    refine wpList_nil ?_
    refine then_n ?_
    refine wp_cond_false rfl ?_
    refine wp_skip ?_
    refine then_n ?_
    refine wp_region_exA (A := ?Ax1) 6 [(0, 22), (1, 23), (2, 24), (3, 25), (4, 26), (5, 27)] [.val (.pointer (some ⟨g, 0, none⟩)), .val (.pointer (some ⟨g, 0, none⟩)), .val (.pointer (some ⟨g, 0, none⟩)), .val (.map (some mb)), .val (.agg (abA (i, k))), .val (.agg (veA v))] follows (by kernel_rfl) rfl ?hAx1 (opsA_cons ?o0x1 (opsA_cons ?o1x1 (opsA_cons ?o2x1 (opsA_cons ?o3x1 (opsA_cons ?o4x1 (opsA_cons ?o5x1 opsA_nil)))))) ?restx1
    case hAx1 =>
      intro ptrs
      simp only [full, foldSlots, filledE, postE, List.foldl_cons, List.foldl_nil, List.getD_cons_zero, List.getD_cons_succ, fill_val, List.set_cons_zero, List.set_cons_succ]
      exact rfl
    case o0x1 => exact fun _ _ _ _ => opE_move (v := .pointer (some ⟨g, 0, none⟩)) _ rfl rfl rfl
    case o1x1 => exact fun _ _ _ _ => opE_value (v := .pointer (some ⟨g, 0, none⟩)) rfl (run_nc _ rfl _ rfl)
    case o2x1 => exact fun _ _ _ _ => opE_value (v := .pointer (some ⟨g, 0, none⟩)) rfl (run_fld 75 _ 0 rfl g 0 rfl 0 (by kernel_rfl))
    case o3x1 => exact fun _ _ hw _ => opE_value (v := .map (some mb)) rfl (ldBk _ rfl g rfl (hw.has kg))
    case o4x1 => exact fun _ _ hw _ => opE_value (v := .agg (abA (i, k))) rfl (ldAb0 _ rfl g4 rfl (hw.has kg4))
    case o5x1 => exact fun _ _ hw _ => opE_value (v := .agg (veA v)) rfl (ldVe0 _ rfl g3 rfl (hw.has kg3))
    intro ptrs w6 GD hxE
    simp only [List.drop_succ_cons, List.drop_zero]
    replace kg := GD.has kg
    replace kg1 := GD.has kg1
    replace kg2 := GD.has kg2
    replace kg3 := GD.has kg3
    replace kg4 := GD.has kg4
    replace HM := HM.gro ((Gro.refl _).drew.trans GD)
    replace GG := GG.drew.tg GD
    clear GD
    refine s_mputM mB rfl rfl _ _ _ rfl HM rfl (i, k) rfl ⟨hi, hk⟩ v rfl ?_
    intro w7 HM' G
    replace GG := GG.trans G
    refine wpList_nil ?_
    refine post_n (results_none Try.results19 _ _ _) rfl ?_
    refine ⟨rfl, GG, ?_⟩
    unfold mkB
    rw [if_neg (by rw [k1]; decide)]
    exact HM'
  · refine wp_region_lit ?_
    refine s_val 14 rfl rfl (.agg (veA v)) (ldVe0 _ rfl g3 rfl (kg3)) ?_
    refine nr ?_; intro U h; simp only [z0, z1] at h; subst h
    refine s_val 15 rfl rfl (.agg (veA zV)) (run_bd 39 _ rfl [] rfl _ (bdV0 _)) ?_
    refine nr ?_; intro U h; simp only [z0, z1] at h; subst h
    refine s_val 16 rfl rfl (.bool true) (run_eqV _ _ _ rfl _ _ rfl rfl hv zV_ok true k1) ?_
    refine nr ?_; intro U h; simp only [z0, z1] at h; subst h
    refine wpList_nil ?_
    refine then_n ?_
    refine wp_cond_true rfl ?_
    refine wp_seq ?_
    refine wp_region_exA (A := ?Ax2) 5 [(0, 17), (1, 18), (2, 19), (3, 20), (4, 21)] [.val (.pointer (some ⟨g, 0, none⟩)), .val (.pointer (some ⟨g, 0, none⟩)), .val (.pointer (some ⟨g, 0, none⟩)), .val (.map (some mb)), .val (.agg (abA (i, k)))] follows (by kernel_rfl) rfl ?hAx2 (opsA_cons ?o0x2 (opsA_cons ?o1x2 (opsA_cons ?o2x2 (opsA_cons ?o3x2 (opsA_cons ?o4x2 opsA_nil))))) ?restx2
    case hAx2 =>
      intro ptrs
      simp only [full, foldSlots, filledE, postE, List.foldl_cons, List.foldl_nil, List.getD_cons_zero, List.getD_cons_succ, fill_val, List.set_cons_zero, List.set_cons_succ]
      exact rfl
    case o0x2 => exact fun _ _ _ _ => opE_move (v := .pointer (some ⟨g, 0, none⟩)) _ rfl rfl rfl
    case o1x2 => exact fun _ _ _ _ => opE_value (v := .pointer (some ⟨g, 0, none⟩)) rfl (run_nc _ rfl _ rfl)
    case o2x2 => exact fun _ _ _ _ => opE_value (v := .pointer (some ⟨g, 0, none⟩)) rfl (run_fld 75 _ 0 rfl g 0 rfl 0 (by kernel_rfl))
    case o3x2 => exact fun _ _ hw _ => opE_value (v := .map (some mb)) rfl (ldBk _ rfl g rfl (hw.has kg))
    case o4x2 => exact fun _ _ hw _ => opE_value (v := .agg (abA (i, k))) rfl (ldAb0 _ rfl g4 rfl (hw.has kg4))
    intro ptrs w6 GD hxE
    simp only [List.drop_succ_cons, List.drop_zero]
    replace kg := GD.has kg
    replace kg1 := GD.has kg1
    replace kg2 := GD.has kg2
    replace kg3 := GD.has kg3
    replace kg4 := GD.has kg4
    replace HM := HM.gro ((Gro.refl _).drew.trans GD)
    replace GG := GG.drew.tg GD
    clear GD
    refine s_delM mB rfl rfl _ _ rfl HM rfl (i, k) rfl ⟨hi, hk⟩ ?_
    intro w7 HM' G
    replace GG := GG.trans G
    refine wpList_nil ?_
    refine then_n ?_
    refine wp_ret ?_
    refine then_r ?_
    refine bodyPost_ret (results_none Try.results19 _ _ _) rfl ?_
    refine ⟨rfl, GG, ?_⟩
    unfold mkB
    rw [if_pos k1]
    exact HM'
set_option maxRecDepth 100000 in
set_option maxHeartbeats 4000000 in
theorem keeps_any (g mb i : Nat) (x : IM) (L : List ((Nat × Nat) × VM)) (w : World) (hi : i < top) (hx : x.ok) (HV : okV L) (kg : w.heap[g]? = some (.cells (bkA mb) 75 (0, 0))) (HM : TB w mb L) : Calls Try.prog 41 #[.pointer (some ⟨g, 0, none⟩), .agg (idA i), .agg (itA x)] w (fun e w' => e = .returned (.bool (eqV ((getM L (i, x.key)).getD zV) x.ver)) ∧ Gro w w') := by
  refine s_enter Try.func41 rfl Try.ntmps41 [.pointer (some ⟨g, 0, none⟩), .agg (idA i), .agg (itA x)] [.pointer (some ⟨g, 0, none⟩), .agg (idA i), .agg (itA x), undef, undef, undef, undef, undef, undef, undef, undef, undef, undef, undef, undef, undef, undef, undef, undef] rfl ?_
  have GG := Gro.refl w
  refine wp_seq ?_
  refine wp_region_lit ?_
  refine s_box 4 rfl rfl 23 _ rfl _ rfl (idA i) rfl ?_
  intro w1 g1 G eg1 kg1
  have bg1 := size_base GG eg1
  replace kg := G.has kg
  replace HM := HM.gro G
  replace GG := GG.trans G
  clear G
  clear eg1
  refine nr ?_; intro U h; simp only [z0, z1] at h; subst h
  refine s_box 5 rfl rfl 46 _ rfl _ rfl (itA x) rfl ?_
  intro w2 g2 G eg2 kg2
  have bg2 := size_base GG eg2
  replace kg := G.has kg
  replace kg1 := G.has kg1
  replace HM := HM.gro G
  replace GG := GG.trans G
  clear G
  clear eg2
  refine nr ?_; intro U h; simp only [z0, z1] at h; subst h
  refine s_val 6 rfl rfl (.bool false) (rfl) ?_
  refine nr ?_; intro U h; simp only [z0, z1] at h; subst h
  refine wpList_nil ?_
  refine then_n ?_
  refine wp_seq ?_
  refine wp_region_exA (A := ?Ax3) 11 [(0, 7), (1, 8), (2, 9), (3, 10), (4, 11), (5, 12), (6, 13), (7, 14), (8, 15), (9, 16), (10, 17)] [.val (.pointer (some ⟨g, 0, none⟩)), .val (.pointer (some ⟨g, 0, none⟩)), .val (.pointer (some ⟨g, 0, none⟩)), .val (.map (some mb)), .val (.agg (idA i)), .val (.pointer (some ⟨g2, 0, none⟩)), .val (.agg (idA x.key)), .val (.agg (abA (i, x.key))), .val (.agg (veA ((getM L (i, x.key)).getD zV))), .val (.pointer (some ⟨g2, 16, none⟩)), .val (.agg (veA x.ver))] follows (by kernel_rfl) rfl ?hAx3 (opsA_cons ?o0x3 (opsA_cons ?o1x3 (opsA_cons ?o2x3 (opsA_cons ?o3x3 (opsA_cons ?o4x3 (opsA_cons ?o5x3 (opsA_cons ?o6x3 (opsA_cons ?o7x3 (opsA_cons ?o8x3 (opsA_cons ?o9x3 (opsA_cons ?o10x3 opsA_nil))))))))))) ?restx3
  case hAx3 =>
    intro ptrs
    simp only [full, foldSlots, filledE, postE, List.foldl_cons, List.foldl_nil, List.getD_cons_zero, List.getD_cons_succ, fill_val, List.set_cons_zero, List.set_cons_succ]
    exact rfl
  case o0x3 => exact fun _ _ _ _ => opE_move (v := .pointer (some ⟨g, 0, none⟩)) _ rfl rfl rfl
  case o1x3 => exact fun _ _ _ _ => opE_value (v := .pointer (some ⟨g, 0, none⟩)) rfl (run_nc _ rfl _ rfl)
  case o2x3 => exact fun _ _ _ _ => opE_value (v := .pointer (some ⟨g, 0, none⟩)) rfl (run_fld 75 _ 0 rfl g 0 rfl 0 (by kernel_rfl))
  case o3x3 => exact fun _ _ hw _ => opE_value (v := .map (some mb)) rfl (ldBk _ rfl g rfl (hw.has kg))
  case o4x3 => exact fun _ _ hw _ => opE_value (v := .agg (idA i)) rfl (ldI0 _ rfl g1 rfl (hw.has kg1))
  case o5x3 => exact fun _ _ _ _ => opE_value (v := .pointer (some ⟨g2, 0, none⟩)) rfl (run_fld 46 _ 0 rfl g2 0 rfl 0 (by kernel_rfl))
  case o6x3 => exact fun _ _ hw _ => opE_value (v := .agg (idA x.key)) rfl (ldItk _ rfl g2 rfl (hw.has kg2))
  case o7x3 => exact fun _ _ _ _ => opE_value (v := .agg (abA (i, x.key))) rfl (run_bd 77 _ rfl [(0, .agg (idA i)), (1, .agg (idA x.key))] rfl _ (bdAb i x.key _))
  case o8x3 => exact fun _ _ hw _ => opE_value (v := .agg (veA ((getM L (i, x.key)).getD zV))) rfl (run_lkB ((HM).gro ((Gro.refl _).drew.trans hw)) _ _ rfl rfl (i, x.key) rfl ⟨hi, hx.key⟩)
  case o9x3 => exact fun _ _ _ _ => opE_value (v := .pointer (some ⟨g2, 16, none⟩)) rfl (run_fld 46 _ 1 rfl g2 0 rfl 16 (by kernel_rfl))
  case o10x3 => exact fun _ _ hw _ => opE_value (v := .agg (veA x.ver)) rfl (ldItv _ rfl g2 rfl (hw.has kg2))
  intro ptrs w3 GD hxE
  simp only [List.drop_succ_cons, List.drop_zero]
  replace kg := GD.has kg
  replace kg1 := GD.has kg1
  replace kg2 := GD.has kg2
  replace HM := HM.gro ((Gro.refl _).drew.trans GD)
  replace GG := GG.drew.trans GD
  clear GD
  refine s_val 18 rfl rfl (.bool (eqV ((getM L (i, x.key)).getD zV) x.ver)) (run_eqV _ _ _ rfl _ _ rfl rfl (HV.get (i, x.key)) hx.ver _ rfl) ?_
  refine nr ?_; intro U h; simp only [z0, z1] at h; subst h
  refine s_val 6 rfl rfl (.bool (eqV ((getM L (i, x.key)).getD zV) x.ver)) (rfl) ?_
  refine nr ?_; intro U h; simp only [z0, z1] at h; subst h
  refine wpList_nil ?_
  refine then_n ?_
  refine wp_ret ?_
  refine bodyPost_ret (results_tmp Try.results41 _ _ _) rfl ?_
  exact ⟨rfl, GG⟩
end Go.Proofs.Ytjahegiopigblaa
