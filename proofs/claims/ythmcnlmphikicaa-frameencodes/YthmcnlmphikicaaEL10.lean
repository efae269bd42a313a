/- Append onto the call's own row, as an operation of a region in whatever order. -/
import Derived.Test.YthmcnlmphikicaaELaw7
import Derived.Test.YthmcnlmphikicaaEB1
import Derived.Test.YthmcnlmphikicaaEL9
import Derived.Test.YthmcnlmphikicaaEL4
namespace Go.Proofs.Ythmcnlmphikicaa
open Go.RowKit
section
variable {P : Program}
theorem run_app {o : Oper} {a : Act} {w : World} {t e : TypeId} {k : IntKind} {b : Nat} (T : NumT P t e k b) (s x : Operand)
    (ho : o.op = .call { callee := .builtin .append, args := #[s, x], argTypes := #[t, t] }) {B : Nat} {ao : Option Addr} {cap : Nat} {l : List Nat} (hs : a.eval s = .slice ao l.length cap) (hown : OB w e k B ao cap l)
    {ao' : Option Addr} {cap' : Nat} {l' : List Nat} (hx : a.eval x = .slice ao' l'.length cap') (hsrc : NC w k ao' cap' l') (hb : (l.length + l'.length) * b ≤ 140737488355328) (hb0 : 0 < b) (hB : B ≤ w.heap.size) :
    ∃ ao2 cap2 w', (execOp a.eval o).run P w = .ok (.value (.slice ao2 (l ++ l').length cap2)) w' ∧ OB w' e k B ao2 cap2 (l ++ l') ∧ Below B w w' ∧ ∀ q, q < w.heap.size → (∀ ad, ao = some ad → ad.block ≠ q) → w'.heap[q]? = w.heap[q]? := by
  obtain ⟨i, hi, hz, hsz, hby⟩ := T.info
  have hle : l.length + l'.length ≤ 140737488355328 := Nat.le_trans (Nat.le_mul_of_pos_right _ hb0) hb
  cases ao' with
  | none =>
    have h1 := hsrc.bare rfl
    have h2 := hsrc.fit
    have h3 : l' = [] := List.eq_nil_of_length_eq_zero (by omega)
    subst h3
    subst h1
    have hrun := run_append_owned_none (P := P) (w := w) B t o.type e i 1 T.und hi _ l.length _ hown.own
    refine ⟨ao, cap, w, ?_, by rw [List.append_nil]; exact hown, Below.refl _ _, fun _ _ _ => rfl⟩
    rw [List.append_nil]
    simp [execOp, ho, resolve, invoke, builtin, hs, hx, hrun, Result.andThen]
  | some ad =>
    obtain ⟨v', w', hr, h1, h2, _⟩ := run_append_own (P := P) w B t o.type e i (.int k 0) 1 b T.und hi hz hsz hby rfl (by decide) _ l.length _ hown.own ad l'.length cap' (l'.map fun r : Nat => Value.int k (r : Int)) (by simp) (fun j u hu => by
        rw [List.getElem?_map] at hu
        by_cases hj : j < l'.length
        · rw [List.getElem?_eq_getElem hj] at hu
          have hc := hsrc.cell ad rfl j hj
          rw [List.getD_eq_getElem?_getD, List.getElem?_eq_getElem hj] at hc
          rw [hc]
          simpa using hu
        · rw [List.getElem?_eq_none (by omega)] at hu
          cases hu) (fun u hu => by obtain ⟨r, _, rfl⟩ := List.mem_map.1 hu; rfl) (by simp only [maxLen]; omega) hb hB
    have hrun : (execOp a.eval o).run P w = .ok (.value v') w' := by
      unfold execOp
      simp only [ho, resolve, invoke, builtin, Sem.run_bind, Sem.run_pure, Result.andThen_ok, List.map_toArray, List.map_cons, List.map_nil, hs, hx, hr]
    have hB' : ∀ q, (Value.slice ao l.length cap).ownBlock = some q → B ≤ q := fun q hq => (hown.own.lt q hq).1
    have hbel := below_of_grown h2 hB' hB
    rw [← List.map_append] at h1
    have hl : l.length + l'.length = (l ++ l').length := by simp
    rw [hl] at h1
    have hwf : ∀ x ∈ l ++ l', (x : Int) ≤ k.max := fun x hx => by
      rcases List.mem_append.1 hx with hx | hx
      · exact hown.wf x hx
      · exact hsrc.wf x hx
    have hoth : ∀ q, q < w.heap.size → (∀ ad, ao = some ad → ad.block ≠ q) → w'.heap[q]? = w.heap[q]? := fun q hq hne => h2.block q hq (fun e => by
      cases ao with
      | none => cases e
      | some a2 => injection e with e; exact hne a2 rfl e.symm)
    rw [hrun]
    rcases h1.2 with ⟨rfl, h4⟩ | ⟨g, c, cur, rfl, _⟩
    · refine ⟨none, 0, w', ?_, ⟨by rw [h4] at h1; rw [h4]; exact h1, hwf⟩, hbel, hoth⟩
      rw [h4]
    · exact ⟨_, _, w', rfl, ⟨h1, hwf⟩, hbel, hoth⟩
theorem opX_app {ops : Array Oper} {R1 : World → Prop} {o : Oper} {A : Act} {w : World} {t e : TypeId} {k : IntKind} {b : Nat} (T : NumT P t e k b) (kk : PostE) (hw : Region.wanted o (yielded ops A.tmps) = true) (s x : Operand)
    (ho : o.op = .call { callee := .builtin .append, args := #[s, x], argTypes := #[t, t] }) {B : Nat} {ao : Option Addr} {cap : Nat} {l : List Nat} (hs : A.eval s = .slice ao l.length cap) (hown : OB w e k B ao cap l)
    {ao' : Option Addr} {cap' : Nat} {l' : List Nat} (hx : A.eval x = .slice ao' l'.length cap') (hsrc : NC w k ao' cap' l') (hb : (l.length + l'.length) * b ≤ 140737488355328) (hb0 : 0 < b) (hB : B ≤ w.heap.size)
    (H : ∀ ao2 cap2 w', OB w' e k B ao2 cap2 (l ++ l') → Below B w w' → (∀ q, q < w.heap.size → (∀ ad, ao = some ad → ad.block ≠ q) → w'.heap[q]? = w.heap[q]?) → R1 w' ∧ kk.p (.slice ao2 (l ++ l').length cap2) w') : OpX P ops R1 kk o A w := by
  obtain ⟨ao2, cap2, w', hr, h1, h2, h3⟩ := run_app T s x ho hs hown hx hsrc hb hb0 hB
  exact ⟨hw, by rw [hr]; exact H ao2 cap2 w' h1 h2 h3⟩
theorem OB.same {w w' : World} {e : TypeId} {k : IntKind} {M : Nat} {ao : Option Addr} {cap : Nat} {l : List Nat} (h : OB w e k M ao cap l) (hS : ∀ q, M ≤ q → q < w.heap.size → w'.heap[q]? = w.heap[q]?) : OB w' e k M ao cap l :=
  ⟨⟨h.own.1, h.own.2.imp id fun ⟨g, c, cur, h1, h2, h3, h4⟩ => ⟨g, c, cur, h1, h2, (hS g h2 (lt_of_heap h3)).trans h3, h4⟩⟩, h.wf⟩
end
end Go.Proofs.Ythmcnlmphikicaa
namespace Go.Proofs.Ythmcnlmphikicaa
open Go.RowKit
theorem num_i (x : Int) (h0 : 0 ≤ x) (hx : x < 9223372036854775808) (w : World) : Calls Try.prog 26 #[.int .i64 x] w fun e w' => ∃ ao cap, e = .returned (.slice ao (nI x).length cap) ∧ OB w' 5 .u8 w.heap.size ao cap (nI x) ∧ Gro w w' := by
  have h := num_d x.toNat (by omega) w
  rw [show ((x.toNat : Nat) : Int) = x by omega] at h
  exact h
theorem txt_d (ao : Option Addr) (cap : Nat) (l : List Nat) (w : World) (HC : NC w .u8 ao cap l) (hlen : l.length ≤ 140737488355000) : Calls Try.prog 28 #[.slice ao l.length cap] w fun e w' => ∃ ao2 cap2, e = .returned (.slice ao2 (textL l).length cap2) ∧ OB w' 5 .u8 w.heap.size ao2 cap2 (textL l) ∧ Gro w w' :=
  (text_doc ao cap l w HC hlen).mono fun e w' ⟨ao2, cap2, L, he, hL, HO, G⟩ => by
    have e1 := hL.out
    subst e1
    exact ⟨ao2, cap2, he, HO, G⟩
theorem run_arrA {o : Oper} {A : Act} (x : Operand) (ho : o.op = .slice 23 x none none none) (a : Addr) (hx : A.eval x = .pointer (some a)) (w : World) : (execOp A.eval o).run Try.prog w = .ok (.value (.slice (some a) 16 16)) w := by
  have h : (Instr.sliceAt 23 (.pointer (some a)) none none none).run Try.prog w = .ok (.slice (some a) 16 16) w := by kernel_rfl
  unfold execOp
  simp only [ho, hx, Option.map_none, Sem.run_bind, h, Result.andThen_ok, Sem.run_pure]
theorem nc_el {w : World} {ad : Addr} {cap n : Nat} {ids : List (List Nat)} (h : XC w 16 (some ad) cap n (cellsI ids)) (hok : ok16 ids) (j : Nat) (hj : j < ids.length) : NC w .u8 (some (ad.add (j * 16))) 16 (ids.getD j []) := by
  have h1 := cellsI_at ids j hok hj
  have h2 := hok _ (getD_mem ids [] j hj)
  refine ⟨by omega, fun h => by (cases h), fun a' ha r hr => ?_, fun x hx => by have := h2.2 x hx; show (x : Int) ≤ 255; omega⟩
  cases ha
  rw [add_add]
  refine h.cell ad rfl (j * 16 + r) _ ?_
  have h3 : (((cellsI ids).drop (j * 16)).take 16)[r]? = (cellsI ids)[j * 16 + r]? := by
    rw [List.getElem?_take, if_pos (by omega), List.getElem?_drop]
  rw [← h3, h1]
  generalize ids.getD j [] = X at hr
  rw [bL, List.getElem?_map, List.getD_eq_getElem?_getD, List.getElem?_eq_getElem hr]
  rfl
def accT (L0 : List Nat) (l : List Int) : Nat → List Nat
  | 0 => L0
  | j + 1 => accT L0 l j ++ nI (l.getD j 0)
def accI (L0 : List Nat) (l : List (List Nat)) : Nat → List Nat
  | 0 => L0
  | j + 1 => accI L0 l j ++ l.getD j []
theorem accT_take (L0 : List Nat) (l : List Int) : ∀ j, j ≤ l.length → accT L0 l j = L0 ++ (l.take j).flatMap nI
  | 0, _ => by simp [accT]
  | j + 1, h => by
    have e : l.take (j + 1) = l.take j ++ [l.getD j 0] := by
      rw [List.take_add_one, List.getD_eq_getElem?_getD, List.getElem?_eq_getElem (show j < l.length by omega)]
      rfl
    rw [accT, accT_take L0 l j (by omega), e]
    simp
theorem accT_eq (L0 : List Nat) (l : List Int) : accT L0 l l.length = L0 ++ l.flatMap nI := by
  rw [accT_take L0 l _ (Nat.le_refl _), List.take_length]
theorem accI_take (L0 : List Nat) (l : List (List Nat)) : ∀ j, j ≤ l.length → accI L0 l j = L0 ++ (l.take j).flatten
  | 0, _ => by simp [accI]
  | j + 1, h => by
    have e : l.take (j + 1) = l.take j ++ [l.getD j []] := by
      rw [List.take_add_one, List.getD_eq_getElem?_getD, List.getElem?_eq_getElem (show j < l.length by omega)]
      rfl
    rw [accI, accI_take L0 l j (by omega), e]
    simp
theorem accI_eq (L0 : List Nat) (l : List (List Nat)) : accI L0 l l.length = L0 ++ l.flatten := by
  rw [accI_take L0 l _ (Nat.le_refl _), List.take_length]
theorem okF_at (f : Fr) (d : FD) (F : List Nat) : ∀ n, okF f d F n = true → ∀ i, i < n → okc f d (F.getD i 0) = true
  | 0, _, i, h => absurd h (by omega)
  | n + 1, hn, i, h => by
    rw [okF, Bool.and_eq_true] at hn
    by_cases e : i = n
    · rw [e]; exact hn.2
    · exact okF_at f d F n hn.1 i (by omega)
theorem nc_11 {w : World} {g : Nat} (hg : w.heap[g]? = some (.cells #[.int .u8 1, .int .u8 1] 5 (0, 0))) : NC w .u8 (some ⟨g, 0, none⟩) 2 [1, 1] := by
  refine nc_part hg [1, 1] 2 (Nat.le_refl _) (fun i hi => ?_) (by intro x hx; simp at hx; omega)
  match i, hi with
  | 0, _ => rfl
  | 1, _ => rfl
def l11 : List Nat := [1, 1]
def l00 : List Nat := [0]
theorem flagL_t : flagL true = l11 := by decide
theorem flagL_f : flagL false = l00 := by decide
structure PE (w : World) (g1 B M : Nat) (f : Fr) (x : World) : Prop where
  gg : Gro w x
  k1 : x.heap[g1]? = some (.cells (c36 f.kind f.pw f.pn f.toA f.a f.b f.n f.fi f.fn f.ti f.tn f.tr f.ids f.key f.vn f.vw f.val f.op f.ttl f.tx) 36 (0, 0))
  bs : B ≤ x.heap.size
  ms : M ≤ x.heap.size
theorem PE.gro {w x y : World} {g1 B M : Nat} {f : Fr} (h : PE w g1 B M f x) (G : Gro x y) : PE w g1 B M f y := ⟨h.gg.trans G, G.has h.k1, Nat.le_trans h.bs G.size, Nat.le_trans h.ms G.size⟩
end Go.Proofs.Ythmcnlmphikicaa
