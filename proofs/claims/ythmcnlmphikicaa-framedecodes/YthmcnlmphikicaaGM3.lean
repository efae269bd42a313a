/- What the document's Decode reads, letter by letter. -/
import Derived.Test.YthmcnlmphikicaaGM2
import Derived.Test.YthmcnlmphikicaaGG4
import Derived.Test.YthmcnlmphikicaaGL1
namespace Go.Proofs.Ythmcnlmphikicaa
open Go.RowKit
theorem tR_ok {α β : Type} (x : α) (q : Nat) (f : α → Nat → Except Nat (β × Nat)) : thenR (.ok (x, q)) f = f x q := rfl
theorem tR_err {α β : Type} (e : Nat) (f : α → Nat → Except Nat (β × Nat)) : thenR (.error e) f = .error e := rfl
theorem tR_as {α β γ : Type} (r : Except Nat (α × Nat)) (f : α → Nat → Except Nat (β × Nat)) (g : β → Nat → Except Nat (γ × Nat)) : thenR (thenR r f) g = thenR r fun x q => thenR (f x q) g := by
  cases r with
  | error e => rfl
  | ok p => rfl
abbrev Dm (α : Type) := Nat → Nat → α × Nat × Nat
def bD {α β : Type} (m : Dm α) (f : α → Dm β) : Dm β := fun a e => f (m a e).1 (m a e).2.1 (m a e).2.2
def pD {α : Type} (x : α) : Dm α := fun a e => (x, a, e)
structure RelD {α : Type} (m : Dm α) (r : Nat → Except Nat (α × Nat)) : Prop where
  keep : ∀ a e, e ≠ 0 → (m a e).2.2 = e
  ok : ∀ a x q, r a = .ok (x, q) → m a 0 = (x, q, 0)
  err : ∀ a x, r a = .error x → x ≠ 0 ∧ (m a 0).2.2 = x
theorem RelD.bind {α β : Type} {m : Dm α} {r : Nat → Except Nat (α × Nat)} {f : α → Dm β} {g : α → Nat → Except Nat (β × Nat)} (h : RelD m r) (hf : ∀ x, RelD (f x) (g x)) : RelD (bD m f) (fun i => thenR (r i) g) := by
  refine ⟨fun a e he => ?_, fun a x q hr => ?_, fun a x hr => ?_⟩
  · unfold bD
    have h1 := h.keep a e he
    rw [h1]
    exact (hf _).keep _ _ he
  · cases h1 : r a with
    | error y => rw [h1, tR_err] at hr; cases hr
    | ok p =>
      obtain ⟨y, q1⟩ := p
      rw [h1, tR_ok] at hr
      unfold bD
      rw [h.ok a y q1 h1]
      exact (hf y).ok q1 x q hr
  · cases h1 : r a with
    | error y =>
      rw [h1, tR_err] at hr
      cases hr
      obtain ⟨h2, h3⟩ := h.err a _ h1
      refine ⟨h2, ?_⟩
      unfold bD
      rw [h3]
      exact (hf _).keep _ _ h2
    | ok p =>
      obtain ⟨y, q1⟩ := p
      rw [h1, tR_ok] at hr
      unfold bD
      rw [h.ok a y q1 h1]
      exact (hf y).err q1 x hr
theorem RelD.pure {α : Type} (x : α) : RelD (pD x) (fun i => .ok (x, i)) := ⟨fun _ _ _ => rfl, fun a y q h => by cases h; rfl, fun a y h => by cases h⟩
theorem RelD.base {α : Type} {rd : Nat → Except Nat (α × Nat)} (z : α) (h : ∀ a x, rd a = .error x → x ≠ 0) : RelD (dR rd z) rd :=
  ⟨fun a e he => by rw [dR_skip he], fun a x q hr => dR_ok hr, fun a x hr => ⟨h a x hr, by rw [dR_err hr]⟩⟩
theorem rdN_nz (l : List Nat) (a x : Nat) (h : rdN l a = .error x) : x ≠ 0 := by
  unfold rdN at h
  obtain ⟨⟨y, q, e⟩, hg⟩ : ∃ r, getE l (a : Int) = r := ⟨_, rfl⟩
  rw [hg] at h
  cases e with
  | succ n => simp only [Except.error.injEq] at h; omega
  | zero =>
    simp only at h
    split at h
    · simp only [Except.error.injEq] at h; omega
    · cases h
theorem rdX_nz (lo hi er : Nat) (l : List Nat) (he : er ≠ 0) (a x : Nat) (h : rdX lo hi er l a = .error x) : x ≠ 0 := by
  unfold rdX at h
  cases h1 : rdN l a with
  | error y => rw [h1, tR_err] at h; cases h; exact rdN_nz l a _ h1
  | ok p =>
    obtain ⟨y, q⟩ := p
    rw [h1, tR_ok] at h
    split at h
    · cases h; exact he
    · cases h
theorem rdI_nz (l : List Nat) (a x : Nat) (h : rdI l a = .error x) : x ≠ 0 := by
  unfold rdI at h
  obtain ⟨⟨y, q, e⟩, hg⟩ : ∃ r, getI l (a : Int) = r := ⟨_, rfl⟩
  rw [hg] at h
  cases e with
  | succ n => simp only [Except.error.injEq] at h; omega
  | zero => cases h
theorem rdT_nz (l : List Nat) (m a x : Nat) (h : rdT l a m = .error x) : x ≠ 0 := by
  unfold rdT at h
  obtain ⟨⟨y, q, e⟩, hg⟩ : ∃ r, getT l (a : Int) (m : Int) = r := ⟨_, rfl⟩
  rw [hg] at h
  cases e with
  | succ n => simp only [Except.error.injEq] at h; omega
  | zero => cases h
def itD {α : Type} (m : Dm α) : Nat → Dm (List α)
  | 0 => pD []
  | n + 1 => bD (itD m n) fun l => bD m fun x => pD (l ++ [x])
theorem rdRep_snoc {α : Type} (rd : Nat → Except Nat (α × Nat)) : ∀ n i, rdRep rd (n + 1) i = thenR (rdRep rd n i) fun l q => thenR (rd q) fun x q => .ok (l ++ [x], q)
  | 0, i => by
    simp only [rdRep, tR_ok, List.nil_append]
  | n + 1, i => by
    show thenR (rd i) (fun a q => thenR (rdRep rd (n + 1) q) fun l q => .ok (a :: l, q)) = thenR (thenR (rd i) fun a q => thenR (rdRep rd n q) fun l q => .ok (a :: l, q)) _
    simp only [rdRep_snoc rd n, tR_as, tR_ok, List.cons_append]
theorem RelD.it {α : Type} {m : Dm α} {rd : Nat → Except Nat (α × Nat)} (h : RelD m rd) : ∀ n, RelD (itD m n) (rdRep rd n)
  | 0 => RelD.pure []
  | n + 1 => by
    have e : rdRep rd (n + 1) = fun i => thenR (rdRep rd n i) fun l q => thenR (rd q) fun x q => .ok (l ++ [x], q) := funext fun i => rdRep_snoc rd n i
    rw [e]
    exact (RelD.it h n).bind fun l => h.bind fun x => RelD.pure (l ++ [x])
theorem rdP5_X (l : List Nat) : rdP5 l = fun i => thenR (rdX 0 5 2 l i) fun x q => .ok (((x : Nat) : Int), q) := by
  funext i
  unfold rdP5 rdX rdW
  simp only [tR_as]
  congr
  funext x q
  by_cases h : (5 : Nat) < x
  · have h1 : decide (((x : Nat) : Int) < ((0 : Nat) : Int)) = false := decide_eq_false (by omega)
    have h2 : decide (((5 : Nat) : Int) < ((x : Nat) : Int)) = true := decide_eq_true (by omega)
    have h3 : x < 0 ∨ 5 < x := .inr h
    simp only [h1, h2, if_pos h3, cond_true, cond_false]
  · have h1 : decide (((x : Nat) : Int) < ((0 : Nat) : Int)) = false := decide_eq_false (by omega)
    have h2 : decide (((5 : Nat) : Int) < ((x : Nat) : Int)) = false := decide_eq_false (by omega)
    have h3 : ¬ (x < 0 ∨ 5 < x) := by omega
    simp only [h1, h2, if_neg h3, cond_false]
theorem rdW_X (l : List Nat) (i lo hi : Nat) : rdW l i lo hi = rdX lo hi 2 l i := by
  unfold rdX rdW
  congr
  funext x q
  by_cases h1 : x < lo
  · have g1 : decide (((x : Nat) : Int) < ((lo : Nat) : Int)) = true := decide_eq_true (by omega)
    have g3 : x < lo ∨ hi < x := .inl h1
    simp only [g1, if_pos g3, cond_true]
  · have g1 : decide (((x : Nat) : Int) < ((lo : Nat) : Int)) = false := decide_eq_false (by omega)
    by_cases h2 : hi < x
    · have g2 : decide (((hi : Nat) : Int) < ((x : Nat) : Int)) = true := decide_eq_true (by omega)
      have g3 : x < lo ∨ hi < x := .inr h2
      simp only [g1, g2, if_pos g3, cond_true, cond_false]
    · have g2 : decide (((hi : Nat) : Int) < ((x : Nat) : Int)) = false := decide_eq_false (by omega)
      have g3 : ¬ (x < lo ∨ hi < x) := by omega
      simp only [g1, g2, if_neg g3, cond_false]
theorem rdC_X (l : List Nat) (i m : Nat) : rdC l i m = rdX 0 m 4 l i := by
  unfold rdX rdC
  congr
  funext x q
  by_cases h2 : m < x
  · have g2 : decide (((m : Nat) : Int) < ((x : Nat) : Int)) = true := decide_eq_true (by omega)
    have g3 : x < 0 ∨ m < x := .inr h2
    simp only [g2, if_pos g3, cond_true]
  · have g2 : decide (((m : Nat) : Int) < ((x : Nat) : Int)) = false := decide_eq_false (by omega)
    have g3 : ¬ (x < 0 ∨ m < x) := by omega
    simp only [g2, if_neg g3, cond_false]
def hopD (l : List Nat) : Dm Int := bD (dR (rdX 0 5 2 l) 0) fun x => pD ((x : Nat) : Int)
theorem hopD_rel (l : List Nat) : RelD (hopD l) (rdP5 l) := by
  rw [rdP5_X]
  exact (RelD.base 0 (rdX_nz 0 5 2 l (by decide))).bind fun x => RelD.pure ((x : Nat) : Int)
def ltD102 (l : List Nat) (s : Fr × FD) : Dm (Fr × FD) := bD (dR (rdN l) 0) fun x0 => bD (dR (rdN l) 0) fun x1 => pD ({ s.1 with fi := ((x0 : Nat) : Int), fn := ((x1 : Nat) : Int) }, s.2)
def ltE102 (l : List Nat) (s : Fr × FD) (i : Nat) : Except Nat ((Fr × FD) × Nat) := thenR (rdN l i) fun x0 q => thenR (rdN l q) fun x1 q => .ok (({ s.1 with fi := ((x0 : Nat) : Int), fn := ((x1 : Nat) : Int) }, s.2), q)
theorem ltR102 (l : List Nat) (s : Fr × FD) : RelD (ltD102 l s) (ltE102 l s) := (RelD.base 0 (rdN_nz l)).bind fun _ => (RelD.base 0 (rdN_nz l)).bind fun _ => RelD.pure _
def ltD116 (l : List Nat) (s : Fr × FD) : Dm (Fr × FD) := bD (dR (rdN l) 0) fun x0 => bD (dR (rdN l) 0) fun x1 => pD ({ s.1 with ti := ((x0 : Nat) : Int), tn := ((x1 : Nat) : Int) }, s.2)
def ltE116 (l : List Nat) (s : Fr × FD) (i : Nat) : Except Nat ((Fr × FD) × Nat) := thenR (rdN l i) fun x0 q => thenR (rdN l q) fun x1 q => .ok (({ s.1 with ti := ((x0 : Nat) : Int), tn := ((x1 : Nat) : Int) }, s.2), q)
theorem ltR116 (l : List Nat) (s : Fr × FD) : RelD (ltD116 l s) (ltE116 l s) := (RelD.base 0 (rdN_nz l)).bind fun _ => (RelD.base 0 (rdN_nz l)).bind fun _ => RelD.pure _
def ltD110 (l : List Nat) (s : Fr × FD) : Dm (Fr × FD) := bD (dR (rdN l) 0) fun x0 => pD ({ s.1 with n := ((x0 : Nat) : Int) }, s.2)
def ltE110 (l : List Nat) (s : Fr × FD) (i : Nat) : Except Nat ((Fr × FD) × Nat) := thenR (rdN l i) fun x0 q => .ok (({ s.1 with n := ((x0 : Nat) : Int) }, s.2), q)
theorem ltR110 (l : List Nat) (s : Fr × FD) : RelD (ltD110 l s) (ltE110 l s) := (RelD.base 0 (rdN_nz l)).bind fun _ => RelD.pure _
def ltD112 (l : List Nat) (s : Fr × FD) : Dm (Fr × FD) := bD (dR (rdI l) z16) fun x0 => bD (dR (rdN l) 0) fun x1 => pD ({ s.1 with pw := idF x0, pn := ((x1 : Nat) : Int) }, s.2)
def ltE112 (l : List Nat) (s : Fr × FD) (i : Nat) : Except Nat ((Fr × FD) × Nat) := thenR (rdI l i) fun x0 q => thenR (rdN l q) fun x1 q => .ok (({ s.1 with pw := idF x0, pn := ((x1 : Nat) : Int) }, s.2), q)
theorem ltR112 (l : List Nat) (s : Fr × FD) : RelD (ltD112 l s) (ltE112 l s) := (RelD.base z16 (rdI_nz l)).bind fun _ => (RelD.base 0 (rdN_nz l)).bind fun _ => RelD.pure _
def ltD97 (l : List Nat) (s : Fr × FD) : Dm (Fr × FD) := bD (dR (rdI l) z16) fun x0 => pD ({ s.1 with a := idF x0 }, s.2)
def ltE97 (l : List Nat) (s : Fr × FD) (i : Nat) : Except Nat ((Fr × FD) × Nat) := thenR (rdI l i) fun x0 q => .ok (({ s.1 with a := idF x0 }, s.2), q)
theorem ltR97 (l : List Nat) (s : Fr × FD) : RelD (ltD97 l s) (ltE97 l s) := (RelD.base z16 (rdI_nz l)).bind fun _ => RelD.pure _
def ltD98 (l : List Nat) (s : Fr × FD) : Dm (Fr × FD) := bD (dR (rdI l) z16) fun x0 => pD ({ s.1 with b := idF x0 }, s.2)
def ltE98 (l : List Nat) (s : Fr × FD) (i : Nat) : Except Nat ((Fr × FD) × Nat) := thenR (rdI l i) fun x0 q => .ok (({ s.1 with b := idF x0 }, s.2), q)
theorem ltR98 (l : List Nat) (s : Fr × FD) : RelD (ltD98 l s) (ltE98 l s) := (RelD.base z16 (rdI_nz l)).bind fun _ => RelD.pure _
def ltD100 (l : List Nat) (s : Fr × FD) : Dm (Fr × FD) := bD (dR (rdX 0 1 2 l) 0) fun x0 => pD ({ s.1 with toA := decide (((x0 : Nat) : Int) = 1) }, s.2)
def ltE100 (l : List Nat) (s : Fr × FD) (i : Nat) : Except Nat ((Fr × FD) × Nat) := thenR (rdX 0 1 2 l i) fun x0 q => .ok (({ s.1 with toA := decide (((x0 : Nat) : Int) = 1) }, s.2), q)
theorem ltR100 (l : List Nat) (s : Fr × FD) : RelD (ltD100 l s) (ltE100 l s) := (RelD.base 0 (rdX_nz 0 1 2 l (by decide))).bind fun _ => RelD.pure _
def ltD114 (l : List Nat) (s : Fr × FD) : Dm (Fr × FD) := bD (dR (rdX 0 64 4 l) 0) fun n => bD (itD (hopD l) n) fun x0 => pD (s.1, { s.2 with tr := s.2.tr ++ x0 })
def ltE114 (l : List Nat) (s : Fr × FD) (i : Nat) : Except Nat ((Fr × FD) × Nat) := thenR (rdX 0 64 4 l i) fun n q => thenR (rdRep (rdP5 l) n q) fun x0 q => .ok ((s.1, { s.2 with tr := s.2.tr ++ x0 }), q)
theorem ltR114 (l : List Nat) (s : Fr × FD) : RelD (ltD114 l s) (ltE114 l s) := (RelD.base 0 (rdX_nz 0 64 4 l (by decide))).bind fun _ => (RelD.it (hopD_rel l) _).bind fun _ => RelD.pure _
def ltD115 (l : List Nat) (s : Fr × FD) : Dm (Fr × FD) := bD (dR (rdX 0 16 4 l) 0) fun n => bD (itD (dR (rdI l) z16) n) fun x0 => pD (s.1, { s.2 with ids := s.2.ids ++ x0 })
def ltE115 (l : List Nat) (s : Fr × FD) (i : Nat) : Except Nat ((Fr × FD) × Nat) := thenR (rdX 0 16 4 l i) fun n q => thenR (rdRep (rdI l) n q) fun x0 q => .ok ((s.1, { s.2 with ids := s.2.ids ++ x0 }), q)
theorem ltR115 (l : List Nat) (s : Fr × FD) : RelD (ltD115 l s) (ltE115 l s) := (RelD.base 0 (rdX_nz 0 16 4 l (by decide))).bind fun _ => (RelD.it (RelD.base z16 (rdI_nz l)) _).bind fun _ => RelD.pure _
def ltD105 (l : List Nat) (s : Fr × FD) : Dm (Fr × FD) := bD (dR (rdI l) z16) fun x0 => bD (dR (rdN l) 0) fun x1 => bD (dR (rdI l) z16) fun x2 => bD (dR (fun i => rdT l i 64) []) fun x3 => pD ({ s.1 with key := idF x0, vn := ((x1 : Nat) : Int), vw := idF x2 }, { s.2 with val := x3 })
def ltE105 (l : List Nat) (s : Fr × FD) (i : Nat) : Except Nat ((Fr × FD) × Nat) := thenR (rdI l i) fun x0 q => thenR (rdN l q) fun x1 q => thenR (rdI l q) fun x2 q => thenR ((fun i => rdT l i 64) q) fun x3 q => .ok (({ s.1 with key := idF x0, vn := ((x1 : Nat) : Int), vw := idF x2 }, { s.2 with val := x3 }), q)
theorem ltR105 (l : List Nat) (s : Fr × FD) : RelD (ltD105 l s) (ltE105 l s) := (RelD.base z16 (rdI_nz l)).bind fun _ => (RelD.base 0 (rdN_nz l)).bind fun _ => (RelD.base z16 (rdI_nz l)).bind fun _ => (RelD.base [] (rdT_nz l 64)).bind fun _ => RelD.pure _
def ltD107 (l : List Nat) (s : Fr × FD) : Dm (Fr × FD) := bD (dR (rdI l) z16) fun x0 => bD (dR (rdN l) 0) fun x1 => bD (dR (rdI l) z16) fun x2 => pD ({ s.1 with key := idF x0, vn := ((x1 : Nat) : Int), vw := idF x2 }, s.2)
def ltE107 (l : List Nat) (s : Fr × FD) (i : Nat) : Except Nat ((Fr × FD) × Nat) := thenR (rdI l i) fun x0 q => thenR (rdN l q) fun x1 q => thenR (rdI l q) fun x2 q => .ok (({ s.1 with key := idF x0, vn := ((x1 : Nat) : Int), vw := idF x2 }, s.2), q)
theorem ltR107 (l : List Nat) (s : Fr × FD) : RelD (ltD107 l s) (ltE107 l s) := (RelD.base z16 (rdI_nz l)).bind fun _ => (RelD.base 0 (rdN_nz l)).bind fun _ => (RelD.base z16 (rdI_nz l)).bind fun _ => RelD.pure _
def ltD108 (l : List Nat) (s : Fr × FD) : Dm (Fr × FD) := bD (dR (rdX 0 3 2 l) 0) fun x0 => pD ({ s.1 with op := ((x0 : Nat) : Int) }, s.2)
def ltE108 (l : List Nat) (s : Fr × FD) (i : Nat) : Except Nat ((Fr × FD) × Nat) := thenR (rdX 0 3 2 l i) fun x0 q => .ok (({ s.1 with op := ((x0 : Nat) : Int) }, s.2), q)
theorem ltR108 (l : List Nat) (s : Fr × FD) : RelD (ltD108 l s) (ltE108 l s) := (RelD.base 0 (rdX_nz 0 3 2 l (by decide))).bind fun _ => RelD.pure _
def ltD111 (l : List Nat) (s : Fr × FD) : Dm (Fr × FD) := bD (dR (rdX 1 4 2 l) 0) fun x0 => pD ({ s.1 with op := ((x0 : Nat) : Int) }, s.2)
def ltE111 (l : List Nat) (s : Fr × FD) (i : Nat) : Except Nat ((Fr × FD) × Nat) := thenR (rdX 1 4 2 l i) fun x0 q => .ok (({ s.1 with op := ((x0 : Nat) : Int) }, s.2), q)
theorem ltR111 (l : List Nat) (s : Fr × FD) : RelD (ltD111 l s) (ltE111 l s) := (RelD.base 0 (rdX_nz 1 4 2 l (by decide))).bind fun _ => RelD.pure _
def ltD119 (l : List Nat) (s : Fr × FD) : Dm (Fr × FD) := bD (dR (rdX 0 64 2 l) 0) fun x0 => pD ({ s.1 with ttl := ((x0 : Nat) : Int) }, s.2)
def ltE119 (l : List Nat) (s : Fr × FD) (i : Nat) : Except Nat ((Fr × FD) × Nat) := thenR (rdX 0 64 2 l i) fun x0 q => .ok (({ s.1 with ttl := ((x0 : Nat) : Int) }, s.2), q)
theorem ltR119 (l : List Nat) (s : Fr × FD) : RelD (ltD119 l s) (ltE119 l s) := (RelD.base 0 (rdX_nz 0 64 2 l (by decide))).bind fun _ => RelD.pure _
def ltD120 (l : List Nat) (s : Fr × FD) : Dm (Fr × FD) := bD (dR (fun i => rdT l i 4096) []) fun x0 => pD (s.1, { s.2 with tx := x0 })
def ltE120 (l : List Nat) (s : Fr × FD) (i : Nat) : Except Nat ((Fr × FD) × Nat) := thenR ((fun i => rdT l i 4096) i) fun x0 q => .ok ((s.1, { s.2 with tx := x0 }), q)
theorem ltR120 (l : List Nat) (s : Fr × FD) : RelD (ltD120 l s) (ltE120 l s) := (RelD.base [] (rdT_nz l 4096)).bind fun _ => RelD.pure _
def ltD121 (l : List Nat) (s : Fr × FD) : Dm (Fr × FD) := bD (dR (fun i => rdT l i 64) []) fun x0 => pD (s.1, { s.2 with tx := x0 })
def ltE121 (l : List Nat) (s : Fr × FD) (i : Nat) : Except Nat ((Fr × FD) × Nat) := thenR ((fun i => rdT l i 64) i) fun x0 q => .ok ((s.1, { s.2 with tx := x0 }), q)
theorem ltR121 (l : List Nat) (s : Fr × FD) : RelD (ltD121 l s) (ltE121 l s) := (RelD.base [] (rdT_nz l 64)).bind fun _ => RelD.pure _
def stD (l : List Nat) (c : Nat) (s : Fr × FD) : Dm (Fr × FD) := if c = 102 then ltD102 l s else if c = 116 then ltD116 l s else if c = 110 then ltD110 l s else if c = 112 then ltD112 l s else if c = 97 then ltD97 l s else if c = 98 then ltD98 l s else if c = 100 then ltD100 l s else if c = 114 then ltD114 l s else if c = 115 then ltD115 l s else if c = 105 then ltD105 l s else if c = 107 then ltD107 l s else if c = 108 then ltD108 l s else if c = 111 then ltD111 l s else if c = 119 then ltD119 l s else if c = 120 then ltD120 l s else if c = 121 then ltD121 l s else pD s
def stE (l : List Nat) (c : Nat) (s : Fr × FD) : Nat → Except Nat ((Fr × FD) × Nat) := if c = 102 then ltE102 l s else if c = 116 then ltE116 l s else if c = 110 then ltE110 l s else if c = 112 then ltE112 l s else if c = 97 then ltE97 l s else if c = 98 then ltE98 l s else if c = 100 then ltE100 l s else if c = 114 then ltE114 l s else if c = 115 then ltE115 l s else if c = 105 then ltE105 l s else if c = 107 then ltE107 l s else if c = 108 then ltE108 l s else if c = 111 then ltE111 l s else if c = 119 then ltE119 l s else if c = 120 then ltE120 l s else if c = 121 then ltE121 l s else fun i => .ok (s, i)
theorem stR (l : List Nat) (c : Nat) (s : Fr × FD) : RelD (stD l c s) (stE l c s) := by
  unfold stD stE
  by_cases h102 : c = 102
  · simp only [if_pos h102]; exact ltR102 l s
  simp only [if_neg h102]
  by_cases h116 : c = 116
  · simp only [if_pos h116]; exact ltR116 l s
  simp only [if_neg h116]
  by_cases h110 : c = 110
  · simp only [if_pos h110]; exact ltR110 l s
  simp only [if_neg h110]
  by_cases h112 : c = 112
  · simp only [if_pos h112]; exact ltR112 l s
  simp only [if_neg h112]
  by_cases h97 : c = 97
  · simp only [if_pos h97]; exact ltR97 l s
  simp only [if_neg h97]
  by_cases h98 : c = 98
  · simp only [if_pos h98]; exact ltR98 l s
  simp only [if_neg h98]
  by_cases h100 : c = 100
  · simp only [if_pos h100]; exact ltR100 l s
  simp only [if_neg h100]
  by_cases h114 : c = 114
  · simp only [if_pos h114]; exact ltR114 l s
  simp only [if_neg h114]
  by_cases h115 : c = 115
  · simp only [if_pos h115]; exact ltR115 l s
  simp only [if_neg h115]
  by_cases h105 : c = 105
  · simp only [if_pos h105]; exact ltR105 l s
  simp only [if_neg h105]
  by_cases h107 : c = 107
  · simp only [if_pos h107]; exact ltR107 l s
  simp only [if_neg h107]
  by_cases h108 : c = 108
  · simp only [if_pos h108]; exact ltR108 l s
  simp only [if_neg h108]
  by_cases h111 : c = 111
  · simp only [if_pos h111]; exact ltR111 l s
  simp only [if_neg h111]
  by_cases h119 : c = 119
  · simp only [if_pos h119]; exact ltR119 l s
  simp only [if_neg h119]
  by_cases h120 : c = 120
  · simp only [if_pos h120]; exact ltR120 l s
  simp only [if_neg h120]
  by_cases h121 : c = 121
  · simp only [if_pos h121]; exact ltR121 l s
  simp only [if_neg h121]
  exact RelD.pure s
def stN (l F : List Nat) (s : Fr × FD) : Nat → Dm (Fr × FD)
  | 0 => pD s
  | i + 1 => bD (stN l F s i) fun s => stD l (F.getD i 0) s
def eN (l F : List Nat) (s : Fr × FD) : Nat → Nat → Except Nat ((Fr × FD) × Nat)
  | 0, i => .ok (s, i)
  | n + 1, i => thenR (eN l F s n i) fun s => stE l (F.getD n 0) s
theorem stN_rel (l F : List Nat) (s : Fr × FD) : ∀ n, RelD (stN l F s n) (eN l F s n)
  | 0 => RelD.pure s
  | n + 1 => (stN_rel l F s n).bind fun s => stR l (F.getD n 0) s
def zs : Fr × FD := (Fr.zero, ⟨[], [], [], []⟩)
def formD (k : Int) : List Nat := if formL k = [63] then [] else formL k
theorem eN_1 (l : List Nat) (i : Nat) : rdB1 l i = thenR (eN l (formD 1) zs (formD 1).length i) fun s q => .ok ((1, s.1, s.2), q) := by
  have e : formD 1 = [102, 116, 97] := by decide
  rw [e]
  simp only [List.length_cons, List.length_nil, Nat.zero_add, Nat.reduceAdd, eN, stE, List.getD_cons_zero, List.getD_cons_succ, Nat.reduceEqDiff, if_true, if_false, tR_ok, tR_as, ltE97, ltE102, ltE116, rdB1, rdS, zs, Fr.zero]
theorem eN_2 (l : List Nat) (i : Nat) : rdB2 l i = thenR (eN l (formD 2) zs (formD 2).length i) fun s q => .ok ((2, s.1, s.2), q) := by
  have e : formD 2 = [102, 116, 110, 120] := by decide
  rw [e]
  simp only [List.length_cons, List.length_nil, Nat.zero_add, Nat.reduceAdd, eN, stE, List.getD_cons_zero, List.getD_cons_succ, Nat.reduceEqDiff, if_true, if_false, tR_ok, tR_as, ltE102, ltE110, ltE116, ltE120, rdB2, rdS, zs, Fr.zero]
theorem eN_3 (l : List Nat) (i : Nat) : rdB3 l i = thenR (eN l (formD 3) zs (formD 3).length i) fun s q => .ok ((3, s.1, s.2), q) := by
  have e : formD 3 = [102, 116, 110] := by decide
  rw [e]
  simp only [List.length_cons, List.length_nil, Nat.zero_add, Nat.reduceAdd, eN, stE, List.getD_cons_zero, List.getD_cons_succ, Nat.reduceEqDiff, if_true, if_false, tR_ok, tR_as, ltE102, ltE110, ltE116, rdB3, rdS, zs, Fr.zero]
theorem eN_4 (l : List Nat) (i : Nat) : rdB4 l i = thenR (eN l (formD 4) zs (formD 4).length i) fun s q => .ok ((4, s.1, s.2), q) := by
  have e : formD 4 = [112, 97, 98, 114] := by decide
  rw [e]
  simp only [List.length_cons, List.length_nil, Nat.zero_add, Nat.reduceAdd, eN, stE, List.getD_cons_zero, List.getD_cons_succ, Nat.reduceEqDiff, if_true, if_false, tR_ok, tR_as, ltE97, ltE98, ltE112, ltE114, rdB4, rdPa, rdTr, rdC_X, zs, Fr.zero, List.nil_append]
theorem eN_5 (l : List Nat) (i : Nat) : rdB5 l i = thenR (eN l (formD 5) zs (formD 5).length i) fun s q => .ok ((5, s.1, s.2), q) := by
  have e : formD 5 = [112] := by decide
  rw [e]
  simp only [List.length_cons, List.length_nil, Nat.zero_add, eN, stE, List.getD_cons_zero, Nat.reduceEqDiff, if_true, if_false, tR_ok, tR_as, ltE112, rdB5, rdPa, zs, Fr.zero]
theorem eN_6 (l : List Nat) (i : Nat) : rdB6 l i = thenR (eN l (formD 6) zs (formD 6).length i) fun s q => .ok ((6, s.1, s.2), q) := by
  have e : formD 6 = [112, 100] := by decide
  rw [e]
  simp only [List.length_cons, List.length_nil, Nat.zero_add, Nat.reduceAdd, eN, stE, List.getD_cons_zero, List.getD_cons_succ, Nat.reduceEqDiff, if_true, if_false, tR_ok, tR_as, ltE100, ltE112, rdB6, rdPa, rdF, rdW_X, zs, Fr.zero]
theorem eN_7 (l : List Nat) (i : Nat) : rdB7 l i = thenR (eN l (formD 7) zs (formD 7).length i) fun s q => .ok ((7, s.1, s.2), q) := by
  have e : formD 7 = [112, 100, 115] := by decide
  rw [e]
  simp only [List.length_cons, List.length_nil, Nat.zero_add, Nat.reduceAdd, eN, stE, List.getD_cons_zero, List.getD_cons_succ, Nat.reduceEqDiff, if_true, if_false, tR_ok, tR_as, ltE100, ltE112, ltE115, rdB7, rdPa, rdF, rdIs, rdW_X, rdC_X, zs, Fr.zero, List.nil_append]
theorem eN_8 (l : List Nat) (i : Nat) : rdB8 l i = thenR (eN l (formD 8) zs (formD 8).length i) fun s q => .ok ((8, s.1, s.2), q) := by
  have e : formD 8 = [97, 98, 108, 112, 100, 114] := by decide
  rw [e]
  simp only [List.length_cons, List.length_nil, Nat.zero_add, Nat.reduceAdd, eN, stE, List.getD_cons_zero, List.getD_cons_succ, Nat.reduceEqDiff, if_true, if_false, tR_ok, tR_as, ltE97, ltE98, ltE100, ltE108, ltE112, ltE114, rdB8, rdPa, rdF, rdTr, rdW_X, rdC_X, zs, Fr.zero, List.nil_append]
theorem eN_9 (l : List Nat) (i : Nat) : rdB9 l i = thenR (eN l (formD 9) zs (formD 9).length i) fun s q => .ok ((9, s.1, s.2), q) := by
  have e : formD 9 = [97, 110] := by decide
  rw [e]
  simp only [List.length_cons, List.length_nil, Nat.zero_add, Nat.reduceAdd, eN, stE, List.getD_cons_zero, List.getD_cons_succ, Nat.reduceEqDiff, if_true, if_false, tR_ok, tR_as, ltE97, ltE110, rdB9, zs, Fr.zero]
theorem eN_10 (l : List Nat) (i : Nat) : rdB10 l i = thenR (eN l (formD 10) zs (formD 10).length i) fun s q => .ok ((10, s.1, s.2), q) := by
  have e : formD 10 = [97, 98, 110, 111, 119, 105, 121] := by decide
  rw [e]
  simp only [List.length_cons, List.length_nil, Nat.zero_add, Nat.reduceAdd, eN, stE, List.getD_cons_zero, List.getD_cons_succ, Nat.reduceEqDiff, if_true, if_false, tR_ok, tR_as, ltE97, ltE98, ltE105, ltE110, ltE111, ltE119, ltE121, rdB10, rdVe, rdIt, rdW_X, zs, Fr.zero]
theorem eN_11 (l : List Nat) (i : Nat) : rdB11 l i = thenR (eN l (formD 11) zs (formD 11).length i) fun s q => .ok ((11, s.1, s.2), q) := by
  have e : formD 11 = [112, 100, 105] := by decide
  rw [e]
  simp only [List.length_cons, List.length_nil, Nat.zero_add, Nat.reduceAdd, eN, stE, List.getD_cons_zero, List.getD_cons_succ, Nat.reduceEqDiff, if_true, if_false, tR_ok, tR_as, ltE100, ltE105, ltE112, rdB11, rdPa, rdVe, rdIt, rdF, rdW_X, zs, Fr.zero]
theorem eN_12 (l : List Nat) (i : Nat) : rdB12 l i = thenR (eN l (formD 12) zs (formD 12).length i) fun s q => .ok ((12, s.1, s.2), q) := by
  have e : formD 12 = [112, 100, 107] := by decide
  rw [e]
  simp only [List.length_cons, List.length_nil, Nat.zero_add, Nat.reduceAdd, eN, stE, List.getD_cons_zero, List.getD_cons_succ, Nat.reduceEqDiff, if_true, if_false, tR_ok, tR_as, ltE100, ltE107, ltE112, rdB12, rdPa, rdVe, rdF, rdW_X, zs, Fr.zero]
theorem rdB_eN (l : List Nat) (k q : Nat) (h1 : 1 ≤ k) (h2 : k ≤ 12) (hN : rdN l 0 = .ok (k, q)) : rdB l 0 = thenR (eN l (formD k) zs (formD k).length q) fun s q => .ok ((k, s.1, s.2), q) := by
  unfold rdB
  rw [hN, tR_ok]
  rcases is12 h1 h2 with rfl | rfl | rfl | rfl | rfl | rfl | rfl | rfl | rfl | rfl | rfl | rfl
  · exact eN_1 l q
  · exact eN_2 l q
  · exact eN_3 l q
  · exact eN_4 l q
  · exact eN_5 l q
  · exact eN_6 l q
  · exact eN_7 l q
  · exact eN_8 l q
  · exact eN_9 l q
  · exact eN_10 l q
  · exact eN_11 l q
  · exact eN_12 l q
def endE (l : List Nat) (a e : Nat) : Nat := if e = 0 ∧ a < l.length then 4 else e
theorem decD_eq (l : List Nat) (k a e : Nat) (hK : dR (rdX 1 12 2 l) 0 0 0 = (k, a, e)) (s : Fr × FD) (a1 e1 : Nat) (hS : stN l (formD k) zs (formD k).length a e = (s, a1, e1)) :
    (∀ x, decE l = .error x → endE l a1 e1 = x ∧ x ≠ 0) ∧ ∀ r, decE l = .ok r → endE l a1 e1 = 0 ∧ r = (k, s.1, s.2) := by
  have bad : ∀ y, y ≠ 0 → (k, a, e) = (0, 0, y) → rdB l 0 = .error y → (∀ x, decE l = .error x → endE l a1 e1 = x ∧ x ≠ 0) ∧ ∀ r, decE l = .ok r → endE l a1 e1 = 0 ∧ r = (k, s.1, s.2) := fun y hy he hB => by
    cases he
    have hF : formD ((0 : Nat) : Int) = [] := by decide
    rw [hF] at hS
    simp only [List.length_nil, stN, pD, Prod.mk.injEq] at hS
    obtain ⟨rfl, rfl, rfl⟩ := hS
    have hd : decE l = .error e := by unfold decE; rw [hB]
    have hE : endE l 0 e = e := by unfold endE; rw [if_neg (by omega)]
    rw [hd]
    exact ⟨fun x hx => by cases hx; exact ⟨hE, hy⟩, fun r hr => by cases hr⟩
  cases hN : rdN l 0 with
  | error y =>
    have hy := rdN_nz l 0 y hN
    have hr : rdX 1 12 2 l 0 = .error y := by unfold rdX; rw [hN]; rfl
    rw [dR_err hr] at hK
    exact bad y hy hK.symm (by unfold rdB; rw [hN]; rfl)
  | ok p =>
    obtain ⟨x, q⟩ := p
    by_cases hx : x < 1 ∨ 12 < x
    · have hr : rdX 1 12 2 l 0 = .error 2 := by unfold rdX; rw [hN, tR_ok, if_pos hx]
      rw [dR_err hr] at hK
      refine bad 2 (by decide) hK.symm ?_
      unfold rdB
      rw [hN, tR_ok]
      split <;> first | rfl | omega
    · have hr : rdX 1 12 2 l 0 = .ok (x, q) := by unfold rdX; rw [hN, tR_ok, if_neg hx]
      rw [dR_ok hr] at hK
      cases hK
      have hB := rdB_eN l k a (by omega) (by omega) hN
      have hR := stN_rel l (formD k) zs (formD k).length
      cases hE : eN l (formD k) zs (formD k).length a with
      | error y =>
        obtain ⟨h1, h2⟩ := hR.err a y hE
        rw [hS] at h2
        rw [hE, tR_err] at hB
        have hd : decE l = .error y := by unfold decE; rw [hB]
        have h3 : e1 = y := h2
        have hEE : endE l a1 e1 = y := by unfold endE; rw [if_neg (by omega)]; exact h3
        rw [hd]
        exact ⟨fun x hx => by cases hx; exact ⟨hEE, h1⟩, fun r hr => by cases hr⟩
      | ok p =>
        obtain ⟨s2, q2⟩ := p
        have h1 := hR.ok a s2 q2 hE
        rw [hS] at h1
        cases h1
        rw [hE, tR_ok] at hB
        unfold decE endE
        rw [hB]
        by_cases hl : a1 < l.length
        · have g1 : decide (((a1 : Nat) : Int) < ((l.length : Nat) : Int)) = true := decide_eq_true (by omega)
          simp only [g1, cond_true, hl, and_self, if_true]
          exact ⟨fun x hx => by cases hx; exact ⟨rfl, by decide⟩, fun r hr => by cases hr⟩
        · have g1 : decide (((a1 : Nat) : Int) < ((l.length : Nat) : Int)) = false := decide_eq_false (by omega)
          simp only [g1, cond_false, hl, and_false, if_false]
          exact ⟨fun x hx => by (cases hx), fun r hr => by cases hr; exact ⟨trivial, rfl⟩⟩
end Go.Proofs.Ythmcnlmphikicaa
