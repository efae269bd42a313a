/- A frame that was read is laid in the bytes that it was read from; FrameOne. -/
import Derived.Test.YthmcnlmphikicaaH2
import Derived.Test.YthmcnlmphikicaaH3
namespace Go.Proofs.Ythmcnlmphikicaa
open Go.RowKit

theorem decE_ok {l : List Nat} {a : Nat × Fr × FD} (h : decE l = .ok a) : ∃ q, rdB l 0 = .ok (a, q) ∧ l.length ≤ q := by
  unfold decE at h
  cases h1 : rdB l 0 with
  | error e => rw [h1] at h; cases h
  | ok p =>
    obtain ⟨b, q⟩ := p
    rw [h1] at h
    dsimp only at h
    cases c : decide (((q : Nat) : Int) < ((l.length : Nat) : Int)) with
    | true => rw [c] at h; cases h
    | false =>
      rw [c] at h
      cases h
      exact ⟨q, rfl, by simp at c; omega⟩
theorem dec_frameL {l : List Nat} (hl : ∀ y ∈ l, y < 256) {a : Nat × Fr × FD} (h : decE l = .ok a) : 1 ≤ a.1 ∧ a.1 ≤ 12 ∧ ∃ i q, Inv l i a.1 a.2.1 a.2.2 q ∧ l = frameL a.1 a.2.1 a.2.2 := by
  obtain ⟨q, h1, h2⟩ := decE_ok h
  obtain ⟨h3, h4, i, h5, h6⟩ := rdB_inv hl h1
  refine ⟨h3, h4, i, q, h6, ?_⟩
  have h7 := h6.eq
  rw [List.drop_of_length_le h2, List.append_nil] at h7
  rw [h7] at h5
  unfold frameL
  simpa using h5
/-! ### No error is nought -/
structure NZ {β : Type} (r : Except Nat β) : Prop where
  out : ∀ x, r = .error x → x ≠ 0
theorem NZ.ok {β : Type} (b : β) : NZ (.ok b : Except Nat β) := ⟨fun _ h => by cases h⟩
theorem NZ.err {β : Type} {n : Nat} (h : n ≠ 0) : NZ (.error n : Except Nat β) := ⟨fun _ e => by cases e; exact h⟩
theorem NZ.bind {α β : Type} {r : Except Nat (α × Nat)} {f : α → Nat → Except Nat (β × Nat)} (h : NZ r) (hf : ∀ a q, NZ (f a q)) : NZ (thenR r f) := by
  cases r with
  | error e => exact ⟨fun x hx => by cases hx; exact h.out _ rfl⟩
  | ok p => exact hf p.1 p.2
theorem NZ.cond {β : Type} {b : Bool} {x y : Except Nat β} (hx : NZ x) (hy : NZ y) : NZ (bif b then x else y) := by cases b; exact hy; exact hx
theorem nzN (l : List Nat) (i : Nat) : NZ (rdN l i) := by
  unfold rdN
  split
  · split
    · exact .err (by omega)
    · exact .ok _
  · exact .err (by omega)
theorem nzI (l : List Nat) (i : Nat) : NZ (rdI l i) := by unfold rdI; split; exact .ok _; exact .err (by omega)
theorem nzT (l : List Nat) (i m : Nat) : NZ (rdT l i m) := by unfold rdT; split; exact .ok _; exact .err (by omega)
theorem nzS (l : List Nat) (i : Nat) : NZ (rdS l i) := (nzN l i).bind fun _ q => (nzN l q).bind fun _ _ => .ok _
theorem nzPa (l : List Nat) (i : Nat) : NZ (rdPa l i) := (nzI l i).bind fun _ q => (nzN l q).bind fun _ _ => .ok _
theorem nzVe (l : List Nat) (i : Nat) : NZ (rdVe l i) := (nzN l i).bind fun _ q => (nzI l q).bind fun _ _ => .ok _
theorem nzIt (l : List Nat) (i : Nat) : NZ (rdIt l i) := (nzI l i).bind fun _ q => (nzVe l q).bind fun _ q => (nzT l q 64).bind fun _ _ => .ok _
theorem nzW (l : List Nat) (i lo hi : Nat) : NZ (rdW l i lo hi) := (nzN l i).bind fun _ _ => .cond (.err (by omega)) (.cond (.err (by omega)) (.ok _))
theorem nzC (l : List Nat) (i m : Nat) : NZ (rdC l i m) := (nzN l i).bind fun _ _ => .cond (.err (by omega)) (.ok _)
theorem nzF (l : List Nat) (i : Nat) : NZ (rdF l i) := (nzW l i 0 1).bind fun _ _ => .ok _
theorem nzRep {α : Type} {rd : Nat → Except Nat (α × Nat)} (h : ∀ i, NZ (rd i)) : ∀ n i, NZ (rdRep rd n i)
  | 0, _ => .ok _
  | n + 1, i => (h i).bind fun _ q => (nzRep h n q).bind fun _ _ => .ok _
theorem nzTr (l : List Nat) (i : Nat) : NZ (rdTr l i) := (nzC l i 64).bind fun n q => nzRep (fun i => (nzW l i 0 5).bind fun _ _ => .ok _) n q
theorem nzIs (l : List Nat) (i : Nat) : NZ (rdIs l i) := (nzC l i 16).bind fun n q => nzRep (fun i => nzI l i) n q
theorem nzB1 (l : List Nat) (i : Nat) : NZ (rdB1 l i) := NZ.bind (nzS l i) fun _ q => NZ.bind (nzS l q) fun _ q => NZ.bind (nzI l q) fun _ _q => .ok _
theorem nzB2 (l : List Nat) (i : Nat) : NZ (rdB2 l i) := NZ.bind (nzS l i) fun _ q => NZ.bind (nzS l q) fun _ q => NZ.bind (nzN l q) fun _ q => NZ.bind (nzT l q 4096) fun _ _q => .ok _
theorem nzB3 (l : List Nat) (i : Nat) : NZ (rdB3 l i) := NZ.bind (nzS l i) fun _ q => NZ.bind (nzS l q) fun _ q => NZ.bind (nzN l q) fun _ _q => .ok _
theorem nzB4 (l : List Nat) (i : Nat) : NZ (rdB4 l i) := NZ.bind (nzPa l i) fun _ q => NZ.bind (nzI l q) fun _ q => NZ.bind (nzI l q) fun _ q => NZ.bind (nzTr l q) fun _ _q => .ok _
theorem nzB5 (l : List Nat) (i : Nat) : NZ (rdB5 l i) := NZ.bind (nzPa l i) fun _ _q => .ok _
theorem nzB6 (l : List Nat) (i : Nat) : NZ (rdB6 l i) := NZ.bind (nzPa l i) fun _ q => NZ.bind (nzF l q) fun _ _q => .ok _
theorem nzB7 (l : List Nat) (i : Nat) : NZ (rdB7 l i) := NZ.bind (nzPa l i) fun _ q => NZ.bind (nzF l q) fun _ q => NZ.bind (nzIs l q) fun _ _q => .ok _
theorem nzB8 (l : List Nat) (i : Nat) : NZ (rdB8 l i) := NZ.bind (nzI l i) fun _ q => NZ.bind (nzI l q) fun _ q => NZ.bind (nzW l q 0 3) fun _ q => NZ.bind (nzPa l q) fun _ q => NZ.bind (nzF l q) fun _ q => NZ.bind (nzTr l q) fun _ _q => .ok _
theorem nzB9 (l : List Nat) (i : Nat) : NZ (rdB9 l i) := NZ.bind (nzI l i) fun _ q => NZ.bind (nzN l q) fun _ _q => .ok _
theorem nzB10 (l : List Nat) (i : Nat) : NZ (rdB10 l i) := NZ.bind (nzI l i) fun _ q => NZ.bind (nzI l q) fun _ q => NZ.bind (nzN l q) fun _ q => NZ.bind (nzW l q 1 4) fun _ q => NZ.bind (nzW l q 0 64) fun _ q => NZ.bind (nzIt l q) fun _ q => NZ.bind (nzT l q 64) fun _ _q => .ok _
theorem nzB11 (l : List Nat) (i : Nat) : NZ (rdB11 l i) := NZ.bind (nzPa l i) fun _ q => NZ.bind (nzF l q) fun _ q => NZ.bind (nzIt l q) fun _ _q => .ok _
theorem nzB12 (l : List Nat) (i : Nat) : NZ (rdB12 l i) := NZ.bind (nzPa l i) fun _ q => NZ.bind (nzF l q) fun _ q => NZ.bind (nzI l q) fun _ q => NZ.bind (nzVe l q) fun _ _q => .ok _
theorem nzB (l : List Nat) (i : Nat) : NZ (rdB l i) := (nzN l i).bind fun k q => by
  split
  · exact nzB1 l q
  · exact nzB2 l q
  · exact nzB3 l q
  · exact nzB4 l q
  · exact nzB5 l q
  · exact nzB6 l q
  · exact nzB7 l q
  · exact nzB8 l q
  · exact nzB9 l q
  · exact nzB10 l q
  · exact nzB11 l q
  · exact nzB12 l q
  · exact .err (by omega)

theorem nzD {l : List Nat} {x : Nat} (h : decE l = .error x) : x ≠ 0 := by
  unfold decE at h
  cases h1 : rdB l 0 with
  | error e => rw [h1] at h; cases h; exact (nzB l 0).out _ h1
  | ok p =>
    rw [h1] at h
    dsimp only at h
    cases c : decide (((p.2 : Nat) : Int) < ((l.length : Nat) : Int)) with
    | true => rw [c] at h; cases h; omega
    | false => rw [c] at h; cases h
theorem bodyL_len (k : Nat) (h1 : 1 ≤ k) (h2 : k ≤ 12) (f : Fr) (d : FD) (ht : d.tr.length ≤ 64) (hi : d.ids.length ≤ 16) (ho : ok16 d.ids) (hv : d.val.length ≤ 64) (hx : d.tx.length ≤ 4096) : (bodyL k f d).length ≤ 1000000 := by
  rcases is12 h1 h2 with rfl | rfl | rfl | rfl | rfl | rfl | rfl | rfl | rfl | rfl | rfl | rfl
  · have z0 := sessL_len f.fi f.fn
    have z1 := sessL_len f.ti f.tn
    have z2 := idL_len f.a
    simp only [bodyL, List.flatten_cons, List.flatten_nil, List.length_append, List.length_nil]
    omega
  · have z0 := sessL_len f.fi f.fn
    have z1 := sessL_len f.ti f.tn
    have z2 := n1_len f.n
    have z3 := t1_len d.tx
    simp only [bodyL, List.flatten_cons, List.flatten_nil, List.length_append, List.length_nil]
    omega
  · have z0 := sessL_len f.fi f.fn
    have z1 := sessL_len f.ti f.tn
    have z2 := n1_len f.n
    simp only [bodyL, List.flatten_cons, List.flatten_nil, List.length_append, List.length_nil]
    omega
  · have z0 := pathL_len f.pw f.pn
    have z1 := idL_len f.a
    have z2 := idL_len f.b
    have z3 := trailL_len d.tr
    simp only [bodyL, List.flatten_cons, List.flatten_nil, List.length_append, List.length_nil]
    omega
  · have z0 := pathL_len f.pw f.pn
    simp only [bodyL]
    omega
  · have z0 := pathL_len f.pw f.pn
    have z1 := flagL_len f.toA
    simp only [bodyL, List.flatten_cons, List.flatten_nil, List.length_append, List.length_nil]
    omega
  · have z0 := pathL_len f.pw f.pn
    have z1 := flagL_len f.toA
    have z2 := idsL_len d.ids ho
    simp only [bodyL, List.flatten_cons, List.flatten_nil, List.length_append, List.length_nil]
    omega
  · have z0 := idL_len f.a
    have z1 := idL_len f.b
    have z2 := n1_len f.op
    have z3 := pathL_len f.pw f.pn
    have z4 := flagL_len f.toA
    have z5 := trailL_len d.tr
    simp only [bodyL, List.flatten_cons, List.flatten_nil, List.length_append, List.length_nil]
    omega
  · have z0 := idL_len f.a
    have z1 := n1_len f.n
    simp only [bodyL, List.flatten_cons, List.flatten_nil, List.length_append, List.length_nil]
    omega
  · have z0 := idL_len f.a
    have z1 := idL_len f.b
    have z2 := n3_len f.n f.op f.ttl
    have z3 := itemL_len f.key f.vn f.vw d.val
    have z4 := t1_len d.tx
    simp only [bodyL, List.flatten_cons, List.flatten_nil, List.length_append, List.length_nil]
    omega
  · have z0 := pathL_len f.pw f.pn
    have z1 := flagL_len f.toA
    have z2 := itemL_len f.key f.vn f.vw d.val
    simp only [bodyL, List.flatten_cons, List.flatten_nil, List.length_append, List.length_nil]
    omega
  · have z0 := pathL_len f.pw f.pn
    have z1 := flagL_len f.toA
    have z2 := idL_len f.key
    have z3 := verL_len f.vn f.vw
    simp only [bodyL, List.flatten_cons, List.flatten_nil, List.length_append, List.length_nil]
    omega
theorem right_bare (k : Nat) (h1 : 1 ≤ k) (h2 : k ≤ 12) (f : Fr) (d : FD) (s1 s2 s3 s4 : Sl) (w : World) (l : List Nat) (i q : Nat) (I : Inv l i k f d q) (HW : FrW w { bare k f with kind := (k : Int), tr := s1, ids := s2, val := s3, tx := s4 } (bareD k d)) : rightB (bare k { bare k f with kind := (k : Int), tr := s1, ids := s2, val := s3, tx := s4 }) (bareD k (bareD k d)) (ownB k { bare k f with kind := (k : Int), tr := s1, ids := s2, val := s3, tx := s4 }) = true := by
  rw [rightB_iff]
  have t1 := I.tr
  have t2 := I.ids
  have t3 := I.val
  have t4 := I.tx
  have on := I.own
  rcases is12 h1 h2 with rfl | rfl | rfl | rfl | rfl | rfl | rfl | rfl | rfl | rfl | rfl | rfl
  · exact ⟨⟨zle, zle, I.num.fi, I.num.fn, I.num.ti, I.num.tn, zle⟩, ⟨Nat.zero_le _, (by intro x hx; cases hx), Nat.zero_le _, Nat.zero_le _⟩, rfl⟩
  · exact ⟨⟨zle, I.num.n, I.num.fi, I.num.fn, I.num.ti, I.num.tn, zle⟩, ⟨Nat.zero_le _, (by intro x hx; cases hx), Nat.zero_le _, Nat.zero_le _⟩, (by have e : s4.n = d.tx.length := HW.txn; show decide (((s4.n : Nat) : Int) ≤ 4096) = true; exact decide_eq_true (by omega))⟩
  · exact ⟨⟨zle, I.num.n, I.num.fi, I.num.fn, I.num.ti, I.num.tn, zle⟩, ⟨Nat.zero_le _, (by intro x hx; cases hx), Nat.zero_le _, Nat.zero_le _⟩, rfl⟩
  · exact ⟨⟨I.num.pn, zle, zle, zle, zle, zle, zle⟩, ⟨(by have e : s1.n = d.tr.length := HW.trn; show s1.n ≤ 64; omega), I.tok, Nat.zero_le _, Nat.zero_le _⟩, rfl⟩
  · exact ⟨⟨I.num.pn, zle, zle, zle, zle, zle, zle⟩, ⟨Nat.zero_le _, (by intro x hx; cases hx), Nat.zero_le _, Nat.zero_le _⟩, rfl⟩
  · exact ⟨⟨I.num.pn, zle, zle, zle, zle, zle, zle⟩, ⟨Nat.zero_le _, (by intro x hx; cases hx), Nat.zero_le _, Nat.zero_le _⟩, rfl⟩
  · exact ⟨⟨I.num.pn, zle, zle, zle, zle, zle, zle⟩, ⟨Nat.zero_le _, (by intro x hx; cases hx), (by have e : s2.n = d.ids.length := HW.idn; show s2.n ≤ 16; omega), Nat.zero_le _⟩, rfl⟩
  · exact ⟨⟨I.num.pn, zle, zle, zle, zle, zle, zle⟩, ⟨(by have e : s1.n = d.tr.length := HW.trn; show s1.n ≤ 64; omega), I.tok, Nat.zero_le _, Nat.zero_le _⟩, (by show (decide (0 ≤ f.op) && decide (f.op ≤ 3)) = true; rw [decide_eq_true on.1, decide_eq_true on.2]; rfl)⟩
  · exact ⟨⟨zle, I.num.n, zle, zle, zle, zle, zle⟩, ⟨Nat.zero_le _, (by intro x hx; cases hx), Nat.zero_le _, Nat.zero_le _⟩, rfl⟩
  · exact ⟨⟨zle, I.num.n, zle, zle, zle, zle, I.num.vn⟩, ⟨Nat.zero_le _, (by intro x hx; cases hx), Nat.zero_le _, (by have e : s3.n = d.val.length := HW.valn; show s3.n ≤ 64; omega)⟩, (by have e : s4.n = d.tx.length := HW.txn; obtain ⟨o1, o2, o3, o4, o5⟩ := on; show (decide (1 ≤ f.op) && (decide (f.op ≤ 4) && (decide (0 ≤ f.ttl) && (decide (f.ttl ≤ 64) && decide (((s4.n : Nat) : Int) ≤ 64))))) = true; rw [decide_eq_true o1, decide_eq_true o2, decide_eq_true o3, decide_eq_true o4, decide_eq_true (show ((s4.n : Nat) : Int) ≤ 64 by omega)]; rfl)⟩
  · exact ⟨⟨I.num.pn, zle, zle, zle, zle, zle, I.num.vn⟩, ⟨Nat.zero_le _, (by intro x hx; cases hx), Nat.zero_le _, (by have e : s3.n = d.val.length := HW.valn; show s3.n ≤ 64; omega)⟩, rfl⟩
  · exact ⟨⟨I.num.pn, zle, zle, zle, zle, zle, I.num.vn⟩, ⟨Nat.zero_le _, (by intro x hx; cases hx), Nat.zero_le _, Nat.zero_le _⟩, rfl⟩

theorem enc_dec {l : List Nat} (hl : ∀ y ∈ l, y < 256) {a : Nat × Fr × FD} (h : decE l = .ok a) (g : Fr) (hg : ∃ s1 s2 s3 s4 : Sl, g = { bare a.1 a.2.1 with kind := (a.1 : Int), tr := s1, ids := s2, val := s3, tx := s4 }) (w : World) (HW : FrW w g (bareD a.1 a.2.2)) : Calls Try.prog 10 #[.agg (frA g)] w fun e w' => ∃ ao cap, e = .returned (.tuple #[.slice ao l.length cap, .int .i64 0]) ∧ OB w' 5 .u8 w.heap.size ao cap l ∧ Gro w w' := by
  obtain ⟨h1, h2, i, q, I, hf⟩ := dec_frameL hl h
  obtain ⟨k, f, d⟩ := a
  dsimp only at *
  obtain ⟨s1, s2, s3, s4, rfl⟩ := hg
  have hL : frameL k { bare k f with kind := (k : Int), tr := s1, ids := s2, val := s3, tx := s4 } (bareD k d) = l := by
    rw [hf]
    unfold frameL
    rw [bodyL_bare k h1 h2 f d s1 s2 s3 s4]
  have ho : ok16 (bareD k d).ids := HW.oids
  have hd : (bareD k d).tr.length ≤ 64 ∧ (bareD k d).ids.length ≤ 16 ∧ (bareD k d).val.length ≤ 64 ∧ (bareD k d).tx.length ≤ 4096 := by
    have t1 := I.tr
    have t2 := I.ids
    have t3 := I.val
    have t4 := I.tx
    unfold bareD
    dsimp only
    refine ⟨?_, ?_, ?_, ?_⟩ <;> split <;> first | assumption | exact Nat.zero_le _
  have hbl := bodyL_len k h1 h2 { bare k f with kind := (k : Int), tr := s1, ids := s2, val := s3, tx := s4 } (bareD k d) hd.1 hd.2.1 ho hd.2.2.1 hd.2.2.2
  have := encode_ok k h1 h2 _ rfl (bareD k d) w HW ⟨by omega, by omega⟩ (frR_bare k h1 h2 I.fr s1 s2 s3 s4) (right_bare k h1 h2 f d s1 s2 s3 s4 w l i q I HW) (same_bare k h1 h2 f d s1 s2 s3 s4) hbl w.heap.size (Nat.le_refl _)
  rw [hL] at this
  exact this
end Go.Proofs.Ythmcnlmphikicaa
