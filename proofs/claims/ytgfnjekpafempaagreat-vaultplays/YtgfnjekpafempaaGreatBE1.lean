import Derived.Test.YtgfnjekpafempaaGreatBD4
namespace Go.Proofs.YtgfnjekpafempaaGreat
open Go.RowKit
structure RDk (w : World) (p sg n : Nat) (L : List Nat) (pw dn : Int) : Prop where
  box : w.heap[p]? = some (.cells (c47 ⟨some ⟨sg, 0, none⟩, n * 64, n * 64⟩ pw dn) 47 (0, 0))
  sec : w.heap[sg]? = some (.cells (bv L) 5 (0, 0))
  len : L.length = n * 64
  le : n ≤ 4096
  byte : ∀ x ∈ L, x < 256
  ne : p ≠ sg
theorem RDk.gro {w w' : World} {p sg n : Nat} {L : List Nat} {pw dn : Int} (h : RDk w p sg n L pw dn) (G : Gro w w') : RDk w' p sg n L pw dn := ⟨G.has h.box, G.has h.sec, h.len, h.le, h.byte, h.ne⟩
theorem RDk.gros {S : List Nat} {w w' : World} {p sg n : Nat} {L : List Nat} {pw dn : Int} (h : RDk w p sg n L pw dn) (G : GroS S w w') (hp : p ∉ S) (hs : sg ∉ S) : RDk w' p sg n L pw dn := ⟨G.has h.box hp, G.has h.sec hs, h.len, h.le, h.byte, h.ne⟩
theorem quoN {n : Nat} : ((n * 64 : Nat) : Int).tdiv 64 = (n : Int) := by
  rw [show (64 : Int) = ((64 : Nat) : Int) from rfl, tdivN]
  omega
theorem cut2_at {o : Oper} {A : Act} (x y z : Operand) (ho : o.op = .slice 27 x (some y) (some z) none) (g n i m : Nat) (hx : A.eval x = .slice (some ⟨g, 0, none⟩) n n) (hy : A.eval y = .int .i64 (i : Int)) (hz : A.eval z = .int .i64 ((i + m : Nat) : Int)) (hi : i < n) (hm : i + m ≤ n) (w : World) :
    (execOp A.eval o).run Tryz.prog w = .ok (.value (.slice (some ⟨g, i, none⟩) m (n - i))) w := by
  rw [ZR bT x y z ho (some ⟨g, 0, none⟩) n n i (i + m) hx hy hz (by omega) hm w, if_neg (by omega), Option.map_some, zQ, Nat.zero_add, Nat.add_sub_cancel_left]
theorem bat {o : Oper} {A : Act} (x y : Operand) (ho : o.op = .indexAddr 27 x y) (g n cap j : Nat) (hx : A.eval x = .slice (some ⟨g, 0, none⟩) n cap) (hy : A.eval y = .int .i64 (j : Int)) (hj : j < n) (w : World) :
    (execOp A.eval o).run Tryz.prog w = .ok (.value (.pointer (some ⟨g, j, none⟩))) w := by
  rw [zf bT x y ho ⟨g, 0, none⟩ n cap j hx hy hj w, zQ, Nat.zero_add]
theorem wr_set {L P : List Nat} {off k : Nat} (hk : k < P.length) (h : off + P.length ≤ L.length) : (wr L off (P.take k)).set (off + k) (P.getD k 0) = wr L off (P.take (k + 1)) := by
  have h1 : (P.take k).length = k := by rw [List.length_take]; omega
  have h2 : (P.take (k + 1)).length = k + 1 := by rw [List.length_take]; omega
  have h3 : (L.take off).length = off := by rw [List.length_take]; omega
  have h4 : (L.take off ++ P.take k).length = off + k := by rw [List.length_append, h1, h3]
  unfold wr
  rw [h1, h2, List.set_append_right _ _ (by omega), h4, Nat.sub_self]
  have h5 : L.drop (off + k) = L.getD (off + k) 0 :: L.drop (off + (k + 1)) := by
    rw [List.drop_eq_getElem_cons (by omega)]
    simp [List.getD_eq_getElem?_getD, List.getElem?_eq_getElem (show off + k < L.length by omega), Nat.add_assoc]
  rw [h5, List.set_cons_zero]
  have h6 : P.take (k + 1) = P.take k ++ [P.getD k 0] := by
    rw [List.take_add_one, List.getElem?_eq_getElem hk, List.getD_eq_getElem?_getD, List.getElem?_eq_getElem hk]
    rfl
  rw [h6]
  simp
theorem Zn {L P : List Nat} {off k y : Nat} (hy : P.getD k 0 = y) (hk : k < P.length) (h : off + P.length ≤ L.length) : (wr L off (P.take k)).set (off + k) y = wr L off (P.take (k + 1)) := by
  subst hy
  exact wr_set hk h
theorem QW {l : List Nat} {k : Nat} (h : k < l.length) : (padS l).getD k 0 = l.getD k 0 := by
  rw [padS, List.getD_eq_getElem?_getD, List.getElem?_append_left h, ← List.getD_eq_getElem?_getD]
theorem Um {l : List Nat} {k : Nat} (h : l.length ≤ k) : (padS l).getD k 0 = 0 := by
  rw [padS, List.getD_eq_getElem?_getD, List.getElem?_append_right h, zs]
  cases h2 : decide (k - l.length < 64 - l.length)
  · rw [List.getElem?_eq_none (by simp; have := of_decide_eq_false h2; omega)]
    rfl
  · rw [List.getElem?_replicate, if_pos (of_decide_eq_true h2)]
    rfl
theorem Qx {L l : List Nat} {n i k : Nat} (h : L.length = n * 64) (hi : i < n) (hk : k ≤ 64) (hl : l.length ≤ 64) : (wr L (i * 64) ((padS l).take k)).length = L.length :=
  yN (by rw [List.length_take, zg hl]; omega)
theorem hasB_f {n : Nat} {i : Int} (h : hasB n i = false) : i < 0 ∨ (0 ≤ i ∧ (n : Int) ≤ i) := by
  unfold hasB at h
  cases h1 : decide (0 ≤ i)
  · left; have := of_decide_eq_false h1; omega
  · rw [h1] at h
    have h2 := of_decide_eq_true h1
    have h3 : ¬ i < (n : Int) := of_decide_eq_false h
    omega
theorem DK.st {w w' : World} {p sg n : Nat} {L : List Nat} {pw dn : Int} {g : Nat} {x : Obj} (h : DK w p sg n L pw dn) (S : Stored w w' g x) (h1 : g ≠ p) (h2 : g ≠ sg) : DK w' p sg n L pw dn := ⟨S.has (Ne.symm h1) h.box, S.has (Ne.symm h2) h.sec, h.len, h.le, h.byte, h.ne⟩
theorem RDk.st {w w' : World} {p sg n : Nat} {L : List Nat} {pw dn : Int} {g : Nat} {x : Obj} (h : RDk w p sg n L pw dn) (S : Stored w w' g x) (h1 : g ≠ p) (h2 : g ≠ sg) : RDk w' p sg n L pw dn := ⟨S.has (Ne.symm h1) h.box, S.has (Ne.symm h2) h.sec, h.len, h.le, h.byte, h.ne⟩
theorem jbc (w : World) (p sg n : Nat) (L : List Nat) (pw dn : Int) (H : DK w p sg n L pw dn) : Calls Tryz.prog 8 #[.pointer (some ⟨p, 0, none⟩)] w fun e w' => ∃ g, e = .returned (.slice (some ⟨g, 0, none⟩) L.length L.length) ∧ Gro w w' ∧ w.heap.size ≤ g ∧ w'.heap[g]? = some (.cells (bv L) 5 (0, 0)) := by
  rw [H.len]
  exact jbd w p sg n L pw dn H
def PwL (power : Int) (c : Nat) (lf pw : Int) : Prop :=
  (0 ≤ power ∧ lf = power - c ∧ pw = power - c ∧ (c : Int) ≤ power) ∨ (power < 0 ∧ pw = -1 ∧ (lf = power - c ∨ lf = power - c + 18446744073709551616))
theorem KB {a : Int} (h1 : -9223372036854775808 ≤ a) (h2 : a < 9223372036854775808) : IntKind.i64.wrap (a - 1) = if a = -9223372036854775808 then 9223372036854775807 else a - 1 := by
  by_cases h : a = -9223372036854775808
  · subst h
    rfl
  · rw [if_neg h]
    exact ya _ (by omega) (by omega)
theorem PwL.next {power lf pw : Int} {c : Nat} (h : PwL power c lf pw) (h1 : -9223372036854775808 ≤ lf) (h2 : lf < 9223372036854775808) (h0 : lf ≠ 0) (hc : c ≤ 301) (hp : -9223372036854775808 ≤ power) : PwL power (c + 1) (IntKind.i64.wrap (lf - 1)) (if pw = -1 then -1 else pw - 1) := by
  rw [KB h1 h2]
  unfold PwL at *
  split <;> split <;> omega
theorem ways (n : Nat) (i : Int) (m : Nat) : (hasB n i = false ∧ i < 0) ∨ (hasB n i = false ∧ 0 ≤ i ∧ (n : Int) ≤ i) ∨ (∃ j : Nat, i = (j : Int) ∧ j < n ∧ 64 < m) ∨ (∃ j : Nat, i = (j : Int) ∧ j < n ∧ m ≤ 64) := by
  cases hB : hasB n i
  · rcases hasB_f hB with h | ⟨h, h2⟩
    · exact .inl ⟨rfl, h⟩
    · exact .inr (.inl ⟨rfl, h, h2⟩)
  · obtain ⟨j, hj, hjn⟩ := hasB_nat hB
    by_cases hm : 64 < m
    · exact .inr (.inr (.inl ⟨j, hj, hjn, hm⟩))
    · exact .inr (.inr (.inr ⟨j, hj, hjn, by omega⟩))
theorem Vz (w : World) (p sg n : Nat) (L : List Nat) (pw dn : Int) (H : DK w p sg n L pw dn) (ao : Option Addr) (cap : Nat) (l : List Nat) (HB : BS [p, sg] w ao cap l) (i : Nat) (hi : i < n) (hl : l.length ≤ 64) (h1 : pw = -1 ∨ 0 < pw) (h2 : pw < 9223372036854775808) (hd : 0 ≤ dn) (hd2 : dn < 9223372036854775807) : Calls Tryz.prog 72 #[.pointer (some ⟨p, 0, none⟩), .int .i64 ((i : Nat) : Int), .slice ao l.length cap] w fun e w' => e = .returned (.int .i64 0) ∧ GroS [p, sg] w w' ∧ DK w' p sg n (wr L (i * 64) (padS l)) (if pw = -1 then -1 else pw - 1) (dn + 1) := by
  rcases h1 with h1 | h1
  · rw [if_pos h1]
    have := KA w p sg n L pw dn H ao cap l HB i hi hl h1 hd hd2
    rwa [h1] at this
  · rw [if_neg (by omega)]
    exact jbf w p sg n L pw dn H ao cap l HB i hi hl h1 h2 hd hd2
theorem DK.below {w w' : World} {p sg n B : Nat} {L : List Nat} {pw dn : Int} (h : DK w p sg n L pw dn) (G : Below B w w') (h1 : p < B) (h2 : sg < B) : DK w' p sg n L pw dn := ⟨by rw [G.block p h1]; exact h.box, by rw [G.block sg h2]; exact h.sec, h.len, h.le, h.byte, h.ne⟩
theorem RDk.below {w w' : World} {p sg n B : Nat} {L : List Nat} {pw dn : Int} (h : RDk w p sg n L pw dn) (G : Below B w w') (h1 : p < B) (h2 : sg < B) : RDk w' p sg n L pw dn := ⟨by rw [G.block p h1]; exact h.box, by rw [G.block sg h2]; exact h.sec, h.len, h.le, h.byte, h.ne⟩
theorem Uh (w : World) (p sg n : Nat) (L : List Nat) (pw dn : Int) (H : DK w p sg n L pw dn) (i : Nat) (hi : i < n) : Calls Tryz.prog 67 #[.pointer (some ⟨p, 0, none⟩), .int .i64 ((i : Nat) : Int)] w fun e w' => ∃ g, e = .returned (.tuple #[.slice (some ⟨g, 0, none⟩) (secL L i).length (secL L i).length, .int .i64 0]) ∧ Gro w w' ∧ w.heap.size ≤ g ∧ w'.heap[g]? = some (.cells (bv (secL L i)) 5 (0, 0)) := by
  rw [zZ H.len hi]
  exact QR w p sg n L pw dn H i hi
def okP (pw : Int) : Prop := -1 ≤ pw ∧ pw < 9223372036854775808
theorem okP.next {pw : Int} (h : okP pw) (_h0 : pw ≠ 0) : okP (if pw = -1 then -1 else pw - 1) := by
  unfold okP at *
  split <;> omega
theorem okP.set {x : Int} (h : x < 9223372036854775808) : okP (max x (-1)) := by
  unfold okP
  omega
def secN (m : Nat) : Nat := (m + 65) / 64
structure Hd where
  g : Nat
  u : Nat
  c : Nat
def nm (s : List Nat) (k : Nat) : Nat := valL ((s.drop (k * 8)).take 8)
def zerosB (s : List Nat) : Bool := (s.drop 24).all fun x => x == 0
def hdE (s : List Nat) : Hd := bif zerosB s then (if nm s 0 = 0 then ⟨0, 0, 0⟩ else ⟨nm s 0, nm s 1, nm s 2⟩) else ⟨0, 0, 0⟩
def cntE (L : List Nat) : Hd := if (hdE (secL L 0)).g < (hdE (secL L 1)).g then hdE (secL L 1) else hdE (secL L 0)
def hdL (h : Hd) : List Nat := beL 8 h.g ++ (beL 8 h.u ++ beL 8 h.c)
theorem JF (h : Hd) : (hdL h).length = 24 := by simp [hdL, jL]
theorem jee (h : Hd) : ∀ x ∈ hdL h, x < 256 := fun x hx => by
  simp only [hdL, List.mem_append] at hx
  rcases hx with hx | hx | hx <;> exact Vw _ _ x hx
theorem padL (h : Hd) : padS (hdL h) = hdL h ++ zs 40 := by rw [padS, JF]
theorem pow8 : 256 ^ 8 = lim := by decide
theorem nm_pad0 (h : Hd) (hg : h.g < lim) : nm (padS (hdL h)) 0 = h.g := by
  rw [padL, nm, Nat.zero_mul, List.drop_zero, hdL, List.append_assoc, List.take_left' (jL _ _), yR _ _ (by rw [pow8]; exact hg)]
theorem nm_pad1 (h : Hd) (hg : h.u < lim) : nm (padS (hdL h)) 1 = h.u := by
  rw [padL, nm, Nat.one_mul, hdL, List.append_assoc, List.drop_left' (jL _ _), List.append_assoc, List.take_left' (jL _ _), yR _ _ (by rw [pow8]; exact hg)]
theorem nm_pad2 (h : Hd) (hg : h.c < lim) : nm (padS (hdL h)) 2 = h.c := by
  have e : 2 * 8 = 8 + 8 := rfl
  rw [padL, nm, e, ← List.drop_drop, hdL, List.append_assoc, List.drop_left' (jL _ _), List.append_assoc, List.drop_left' (jL _ _), List.take_left' (jL _ _), yR _ _ (by rw [pow8]; exact hg)]
theorem Ky (h : Hd) : zerosB (padS (hdL h)) = true := by
  rw [padL, zerosB, List.drop_left' (JF h)]
  decide
theorem hdE_pad (h : Hd) (h0 : h.g ≠ 0) (hg : h.g < lim) (hu : h.u < lim) (hc : h.c < lim) : hdE (padS (hdL h)) = h := by
  rw [hdE, Ky, nm_pad0 h hg, nm_pad1 h hu, nm_pad2 h hc, cond_true, if_neg h0]
theorem vI {s : List Nat} (h : s.length = 64) : zerosB s = true ↔ ∀ i, i < 40 → s.getD (24 + i) 0 = 0 := by
  rw [zerosB, List.all_eq_true]
  constructor
  · intro a i hi
    have hl : 24 + i < s.length := by omega
    have := a (s.getD (24 + i) 0) (by
      rw [List.getD_eq_getElem?_getD, List.getElem?_eq_getElem hl, Option.getD_some]
      exact List.mem_drop_iff_getElem.2 ⟨i, by omega, rfl⟩)
    simpa using this
  · intro a x hx
    obtain ⟨i, hi, rfl⟩ := List.mem_drop_iff_getElem.1 hx
    have := a i (by omega)
    rw [List.getD_eq_getElem?_getD, List.getElem?_eq_getElem (by omega), Option.getD_some] at this
    simpa using this
theorem Vm {s : List Nat} (h : s.length = 64) {i : Nat} (hi : i < 40) (hx : s.getD (24 + i) 0 ≠ 0) : hdE s = ⟨0, 0, 0⟩ := by
  have : zerosB s = false := by
    cases hz : zerosB s
    · rfl
    · exact absurd ((vI h).1 hz i hi) hx
  rw [hdE, this]
  rfl
theorem jeg {s : List Nat} (hz : zerosB s = true) (h0 : nm s 0 = 0) : hdE s = ⟨0, 0, 0⟩ := by
  rw [hdE, hz, cond_true, if_pos h0]
theorem Kk {s : List Nat} (hz : zerosB s = true) (h0 : nm s 0 ≠ 0) : hdE s = ⟨nm s 0, nm s 1, nm s 2⟩ := by
  rw [hdE, hz, cond_true, if_neg h0]
theorem jdq {s : List Nat} (hs : ∀ x ∈ s, x < 256) (k : Nat) : nm s k < lim := by
  rw [nm, ← pow8]
  refine Nat.lt_of_lt_of_le (uo _ _ rfl fun x hx => hs x (List.mem_of_mem_drop (List.mem_of_mem_take hx))) ?_
  exact Nat.pow_le_pow_right (by decide) (by rw [List.length_take]; omega)
theorem uE : 0 < lim := by decide
theorem jeh {s : List Nat} (hs : ∀ x ∈ s, x < 256) : (hdE s).g < lim ∧ (hdE s).u < lim ∧ (hdE s).c < lim := by
  unfold hdE
  cases zerosB s
  · exact ⟨uE, uE, uE⟩
  · rw [cond_true]
    split
    · exact ⟨uE, uE, uE⟩
    · exact ⟨jdq hs 0, jdq hs 1, jdq hs 2⟩
theorem uM {L : List Nat} (hs : ∀ x ∈ L, x < 256) : (cntE L).g < lim ∧ (cntE L).u < lim ∧ (cntE L).c < lim := by
  unfold cntE
  split
  · exact jeh (vv hs 1)
  · exact jeh (vv hs 0)
/-! ### Records -/
def reg (L : List Nat) (u : Nat) : List Nat := (L.drop 128).take (u * 64)
theorem vM {L : List Nat} {n u : Nat} (h : L.length = n * 64) (hu : u + 2 ≤ n) : (reg L u).length = u * 64 := by
  rw [reg, List.length_take, List.length_drop]
  omega
def recM (l : List Nat) : Nat := l.getD 0 0 * 256 + l.getD 1 0
def prsF : Nat → List Nat → Option (List (List Nat))
  | 0, _ => none
  | k + 1, l => if l = [] then some [] else if 1024 < recM l ∨ l.length < secN (recM l) * 64 then none else (prsF k (l.drop (secN (recM l) * 64))).map (((l.drop 2).take (recM l)) :: ·)
def prs (l : List Nat) : Option (List (List Nat)) := prsF (l.length + 1) l
theorem jde : ∀ (k j : Nat) (l : List Nat), l.length < k → l.length < j → prsF k l = prsF j l := by
  intro k
  induction k with
  | zero => intro j l h; omega
  | succ k ih =>
    intro j l h hj
    obtain ⟨j, rfl⟩ : ∃ i, j = i + 1 := ⟨j - 1, by omega⟩
    rw [prsF, prsF]
    by_cases h0 : l = []
    · rw [if_pos h0, if_pos h0]
    by_cases h1 : 1024 < recM l ∨ l.length < secN (recM l) * 64
    · rw [if_neg h0, if_neg h0, if_pos h1, if_pos h1]
    have hp : 0 < l.length := List.length_pos_iff.2 h0
    have h2 : 1 ≤ secN (recM l) := by unfold secN; omega
    have hd : (l.drop (secN (recM l) * 64)).length < l.length := by rw [List.length_drop]; omega
    rw [if_neg h0, if_neg h0, if_neg h1, if_neg h1, ih j _ (by omega) (by omega)]
theorem vO : prs [] = some [] := rfl
theorem vz {l : List Nat} (h : l ≠ []) (h1 : recM l ≤ 1024) (h2 : secN (recM l) * 64 ≤ l.length) : prs l = (prs (l.drop (secN (recM l) * 64))).map (((l.drop 2).take (recM l)) :: ·) := by
  have hp : 0 < l.length := List.length_pos_iff.2 h
  have h3 : 1 ≤ secN (recM l) := by unfold secN; omega
  have hd : (l.drop (secN (recM l) * 64)).length < l.length := by rw [List.length_drop]; omega
  unfold prs
  rw [prsF, if_neg h, if_neg (by omega), jde l.length _ _ hd (Nat.lt_succ_self _)]
theorem uy {l : List Nat} (h : l ≠ []) (h1 : 1024 < recM l ∨ l.length < secN (recM l) * 64) : prs l = none := by
  unfold prs
  rw [prsF, if_neg h, if_pos h1]
theorem Uz {l r : List Nat} {i : Nat} (h : i < l.length) : (l ++ r).getD i 0 = l.getD i 0 := by
  rw [List.getD_eq_getElem?_getD, List.getElem?_append_left h, ← List.getD_eq_getElem?_getD]
theorem QV (W : List Nat) : ∀ (m : Nat) (R : List Nat), R.length ≤ m → ∀ rs, prs R = some rs → prs (R ++ W) = (prs W).map (rs ++ ·)
  | 0, R, hm, rs, h => by
    have : R = [] := List.eq_nil_of_length_eq_zero (by omega)
    subst this
    rw [vO] at h
    cases h
    simp
  | m + 1, R, hm, rs, h => by
    by_cases h0 : R = []
    · subst h0
      rw [vO] at h
      cases h
      simp
    · by_cases hb : 1024 < recM R ∨ R.length < secN (recM R) * 64
      · rw [uy h0 hb] at h
        cases h
      · rw [vz h0 (by omega) (by omega)] at h
        have h2 : 1 ≤ secN (recM R) := by unfold secN; omega
        have h3 : recM R + 2 ≤ secN (recM R) * 64 := by unfold secN; omega
        have hM : recM (R ++ W) = recM R := by rw [recM, Uz (by omega), Uz (by omega), recM]
        cases hp : prs (R.drop (secN (recM R) * 64)) with
        | none => rw [hp] at h; cases h
        | some rs' =>
          rw [hp] at h
          have ih := QV W m (R.drop (secN (recM R) * 64)) (by rw [List.length_drop]; omega) rs' hp
          have a1 : (R ++ W).drop (secN (recM R) * 64) = R.drop (secN (recM R) * 64) ++ W := List.drop_append_of_le_length (by omega)
          have a2 : ((R ++ W).drop 2).take (recM R) = (R.drop 2).take (recM R) := by
            rw [List.drop_append_of_le_length (by omega), List.take_append_of_le_length (by rw [List.length_drop]; omega)]
          rw [vz (by simp [h0]) (by rw [hM]; omega) (by rw [hM, List.length_append]; omega), hM, a1, a2, ih]
          simp only [Option.map_some, Option.some.injEq] at h
          subst h
          cases prs W <;> rfl
def recW (l : List Nat) : List Nat := (l.length / 256) :: (l.length % 256) :: (l ++ zs (secN l.length * 64 - 2 - l.length))
theorem zF (l : List Nat) : (recW l).length = secN l.length * 64 := by
  simp only [recW, List.length_cons, List.length_append, zo]
  unfold secN
  omega
theorem KW {l : List Nat} (h : ∀ x ∈ l, x < 256) (hl : l.length ≤ 1024) : ∀ x ∈ recW l, x < 256 := fun x hx => by
  simp only [recW, List.mem_cons, List.mem_append] at hx
  rcases hx with rfl | rfl | hx | hx
  · omega
  · omega
  · exact h x hx
  · exact Zm _ x hx
theorem prs_rec (l : List Nat) (hl : l.length ≤ 1024) : prs (recW l) = some [l] := by
  have hM : recM (recW l) = l.length := by
    show l.length / 256 * 256 + l.length % 256 = l.length
    omega
  have a1 : (recW l).drop (secN l.length * 64) = [] := List.drop_of_length_le (by rw [zF]; exact Nat.le_refl _)
  rw [vz (by simp [recW]) (by rw [hM]; exact hl) (by rw [hM, zF]; exact Nat.le_refl _), hM, a1, vO]
  simp [recW]
/-! ### What is written elsewhere -/
theorem wr_get {L P : List Nat} {off k : Nat} (h1 : k < off ∨ off + P.length ≤ k) (h : off + P.length ≤ L.length) : (wr L off P)[k]? = L[k]? := by
  have h3 : (L.take off).length = off := by rw [List.length_take]; omega
  rw [wr, List.append_assoc]
  rcases h1 with h1 | h1
  · rw [List.getElem?_append_left (by omega), List.getElem?_take, if_pos h1]
  · rw [List.getElem?_append_right (by omega), h3, List.getElem?_append_right (by omega), List.getElem?_drop]
    congr 1
    omega
theorem Jf {L P : List Nat} {off a m : Nat} (h : off + P.length ≤ L.length) (hd : a + m ≤ off ∨ off + P.length ≤ a) : ((wr L off P).drop a).take m = (L.drop a).take m := by
  apply List.ext_getElem?
  intro i
  rw [List.getElem?_take, List.getElem?_take]
  split
  · rw [List.getElem?_drop, List.getElem?_drop, wr_get (by omega) h]
  · rfl
theorem QB {L P : List Nat} {off : Nat} (h : off + P.length ≤ L.length) : ((wr L off P).drop off).take P.length = P := by
  have h3 : (L.take off).length = off := by rw [List.length_take]; omega
  rw [wr, List.append_assoc, List.drop_left' h3, List.take_left' rfl]
theorem uX {L P : List Nat} {off i : Nat} (h : off + P.length ≤ L.length) (hd : i * 64 + 64 ≤ off ∨ off + P.length ≤ i * 64) : secL (wr L off P) i = secL L i := Jf h hd
theorem KG {L P : List Nat} {i : Nat} (hP : P.length = 64) (h : i * 64 + 64 ≤ L.length) : secL (wr L (i * 64) P) i = P := by
  have := QB (L := L) (P := P) (off := i * 64) (by omega)
  rwa [hP] at this
/-! ### A log that stands -/
structure Good (L : List Nat) (n : Nat) (h : Hd) (rs : List (List Nat)) : Prop where
  len : L.length = n * 64
  fit : h.u + 2 ≤ n
  cnt : h.c ≤ h.u
  me : hdE (secL L (h.g % 2)) = h
  ot : (hdE (secL L ((h.g + 1) % 2))).g < h.g ∨ (h.g = 0 ∧ (hdE (secL L ((h.g + 1) % 2))).g = 0)
  recs : prs (reg L h.u) = some rs
  num : rs.length = h.c
theorem Good.counts {L : List Nat} {n : Nat} {h : Hd} {rs : List (List Nat)} (H : Good L n h rs) : cntE L = h := by
  have h1 := H.me
  have h2 := H.ot
  unfold cntE
  rcases Nat.mod_two_eq_zero_or_one h.g with e | e
  · have e2 : (h.g + 1) % 2 = 1 := by omega
    rw [e] at h1
    rw [e2] at h2
    rw [h1, if_neg (by omega)]
  · have e2 : (h.g + 1) % 2 = 0 := by omega
    rw [e] at h1
    rw [e2] at h2
    rw [h1, if_pos (by omega)]
theorem Good.fail {L P : List Nat} {n : Nat} {h : Hd} {rs : List (List Nat)} (H : Good L n h rs) (hP : (2 + h.u) * 64 + P.length ≤ L.length) : Good (wr L ((2 + h.u) * 64) P) n h rs := by
  have hs : ∀ i, i < 2 → secL (wr L ((2 + h.u) * 64) P) i = secL L i := fun i hi => uX hP (.inl (by omega))
  refine ⟨by rw [yN hP]; exact H.len, H.fit, H.cnt, ?_, ?_, ?_, H.num⟩
  · rw [hs _ (Nat.mod_lt _ (by decide))]; exact H.me
  · rw [hs _ (Nat.mod_lt _ (by decide))]; exact H.ot
  · have : reg (wr L ((2 + h.u) * 64) P) h.u = reg L h.u := Jf hP (.inl (by omega))
    rw [this]; exact H.recs
def Hd.next (h : Hd) (k : Nat) : Hd := ⟨h.g + 1, h.u + k, h.c + 1⟩
def okL (L : List Nat) (h : Hd) (l : List Nat) : List Nat := wr (wr L ((2 + h.u) * 64) (recW l)) ((h.g + 1) % 2 * 64) (padS (hdL (h.next (secN l.length))))
theorem Good.ok {L l : List Nat} {n : Nat} {h : Hd} {rs : List (List Nat)} (H : Good L n h rs) (hn : n ≤ 4096) (hl : l.length ≤ 1024) (hk : h.u + secN l.length + 2 ≤ n) (hg : h.g + 1 < lim) : Good (okL L h l) n (h.next (secN l.length)) (rs ++ [l]) := by
  have hw := zF l
  have hL := H.len
  have hP : (2 + h.u) * 64 + (recW l).length ≤ L.length := by rw [hw, hL]; omega
  have hlim : lim = 18446744073709551616 := rfl
  have hl2 : (wr L ((2 + h.u) * 64) (recW l)).length = n * 64 := by rw [yN hP]; exact hL
  have hq : (padS (hdL (h.next (secN l.length)))).length = 64 := zg (by rw [JF]; decide)
  have hm : (h.g + 1) % 2 < 2 := Nat.mod_lt _ (by decide)
  have h64 : (h.g + 1) % 2 * 64 + 64 ≤ (wr L ((2 + h.u) * 64) (recW l)).length := by rw [hl2]; omega
  have hc := H.cnt
  have hf := H.fit
  have e1 : secL (okL L h l) ((h.g + 1) % 2) = padS (hdL (h.next (secN l.length))) := KG hq h64
  have e2 : ∀ i, i < 2 → i ≠ (h.g + 1) % 2 → secL (okL L h l) i = secL L i := fun i hi hne => by
    rw [okL, uX (by rw [hq]; exact h64) (by rw [hq]; omega), uX hP (.inl (by omega))]
  have s1 : 1 ≤ secN l.length := by unfold secN; omega
  refine ⟨by rw [okL, yN (by rw [hq]; exact h64)]; exact hl2, by simp only [Hd.next]; omega, by simp only [Hd.next]; omega, ?_, .inl ?_, ?_, by simp only [Hd.next, List.length_append, List.length_cons, List.length_nil]; have := H.num; omega⟩
  · show hdE (secL (okL L h l) ((h.g + 1) % 2)) = _
    rw [e1]
    exact hdE_pad _ (by simp only [Hd.next]; omega) (by simp only [Hd.next]; omega) (by simp only [Hd.next]; omega) (by simp only [Hd.next]; omega)
  · show (hdE (secL (okL L h l) ((h.g + 1 + 1) % 2))).g < h.g + 1
    rw [e2 _ (Nat.mod_lt _ (by decide)) (by omega)]
    have : (h.g + 1 + 1) % 2 = h.g % 2 := by omega
    rw [this, H.me]
    omega
  · have e3 : reg (okL L h l) (h.u + secN l.length) = reg L h.u ++ recW l := by
      have r1 : reg (okL L h l) (h.u + secN l.length) = reg (wr L ((2 + h.u) * 64) (recW l)) (h.u + secN l.length) := Jf (by rw [hq]; exact h64) (.inr (by rw [hq]; omega))
      have r2 : reg (wr L ((2 + h.u) * 64) (recW l)) h.u = reg L h.u := Jf hP (.inl (by omega))
      have r3 := QB hP
      rw [r1, reg, Nat.add_mul, List.take_add, List.drop_drop, ← hw]
      have e4 : 128 + h.u * 64 = (2 + h.u) * 64 := by omega
      rw [e4, r3]
      exact congrArg (· ++ recW l) r2
    show prs (reg (okL L h l) (h.u + secN l.length)) = _
    rw [e3, QV (recW l) _ _ (Nat.le_refl _) _ H.recs, prs_rec l hl]
    rfl
theorem QJ {n i : Nat} (h : i < n) : secL (zs (n * 64)) i = zs 64 := by
  simp only [secL, zs, List.drop_replicate, List.take_replicate]
  congr 1
  omega
theorem jef : hdE (zs 64) = ⟨0, 0, 0⟩ := by rfl
theorem Yc (n : Nat) (h : 2 ≤ n) : Good (zs (n * 64)) n ⟨0, 0, 0⟩ [] := by
  refine ⟨zo _, h, Nat.le_refl _, ?_, .inr ⟨rfl, ?_⟩, ?_, rfl⟩
  · show hdE (secL (zs (n * 64)) 0) = _
    rw [QJ (by omega)]; exact jef
  · show (hdE (secL (zs (n * 64)) 1)).g = 0
    rw [QJ (by omega), jef]
  · show prs ((zs (n * 64)).drop 128 |>.take (0 * 64)) = _
    simp [vO]
/-! ### Opened -/
def opE (L : List Nat) (n : Nat) : Option (List (List Nat)) :=
  if 9223372036854775807 < (cntE L).g ∨ n - 2 < (cntE L).u ∨ (cntE L).u < (cntE L).c then none
  else (prs (reg L (cntE L).u)).bind fun rs => if rs.length = (cntE L).c then some rs else none
theorem Good.opens {L : List Nat} {n : Nat} {h : Hd} {rs : List (List Nat)} (H : Good L n h rs) (hg : h.g ≤ 9223372036854775807) : opE L n = some rs := by
  have h1 := H.counts
  have h2 := H.fit
  have h3 := H.cnt
  rw [opE, h1, if_neg (by omega), H.recs, Option.bind_some, if_pos H.num]
/-! ### Appended, with power for so many writes -/
def apT (pw : Int) (k : Nat) : Nat := if pw = -1 then k else min k pw.toNat
def apOK (pw : Int) (k : Nat) : Bool := decide (pw = -1 ∨ (k : Int) < pw)
def apP (pw : Int) (k : Nat) : Int := if pw = -1 then -1 else if (k : Int) < pw then pw - k - 1 else 0
def apL (L : List Nat) (pw : Int) (h : Hd) (l : List Nat) : List Nat := bif apOK pw (secN l.length) then okL L h l else wr L ((2 + h.u) * 64) ((recW l).take (apT pw (secN l.length) * 64))
def apH (pw : Int) (h : Hd) (l : List Nat) : Hd := bif apOK pw (secN l.length) then h.next (secN l.length) else h
def apR (pw : Int) (rs : List (List Nat)) (l : List Nat) : List (List Nat) := bif apOK pw (secN l.length) then rs ++ [l] else rs
theorem Good.app {L l : List Nat} {n : Nat} {h : Hd} {rs : List (List Nat)} (H : Good L n h rs) (pw : Int) (hn : n ≤ 4096) (hl : l.length ≤ 1024) (hk : h.u + secN l.length + 2 ≤ n) (hg : h.g + 1 < lim) : Good (apL L pw h l) n (apH pw h l) (apR pw rs l) := by
  unfold apL apH apR
  cases apOK pw (secN l.length)
  · refine H.fail ?_
    rw [List.length_take, zF, H.len]
    omega
  · exact H.ok hn hl hk hg
end Go.Proofs.YtgfnjekpafempaaGreat
