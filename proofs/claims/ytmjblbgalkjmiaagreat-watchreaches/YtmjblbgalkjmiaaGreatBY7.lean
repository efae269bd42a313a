/- Structs and arrays of numbers, held against each other. -/
import Derived.Test.YtmjblbgalkjmiaaGreatBY6
import Derived.Laws.StructEq
namespace Go.Proofs.YtmjblbgalkjmiaaGreat.EX
open Go
/-- How many cells, all of them numbers. -/
def flatC (P : Program) : Nat → TypeId → Option Nat
  | 0, _ => none
  | d + 1, t => match undQ P t with
    | some (.int _) => some 1
    | some (.array n e) => match flatC P d e with
      | some m => match szT P e with
        | some z => if m = z then some (n * m) else none
        | none => none
      | none => none
    | some (.struct fs) => if P.stoodInHeld t then none else fs.toList.foldr (fun f (k : Nat → Option Nat) off => if f.name ≠ "_" ∧ f.offset = off then match flatC P d f.type with
        | some m => match szT P f.type with
          | some z => if m = z then k (off + m) else none
          | none => none
        | none => none
        else none) (fun off => some off) 0
    | _ => none
section
variable {P : Program}
/-- Numbers on both sides, of the same kinds. -/
def Nums (xs ys : List Value) (off m : Nat) : Prop := ∀ i, i < m → ∃ k a b, xs[off + i]? = some (.int k a) ∧ ys[off + i]? = some (.int k b)
def EqW (xs ys : List Value) (off m : Nat) : Prop := ∀ i, i < m → xs[off + i]? = ys[off + i]?
theorem Nums.sub {xs ys : List Value} {off m : Nat} (h : Nums xs ys off m) {o2 m2 : Nat} (h1 : off ≤ o2) (h2 : o2 + m2 ≤ off + m) : Nums xs ys o2 m2 := fun i hi => by
  obtain ⟨k, a, b, e1, e2⟩ := h (o2 + i - off) (by omega)
  have : off + (o2 + i - off) = o2 + i := by omega
  rw [this] at e1 e2
  exact ⟨k, a, b, e1, e2⟩
/-- A part of a row. -/
def partV (P : Program) (t : TypeId) (xs : List Value) (off m : Nat) : Value := if oneT P t then (xs[off]?).getD undef else .agg ⟨(xs.drop off).take m⟩
theorem part_run {t : TypeId} {xs : List Value} {off m : Nat} (hm : szT P t = some m) (hf : (oneT P t = true ∧ ∃ v, xs[off]? = some v) ∨ (∃ z, aggT P t = some z)) : runP P (part t ⟨xs⟩ off) = some (partV P t xs off m) := by
  unfold part partV
  rcases hf with ⟨h1, v, hv⟩ | ⟨z, hz⟩
  · rw [runP_bind, oneT_ok h1, h1]
    simp only [Option.bind, Bool.false_eq_true, if_false, if_true]
    have : (⟨xs⟩ : Array Value)[off]? = some v := by simpa using hv
    rw [this, hv]
    rfl
  · obtain ⟨h1, h2⟩ := aggT_ok hz
    have h3 : oneT P t = false := by
      cases e : oneT P t with
      | false => rfl
      | true => have := oneT_ok e; rw [h1] at this; cases this
    rw [runP_bind, h1, h3]
    simp only [Option.bind, if_true, Bool.false_eq_true, if_false]
    rw [runP_bind, szT_ok hm]
    simp only [Option.bind]
    show some (Value.agg ((⟨xs⟩ : Array Value).extract off (off + m))) = _
    congr 2
    apply Array.toList_inj.1
    simp
theorem eqInt_run {d : Nat} {t : TypeId} {k k' : IntKind} {a b : Int} (h : P.underlying t = some (.int k')) : runP P (Op.equalIn (d + 1) t (.int k a) (.int k b)) = some (a == b) := by
  unfold Op.equalIn
  rw [runP_bind, runP_und, h]
  simp
  rfl
theorem arr_run (d : Nat) (t e n z : Nat) (ht : P.underlying t = some (.array n e)) (hs : szT P e = some z)
    (xs ys : Array Value) (fx fy : Nat → Value) (eq : Nat → Bool) (hx : ∀ i, i < n → runP P (part e xs (i * z)) = some (fx i)) (hy : ∀ i, i < n → runP P (part e ys (i * z)) = some (fy i))
    (he : ∀ i, i < n → runP P (Op.equalIn d e (fx i) (fy i)) = some (eq i)) (r : Bool) (hr : r = true ↔ ∀ i, i < n → eq i = true) :
    runP P (Op.equalIn (d + 1) t (.agg xs) (.agg ys)) = some r := by
  have key : ∀ (m k : Nat), k + m = n → ∃ q : Option Bool × Unit, runP P (forIn (m := Sem) (List.range' k m 1) ((none, ()) : Option Bool × Unit) (fun i _ => do
      let a ← part e xs (i * z)
      let b ← part e ys (i * z)
      let q ← Op.equalIn d e a b
      if (!q) = true then pure (ForInStep.done (some false, ())) else pure (ForInStep.yield (none, ())))) = some q ∧
        ((q = (none, ()) ∧ ∀ i, k ≤ i → i < n → eq i = true) ∨ (q = (some false, ()) ∧ ∃ i, k ≤ i ∧ i < n ∧ eq i = false)) := by
    intro m
    induction m with
    | zero =>
      intro k hk
      exact ⟨(none, ()), by simp; rfl, Or.inl ⟨rfl, fun i h1 h2 => by omega⟩⟩
    | succ m ih =>
      intro k hk
      have h1 := hx k (by omega)
      have h2 := hy k (by omega)
      have h4 := he k (by omega)
      obtain ⟨q, h3, h5⟩ := ih (k + 1) (by omega)
      simp only [List.range'_succ, List.forIn_cons, runP_bind, h1, h2, h4, Option.bind]
      cases hq : eq k with
      | true =>
        simp only [Bool.not_true, Bool.false_eq_true, if_false]
        refine ⟨q, h3, ?_⟩
        rcases h5 with ⟨h6, h7⟩ | ⟨h6, i, h7, h8, h9⟩
        · refine Or.inl ⟨h6, fun i hi hn => ?_⟩
          by_cases hik : i = k
          · subst hik; exact hq
          · exact h7 i (by omega) hn
        · exact Or.inr ⟨h6, i, by omega, h8, h9⟩
      | false =>
        simp only [Bool.not_false, if_true]
        exact ⟨_, rfl, Or.inr ⟨rfl, k, Nat.le_refl _, by omega, hq⟩⟩
  obtain ⟨q, h0, h1⟩ := key n 0 (by omega)
  unfold Op.equalIn
  rw [runP_bind, runP_und, ht]
  simp only [Option.bind]
  rw [runP_bind, szT_ok hs]
  simp only [Option.bind]
  rw [runP_bind]
  simp only [Std.Legacy.Range.forIn_eq_forIn_range', Std.Legacy.Range.size, Nat.sub_zero, Nat.add_sub_cancel, Nat.div_one]
  rw [h0]
  rcases h1 with ⟨rfl, h2⟩ | ⟨rfl, i, _, h3, h4⟩
  · have : r = true := hr.2 fun i hi => h2 i (Nat.zero_le _) hi
    rw [this]
    rfl
  · have : r = false := by
      cases hrr : r with
      | false => rfl
      | true => have := hr.1 hrr i h3; rw [h4] at this; cases this
    rw [this]
    rfl
theorem struct_run (d : Nat) (t : TypeId) (xs ys : Array Value) (fs : Array Field) (ht : P.underlying t = some (.struct fs)) (hp : P.stoodInHeld t = false) :
    runP P (Op.equalIn (d + 1) t (.agg xs) (.agg ys)) = runP P (Op.eqFields d xs ys fs.toList) := by
  unfold Op.equalIn
  rw [runP_bind, runP_und, ht]
  simp only [Option.bind]
  rw [runP_bind]
  show runP P (if P.stoodInHeld t = true then _ else _) = _
  rw [hp]
  simp only [Bool.false_eq_true, if_false]
  rw [← Array.forIn_toList]
  generalize fs.toList = l
  induction l with
  | nil => rfl
  | cons f l ih =>
    rw [runP_bind] at ih
    simp only [List.forIn_cons, Op.eqFields, runP_bind]
    by_cases hn : f.name ≠ "_"
    · rw [if_pos hn, if_pos hn]
      simp only [runP_bind]
      cases runP P (part f.type xs f.offset) with
      | none => rfl
      | some a =>
        simp only [Option.bind]
        cases runP P (part f.type ys f.offset) with
        | none => rfl
        | some b =>
          simp only
          cases runP P (Op.equalIn d f.type a b) with
          | none => rfl
          | some q =>
            cases q with
            | false => rfl
            | true => exact ih
    · rw [if_neg hn, if_neg hn]
      exact ih
theorem EqW.split {xs ys : List Value} {off m k : Nat} : EqW xs ys off (m + k) ↔ EqW xs ys off m ∧ EqW xs ys (off + m) k := by
  constructor
  · intro h
    exact ⟨fun i hi => h i (by omega), fun i hi => by have := h (m + i) (by omega); rwa [Nat.add_assoc]⟩
  · rintro ⟨h1, h2⟩ i hi
    by_cases hm : i < m
    · exact h1 i hm
    · have := h2 (i - m) (by omega)
      have e : off + m + (i - m) = off + i := by omega
      rwa [e] at this
/-- What is flat has cells alone: what a part of a row is. -/
theorem flat_part {d : Nat} {t : TypeId} {m : Nat} (h : flatC P d t = some m) (hs : szT P t = some m) {xs : List Value} {off : Nat} (hx : ∀ i, i < m → ∃ v, xs[off + i]? = some v) : runP P (part t ⟨xs⟩ off) = some (partV P t xs off m) := by
  refine part_run hs ?_
  cases d with
  | zero => cases h
  | succ d =>
    unfold flatC at h; (try simp only [undQ_eq] at h)
    cases e : P.underlying t with
    | none => rw [e] at h; cases h
    | some u =>
      rw [e] at h
      cases u with
      | int k =>
        cases h
        exact .inl ⟨by unfold oneT; rw [undQ_eq, e], hx 0 (by omega)⟩
      | array n e1 => exact .inr ⟨m, by unfold aggT; rw [undQ_eq, e]; exact hs⟩
      | struct fs => exact .inr ⟨m, by unfold aggT; rw [undQ_eq, e]; exact hs⟩
      | _ => cases h
/-- Flat values held against each other. -/
theorem flat_eq_run : ∀ (d D : Nat) (t : TypeId) (m : Nat), flatC P d t = some m → szT P t = some m → d ≤ D → ∀ (xs ys : List Value) (off : Nat), Nums xs ys off m → ∀ r : Bool, (r = true ↔ EqW xs ys off m) →
    runP P (Op.equalIn D t (partV P t xs off m) (partV P t ys off m)) = some r := by
  intro d
  induction d with
  | zero => intro D t m h; cases h
  | succ d ih =>
    intro D t m h hsz hD xs ys off hN r hr
    obtain ⟨D, rfl⟩ : ∃ D', D = D' + 1 := ⟨D - 1, by omega⟩
    have hvx : ∀ o2 m2, off ≤ o2 → o2 + m2 ≤ off + m → ∀ i, i < m2 → ∃ v, xs[o2 + i]? = some v := fun o2 m2 h1 h2 i hi => by
      obtain ⟨k, a, b, e1, e2⟩ := hN.sub h1 h2 i hi
      exact ⟨_, e1⟩
    have hvy : ∀ o2 m2, off ≤ o2 → o2 + m2 ≤ off + m → ∀ i, i < m2 → ∃ v, ys[o2 + i]? = some v := fun o2 m2 h1 h2 i hi => by
      obtain ⟨k, a, b, e1, e2⟩ := hN.sub h1 h2 i hi
      exact ⟨_, e2⟩
    -- parts of a part
    have win : ∀ (zs : List Value) (o2 m2 : Nat) (t2 : TypeId), o2 + m2 ≤ m → (∀ i, i < m2 → ∃ v, zs[off + o2 + i]? = some v) → (oneT P t2 = true → 0 < m2) → partV P t2 ((zs.drop off).take m) o2 m2 = partV P t2 zs (off + o2) m2 := fun zs o2 m2 t2 h1 h2 h3 => by
      unfold partV
      cases e : oneT P t2 with
      | true =>
        rw [if_pos rfl, if_pos rfl]
        have := h3 e
        rw [List.getElem?_take_of_lt (by omega), List.getElem?_drop]
      | false =>
        rw [if_neg (by decide), if_neg (by decide), List.drop_take, List.take_take, List.drop_drop, Nat.min_eq_left (by omega)]
    have h0 := h
    unfold flatC at h; (try simp only [undQ_eq] at h)
    cases e : P.underlying t with
    | none => rw [e] at h; cases h
    | some u =>
      rw [e] at h
      cases u with
      | int k =>
        cases h
        have h1 : oneT P t = true := by unfold oneT; rw [undQ_eq, e]
        obtain ⟨k', a, b, e1, e2⟩ := hN 0 (by omega)
        rw [Nat.add_zero] at e1 e2
        unfold partV
        rw [if_pos h1, if_pos h1, e1, e2]
        show runP P (Op.equalIn (D + 1) t (.int k' a) (.int k' b)) = _
        rw [eqInt_run e]
        congr 1
        rw [Bool.eq_iff_iff, hr]
        constructor
        · intro q i hi
          have : i = 0 := by omega
          subst this
          rw [Nat.add_zero, e1, e2, eq_of_beq q]
        · intro q
          have := q 0 (by omega)
          rw [Nat.add_zero, e1, e2] at this
          cases this
          exact beq_self_eq_true _
      | array n e1 =>
        dsimp only at h
        cases h1 : flatC P d e1 with
        | none => rw [h1] at h; cases h
        | some m1 =>
          rw [h1] at h
          dsimp only at h
          cases h2 : szT P e1 with
          | none => rw [h2] at h; cases h
          | some z =>
            rw [h2] at h
            dsimp only at h
            split at h
            · rename_i hz
              cases h
              subst hz
              have h3 : oneT P t = false := by unfold oneT; rw [undQ_eq, e]
              have hv : ∀ zs : List Value, partV P t zs off (n * m1) = .agg ⟨(zs.drop off).take (n * m1)⟩ := fun zs => by unfold partV; rw [if_neg (by rw [h3]; decide)]
              rw [hv, hv]
              have hle : ∀ i, i < n → i * m1 + m1 ≤ n * m1 := fun i hi => by
                have := Nat.mul_le_mul_right m1 (show i + 1 ≤ n by omega)
                rwa [Nat.succ_mul] at this
              have inx : ∀ (zs : List Value), (∀ i, i < n * m1 → ∃ v, zs[off + i]? = some v) → ∀ i, i < n → runP P (part e1 ⟨(zs.drop off).take (n * m1)⟩ (i * m1)) = some (partV P e1 ((zs.drop off).take (n * m1)) (i * m1) m1) := fun zs hz i hi => flat_part h1 h2 fun j hj => by
                have := hle i hi
                obtain ⟨v, hv⟩ := hz (i * m1 + j) (by omega)
                exact ⟨v, by rw [List.getElem?_take_of_lt (by omega), List.getElem?_drop]; exact hv⟩
              classical
              refine arr_run D t e1 n m1 e h2 _ _ (fun i => partV P e1 ((xs.drop off).take (n * m1)) (i * m1) m1) (fun i => partV P e1 ((ys.drop off).take (n * m1)) (i * m1) m1) (fun i => decide (EqW xs ys (off + i * m1) m1)) (inx xs (hvx off _ (Nat.le_refl _) (Nat.le_refl _))) (inx ys (hvy off _ (Nat.le_refl _) (Nat.le_refl _))) (fun i hi => ?_) r ?_
              · have := hle i hi
                have pos : oneT P e1 = true → 0 < m1 := fun q => by
                  cases d with
                  | zero => cases h1
                  | succ d =>
                    unfold flatC at h1; (try simp only [undQ_eq] at h1)
                    unfold oneT at q; (try simp only [undQ_eq] at q)
                    cases e5 : P.underlying e1 with
                    | none => rw [e5] at h1; cases h1
                    | some u => rw [e5] at h1 q; cases u <;> first | (cases h1; done) | (cases q; done) | (cases h1; omega)
                rw [win xs _ _ _ this (hvx _ _ (by omega) (by omega)) pos, win ys _ _ _ this (hvy _ _ (by omega) (by omega)) pos]
                exact ih D e1 m1 h1 h2 (by omega) xs ys _ (hN.sub (by omega) (by omega)) _ (by simp)
              · rw [hr]
                constructor
                · intro q i hi
                  have := hle i hi
                  simp only [decide_eq_true_eq]
                  intro j hj
                  have := q (i * m1 + j) (by omega)
                  rwa [← Nat.add_assoc] at this
                · intro q i hi
                  by_cases hm : m1 = 0
                  · subst hm; simp at hi
                  · have h5 : i / m1 < n := (Nat.div_lt_iff_lt_mul (by omega)).2 hi
                    have := q (i / m1) h5
                    simp only [decide_eq_true_eq] at this
                    have := this (i % m1) (Nat.mod_lt _ (by omega))
                    have h6 : off + i / m1 * m1 + i % m1 = off + i := by
                      have := Nat.div_add_mod i m1
                      rw [Nat.mul_comm] at this
                      omega
                    rwa [h6] at this
            · cases h
      | struct fs =>
        dsimp only at h
        split at h
        · cases h
        · rename_i hst
          have hst' : P.stoodInHeld t = false := by simpa using hst
          have h3 : oneT P t = false := by unfold oneT; rw [undQ_eq, e]
          have hv : ∀ zs : List Value, partV P t zs off m = .agg ⟨(zs.drop off).take m⟩ := fun zs => by unfold partV; rw [if_neg (by rw [h3]; decide)]
          rw [hv, hv, struct_run D t _ _ fs e hst']
          have key : ∀ (l : List Field) (o : Nat), l.foldr (fun f (k : Nat → Option Nat) off => if f.name ≠ "_" ∧ f.offset = off then match flatC P d f.type with
              | some m => match szT P f.type with
                | some z => if m = z then k (off + m) else none
                | none => none
              | none => none
              else none) (fun off => some off) o = some m → o ≤ m ∧ ∀ q : Bool, (q = true ↔ EqW xs ys (off + o) (m - o)) → runP P (Op.eqFields D ⟨(xs.drop off).take m⟩ ⟨(ys.drop off).take m⟩ l) = some q := by
            intro l
            induction l with
            | nil =>
              intro o ho
              cases ho
              refine ⟨Nat.le_refl _, fun q hq => ?_⟩
              have : q = true := hq.2 fun i hi => by omega
              rw [this]
              rfl
            | cons f l ihl =>
              intro o ho
              rw [List.foldr_cons] at ho
              split at ho
              · rename_i hf
                cases h1 : flatC P d f.type with
                | none => rw [h1] at ho; cases ho
                | some m1 =>
                  rw [h1] at ho
                  dsimp only at ho
                  cases h2 : szT P f.type with
                  | none => rw [h2] at ho; cases ho
                  | some z =>
                    rw [h2] at ho
                    dsimp only at ho
                    split at ho
                    · rename_i hz
                      subst hz
                      obtain ⟨h5, h6⟩ := ihl _ ho
                      refine ⟨by omega, fun q hq => ?_⟩
                      have inx : ∀ (zs : List Value), (∀ i, i < m → ∃ v, zs[off + i]? = some v) → runP P (part f.type ⟨(zs.drop off).take m⟩ o) = some (partV P f.type ((zs.drop off).take m) o m1) := fun zs hz => flat_part h1 h2 fun j hj => by
                        obtain ⟨v, hv⟩ := hz (o + j) (by omega)
                        exact ⟨v, by rw [List.getElem?_take_of_lt (by omega), List.getElem?_drop]; exact hv⟩
                      have pos : oneT P f.type = true → 0 < m1 := fun q => by
                        cases d with
                        | zero => cases h1
                        | succ d =>
                          unfold flatC at h1; (try simp only [undQ_eq] at h1)
                          unfold oneT at q; (try simp only [undQ_eq] at q)
                          cases e5 : P.underlying f.type with
                          | none => rw [e5] at h1; cases h1
                          | some u => rw [e5] at h1 q; cases u <;> first | (cases h1; done) | (cases q; done) | (cases h1; omega)
                      classical
                      have h7 := ih D f.type m1 h1 h2 (by omega) xs ys (off + o) (hN.sub (by omega) (by omega)) (decide (EqW xs ys (off + o) m1)) (by simp)
                      unfold Op.eqFields
                      rw [if_pos hf.1, hf.2, runP_bind, inx xs (hvx off _ (Nat.le_refl _) (Nat.le_refl _))]
                      simp only [Option.bind]
                      rw [runP_bind, inx ys (hvy off _ (Nat.le_refl _) (Nat.le_refl _))]
                      simp only [Option.bind]
                      rw [win xs o m1 f.type (by omega) (hvx _ _ (by omega) (by omega)) pos, win ys o m1 f.type (by omega) (hvy _ _ (by omega) (by omega)) pos, runP_bind, h7]
                      simp only [Option.bind]
                      have hsp : EqW xs ys (off + o) (m - o) ↔ EqW xs ys (off + o) m1 ∧ EqW xs ys (off + (o + m1)) (m - (o + m1)) := by
                        have := EqW.split (xs := xs) (ys := ys) (off := off + o) (m := m1) (k := m - (o + m1))
                        have e7 : m1 + (m - (o + m1)) = m - o := by omega
                        rw [e7] at this
                        rwa [Nat.add_assoc off o m1] at this
                      by_cases hq1 : EqW xs ys (off + o) m1
                      · rw [decide_eq_true hq1]
                        simp only [Bool.not_true, Bool.false_eq_true, if_false]
                        exact h6 q (hq.trans (hsp.trans ⟨fun k => k.2, fun k => ⟨hq1, k⟩⟩))
                      · rw [decide_eq_false hq1]
                        simp only [Bool.not_false, if_true]
                        have : q = false := by
                          cases hqq : q with
                          | false => rfl
                          | true => exact absurd (hsp.1 (hq.1 hqq)).1 hq1
                        rw [this]
                        rfl
                    · cases ho
              · cases ho
          exact (key fs.toList 0 h).2 r (by simpa using hr)
      | _ => cases h
end
end Go.Proofs.YtmjblbgalkjmiaaGreat.EX
/- Quick ways of operations: structs and arrays of numbers held against each other; against nil; bits and shifts. -/
namespace Go.Proofs.YtmjblbgalkjmiaaGreat.EX
open Go
/-- Rows of numbers held against each other: so many, and no more. -/
def cmpK (xs : List Value) : List Value → Nat → Bool → (Bool → An) → An → An :=
  List.rec (motive := fun _ => List Value → Nat → Bool → (Bool → An) → An → An) (fun ys m f q g => Nat.rec (motive := fun _ => An) (List.rec (motive := fun _ => An) (q f) (fun _ _ _ => g) ys) (fun _ _ => g) m)
    (fun x _ ih ys m f q g => Nat.rec (motive := fun _ => An) g (fun m _ => List.rec (motive := fun _ => An) g (fun y yt _ => intV x (fun k a => intV y (fun k' b => Bool.rec (motive := fun _ => An) g (Bool.rec (motive := fun _ => An) (ih yt m false q g) (ih yt m f q g) (Nat.beq a b)) (Nat.beq (kno k) (kno k'))) g) g) ys) m) xs
def aggV (v : Value) : (List Value → An) → An → An := fun q g => cellV v q (fun _ => g)
/-- Of operations that hold flat values against each other: how many cells; whether they are to differ. -/
def flatE (P : Program) (op : BinOp) (t : TypeId) : Option (Nat × Bool) :=
  match op with
  | .eql => match flatC P 8 t with
    | some m => bif Bool.not (P.eqGuardType P.depth t) && Bool.not (oneT P t) && Nat.beq ((szT P t).getD 0) m && (aggT P t).isSome then some (m, false) else none
    | none => none
  | .neq => match flatC P 8 t with
    | some m => bif Bool.not (P.eqGuardType P.depth t) && Bool.not (oneT P t) && Nat.beq ((szT P t).getD 0) m && (aggT P t).isSome then some (m, true) else none
    | none => none
  | _ => none
def armEq (op : BinOp) (t : TypeId) (x y : Operand) : ArmT := fun P s qv _ g => Option.rec (motive := fun _ => An) g (fun p => Prod.rec (motive := fun _ => An) (fun m neg => evK s x fun v => evK s y fun u => aggV v (fun xs => aggV u (fun ys => cmpK xs ys m true (fun b => getH s fun h => Bool.rec (motive := fun _ => An) (Bool.rec (motive := fun _ => An) (qv (.bool false) h) (qv (.bool true) h) b) (Bool.rec (motive := fun _ => An) (qv (.bool true) h) (qv (.bool false) h) b) neg) g) g) g) p) (flatE P op t)
section
variable {P : Program}
variable {s : St} {qv : Value → Hp → An} {qc : FuncId → Array Value → Hp → An} {g : An} {n : Prop}
theorem cmpK_ok : ∀ {xs ys : List Value} {m : Nat} {f : Bool} {q : Bool → An}, cmpK xs ys m f q g n → g n ∨ (xs.length = m ∧ ys.length = m ∧ (∀ i, i < m → ∃ k a b, xs[i]? = some (.int k (.ofNat a)) ∧ ys[i]? = some (.int k (.ofNat b))) ∧ ∃ b, q b n ∧ (b = true ↔ f = true ∧ ∀ i, i < m → xs[i]? = ys[i]?))
  | [], ys, m, f, q, h => by
    cases m with
    | succ m => exact .inl h
    | zero =>
      cases ys with
      | cons _ _ => exact .inl h
      | nil => exact .inr ⟨rfl, rfl, fun i hi => by omega, f, h, by simp⟩
  | x :: xs, ys, m, f, q, h => by
    cases m with
    | zero => exact .inl h
    | succ m =>
      cases ys with
      | nil => exact .inl h
      | cons y ys =>
        have h : intV x (fun k a => intV y (fun k' b => Bool.rec (motive := fun _ => An) g (Bool.rec (motive := fun _ => An) (cmpK xs ys m false q g) (cmpK xs ys m f q g) (Nat.beq a b)) (Nat.beq (kno k) (kno k'))) g) g n := h
        rcases intV_ok h with h1 | ⟨k, a, ex, h1⟩
        · exact .inl h1
        · rcases intV_ok h1 with h2 | ⟨k', b, ey, h2⟩
          · exact .inl h2
          · subst ex
            subst ey
            cases hk : Nat.beq (kno k) (kno k') with
            | false => rw [hk] at h2; exact .inl h2
            | true =>
              rw [hk] at h2
              have := kno_inj hk
              subst this
              have fin : ∀ (f2 : Bool), cmpK xs ys m f2 q g n → (f2 = true ↔ f = true ∧ a = b) → g n ∨ ((Value.int k (.ofNat a) :: xs).length = m + 1 ∧ (Value.int k (.ofNat b) :: ys).length = m + 1 ∧ (∀ i, i < m + 1 → ∃ k' a' b', (Value.int k (.ofNat a) :: xs)[i]? = some (.int k' (.ofNat a')) ∧ (Value.int k (.ofNat b) :: ys)[i]? = some (.int k' (.ofNat b'))) ∧ ∃ b', q b' n ∧ (b' = true ↔ f = true ∧ ∀ i, i < m + 1 → (Value.int k (.ofNat a) :: xs)[i]? = (Value.int k (.ofNat b) :: ys)[i]?)) := fun f2 h3 hf2 => by
                rcases cmpK_ok h3 with h4 | ⟨e1, e2, e3, b', h5, h6⟩
                · exact .inl h4
                · refine .inr ⟨by simp [e1], by simp [e2], fun i hi => ?_, b', h5, ?_⟩
                  · cases i with
                    | zero => exact ⟨k, a, b, rfl, rfl⟩
                    | succ i => obtain ⟨k2, a2, b2, q1, q2⟩ := e3 i (by omega); exact ⟨k2, a2, b2, by simpa using q1, by simpa using q2⟩
                  · rw [h6, hf2]
                    constructor
                    · rintro ⟨⟨q1, q2⟩, q3⟩
                      refine ⟨q1, fun i hi => ?_⟩
                      cases i with
                      | zero => simp [q2]
                      | succ i => simpa using q3 i (by omega)
                    · rintro ⟨q1, q2⟩
                      refine ⟨⟨q1, ?_⟩, fun i hi => by simpa using q2 (i + 1) (by omega)⟩
                      have := q2 0 (by omega)
                      simp at this
                      omega
              cases hab : Nat.beq a b with
              | false =>
                rw [hab] at h2
                exact fin false h2 ⟨(fun q => by cases q), (fun q => by rw [q.2, Nat.beq_refl] at hab; cases hab)⟩
              | true =>
                rw [hab] at h2
                exact fin f h2 ⟨fun q => ⟨q, Nat.eq_of_beq_eq_true hab⟩, fun q => q.1⟩
theorem flatE_ok {op : BinOp} {t : TypeId} {m : Nat} {neg : Bool} (h : flatE P op t = some (m, neg)) : (op = .eql ∧ neg = false ∨ op = .neq ∧ neg = true) ∧ flatC P 8 t = some m ∧ P.eqGuardType P.depth t = false ∧ oneT P t = false ∧ szT P t = some m := by
  have key : ∀ (ng : Bool), (match flatC P 8 t with
    | some m => bif Bool.not (P.eqGuardType P.depth t) && Bool.not (oneT P t) && Nat.beq ((szT P t).getD 0) m && (aggT P t).isSome then some (m, ng) else none
    | none => none) = some (m, neg) → neg = ng ∧ flatC P 8 t = some m ∧ P.eqGuardType P.depth t = false ∧ oneT P t = false ∧ szT P t = some m := fun ng h => by
    cases e : flatC P 8 t with
    | none => rw [e] at h; cases h
    | some m' =>
      rw [e] at h
      dsimp only at h
      cases e2 : (Bool.not (P.eqGuardType P.depth t) && Bool.not (oneT P t) && Nat.beq ((szT P t).getD 0) m' && (aggT P t).isSome) with
      | false => rw [e2] at h; cases h
      | true =>
        rw [e2] at h
        cases h
        simp only [Bool.and_eq_true, Bool.not_eq_true'] at e2
        obtain ⟨⟨⟨q1, q2⟩, q3⟩, q4⟩ := e2
        refine ⟨rfl, rfl, q1, q2, ?_⟩
        obtain ⟨z, hz⟩ := Option.isSome_iff_exists.1 q4
        have : szT P t = some z := by
          unfold aggT at hz
          split at hz
          · exact hz
          · exact hz
          · cases hz
        rw [this] at q3 ⊢
        have q5 := Nat.eq_of_beq_eq_true q3
        exact congrArg some q5
  unfold flatE at h
  cases op with
  | eql => obtain ⟨q1, q2⟩ := key false h; exact ⟨.inl ⟨rfl, q1⟩, q2⟩
  | neq => obtain ⟨q1, q2⟩ := key true h; exact ⟨.inr ⟨rfl, q1⟩, q2⟩
  | _ => cases h
theorem armEq_pv {o : Oper} {op : BinOp} {t yt : TypeId} {x y : Operand} (ho : o.op = .binOp op t x y yt) (hst : statOK o = true) (h : armEq op t x y P s qv qc g n) : PvR P s o qv g n := by
  have hx : opdOK x = true := stat_op hst x (by rw [ho]; simp [Op.operands])
  have hy : opdOK y = true := stat_op hst y (by rw [ho]; simp [Op.operands])
  unfold armEq at h
  cases hf : flatE P op t with
  | none => rw [hf] at h; exact .inl h
  | some p =>
    obtain ⟨m, neg⟩ := p
    rw [hf] at h
    dsimp only at h
    rw [evK_eq _ _ _ hx, evK_eq _ _ _ hy] at h
    rcases cellV_ok h with ⟨xs, ex, h⟩ | ⟨_, _, h⟩
    · rcases cellV_ok h with ⟨ys, ey, h⟩ | ⟨_, _, h⟩
      · rcases cmpK_ok h with h | ⟨h1, h2, h3, b, h, hb⟩
        · exact .inl h
        · rw [getH_eq] at h
          obtain ⟨hop, f1, f2, f3, f4⟩ := flatE_ok hf
          have hN : Nums xs ys 0 m := fun i hi => by
            obtain ⟨k, a, b, q1, q2⟩ := h3 i hi
            exact ⟨k, _, _, by rw [Nat.zero_add]; exact q1, by rw [Nat.zero_add]; exact q2⟩
          have hE : b = true ↔ EqW xs ys 0 m := by
            rw [hb]
            unfold EqW
            simp
          have hrun := flat_eq_run 8 10000 t m f1 f4 (by omega) xs ys 0 hN b hE
          have hv : ∀ zs : List Value, zs.length = m → partV P t zs 0 m = .agg ⟨zs⟩ := fun zs hz => by
            unfold partV
            rw [if_neg (by rw [f3]; decide), List.drop_zero, ← hz, List.take_length]
          rw [hv xs h1, hv ys h2] at hrun
          have hcl : ∀ zs : List Value, zs.length = m → (∀ i, i < m → ∃ k a, zs[i]? = some (.int k (.ofNat a))) → closed 64 (.agg ⟨zs⟩) = true := fun zs hz hi => by
            show zs.all (closed 63) = true
            rw [List.all_eq_true]
            intro v hv
            obtain ⟨i, hi2, rfl⟩ := List.mem_iff_getElem.1 hv
            obtain ⟨k, a, q⟩ := hi i (by omega)
            rw [List.getElem?_eq_getElem hi2] at q
            have q' := Option.some.inj q
            have q'' : zs.get ⟨i, hi2⟩ = .int k (.ofNat a) := q'
            first | (rw [q'']; rfl) | (rw [q']; rfl)
          have fin : ∀ r : Bool, r = (if neg then !b else b) → qv (.bool r) s.h n → PvR P s o qv g n := fun r hr hq => by
            refine .inr ⟨.bool r, .inr ⟨?_, fun z hz => ?_, ?_, rfl⟩, hq⟩
            · rw [ho]
              rcases hop with ⟨rfl, _⟩ | ⟨rfl, _⟩ <;> simp only [okOp, ex, ey] <;> rfl
            · rw [ho] at hz
              simp [Op.operands] at hz
              rcases hz with rfl | rfl
              · rw [ex]
                exact hcl xs h1 fun i hi => by obtain ⟨k, a, _, q, _⟩ := h3 i hi; exact ⟨k, a, q⟩
              · rw [ey]
                exact hcl ys h2 fun i hi => by obtain ⟨k, _, a, _, q⟩ := h3 i hi; exact ⟨k, a, q⟩
            · obtain ⟨dst, op', type, pos, after, guard⟩ := o
              simp only at ho
              subst ho
              show runP P ((do eqGuard op t x y (s.ev x) (s.ev y); Go.binOp op t (s.ev x) (s.ev y)) >>= fun v => pure (Next.value v)) = _
              have hg : runP P (eqGuard op t x y (.agg ⟨xs⟩) (.agg ⟨ys⟩)) = some () := by
                unfold eqGuard
                rcases hop with ⟨rfl, _⟩ | ⟨rfl, _⟩
                · show runP P (if (!P.eqGuardType P.depth t) = true then _ else _) = _
                  rw [f2]
                  rfl
                · show runP P (if (!P.eqGuardType P.depth t) = true then _ else _) = _
                  rw [f2]
                  rfl
              rw [ex, ey, runP_bind, runP_bind, hg]
              simp only [Option.bind]
              rcases hop with ⟨rfl, rfl⟩ | ⟨rfl, rfl⟩
              · show (runP P (Op.equal t (.agg ⟨xs⟩) (.agg ⟨ys⟩) >>= fun b => pure (Value.bool b))).bind _ = _
                rw [runP_bind, show runP P (Op.equal t (.agg ⟨xs⟩) (.agg ⟨ys⟩)) = some b from hrun, hr]
                rfl
              · show (runP P (Op.equal t (.agg ⟨xs⟩) (.agg ⟨ys⟩) >>= fun b => pure (Value.bool (!b)))).bind _ = _
                rw [runP_bind, show runP P (Op.equal t (.agg ⟨xs⟩) (.agg ⟨ys⟩)) = some b from hrun, hr]
                rfl
          cases neg with
          | false =>
            cases b with
            | false => exact fin false rfl h
            | true => exact fin true rfl h
          | true =>
            cases b with
            | false => exact fin true rfl h
            | true => exact fin false rfl h
      · exact .inl h
    · exact .inl h
end
end Go.Proofs.YtmjblbgalkjmiaaGreat.EX
/- Quick ways of operations: bits, shifts, quotients. -/
namespace Go.Proofs.YtmjblbgalkjmiaaGreat.EX
open Go
def bitsN : IntKind → Nat
  | .i8 | .u8 => 8
  | .i16 | .u16 => 16
  | .i32 | .u32 => 32
  | .i64 | .u64 => 64
def eqKd (k k' : IntKind) (y g : An) : An := Bool.rec (motive := fun _ => An) g y (Nat.beq (kno k) (kno k'))
def ltK (a b : Nat) (y g : An) : An := Bool.rec (motive := fun _ => An) g y (Nat.ble (Nat.succ a) b)
abbrev Bin2 := IntKind → IntKind → Nat → Nat → (Value → An) → An → An
def noB : Bin2 := fun _ _ _ _ _ g => g
def quoB : Bin2 := fun k k' a b q g => eqKd k k' (ltK 0 b (fN (Nat.div a b) fun c => numK k c q g) g) g
def remB : Bin2 := fun k k' a b q g => eqKd k k' (ltK 0 b (fN (Nat.mod a b) fun c => numK k c q g) g) g
def andB : Bin2 := fun k k' a b q g => eqKd k k' (ltK a (lim k) (ltK b (lim k) (fN (Nat.land a b) fun c => numK k c q g) g) g) g
def orB : Bin2 := fun k k' a b q g => eqKd k k' (ltK a (lim k) (ltK b (lim k) (fN (Nat.lor a b) fun c => numK k c q g) g) g) g
def xorB : Bin2 := fun k k' a b q g => eqKd k k' (ltK a (lim k) (ltK b (lim k) (fN (Nat.xor a b) fun c => numK k c q g) g) g) g
def shlB : Bin2 := fun k _ a b q g => ltK b (bitsN k) (fN (Nat.mul a (Nat.pow 2 b)) fun c => numK k c q g) g
def shrB : Bin2 := fun k _ a b q g => ltK b (bitsN k) (fN (Nat.div a (Nat.pow 2 b)) fun c => numK k c q g) g
def binU (op : BinOp) : Bin2 := BinOp.rec (motive := fun _ => Bin2) noB noB noB quoB remB andB orB xorB shlB shrB noB noB noB noB noB noB noB op
def armNum (op : BinOp) (x y : Operand) : ArmT := fun _ s qv _ g => evK s x fun v => evK s y fun u => intV v (fun k a => intV u (fun k' b => binU op k k' a b (fun r => getH s fun h => qv r h) g) g) g
section
variable {P : Program}
variable {s : St} {qv : Value → Hp → An} {qc : FuncId → Array Value → Hp → An} {g : An} {n : Prop}
theorem eqKd_ok {k k' : IntKind} {y g : An} {n : Prop} (h : eqKd k k' y g n) : g n ∨ (k = k' ∧ y n) := by
  unfold eqKd at h
  cases e : Nat.beq (kno k) (kno k') with
  | false => rw [e] at h; exact .inl h
  | true => rw [e] at h; exact .inr ⟨kno_inj e, h⟩
theorem ltK_ok {a b : Nat} {y g : An} {n : Prop} (h : ltK a b y g n) : g n ∨ (a < b ∧ y n) := by
  unfold ltK at h
  cases e : Nat.ble (Nat.succ a) b with
  | false => rw [e] at h; exact .inl h
  | true => rw [e] at h; exact .inr ⟨Nat.le_of_ble_eq_true e, h⟩
theorem lim_bits (k : IntKind) : lim k ≤ 2 ^ k.bits := by cases k <;> decide
theorem bits_eq (k : IntKind) : bitsN k = k.bits := by cases k <;> rfl
theorem ofInt_nat (w a : Nat) (h : a < 2 ^ w) : (BitVec.ofInt w (Int.ofNat a)).toNat = a := by
  have : BitVec.ofInt w (Int.ofNat a) = BitVec.ofNat w a := by
    apply BitVec.eq_of_toNat_eq
    simp
  rw [this, BitVec.toNat_ofNat, Nat.mod_eq_of_lt h]
theorem binU_ok {op : BinOp} {k k' : IntKind} {a b : Nat} {q : Value → An} {g : An} {n : Prop} (t : TypeId) (h : binU op k k' a b q g n) :
    g n ∨ ∃ r, closed 64 r = true ∧ runP P (Go.binOp op t (.int k (.ofNat a)) (.int k' (.ofNat b))) = some r ∧ q r n := by
  have num : ∀ (c : Nat) (z : Int), z = Int.ofNat c → runP P (Go.binOp op t (.int k (.ofNat a)) (.int k' (.ofNat b))) = some (.int k (k.wrap z)) → numK k c q g n → g n ∨ ∃ r, closed 64 r = true ∧ runP P (Go.binOp op t (.int k (.ofNat a)) (.int k' (.ofNat b))) = some r ∧ q r n := fun c z hz hr h => by
    rcases numK_ok h with h | ⟨h1, h2⟩
    · exact .inl h
    · rw [hz, wrap_lim k c h1] at hr
      exact .inr ⟨_, rfl, hr, h2⟩
  have num' : ∀ (c : Nat) (z : Int), z = Int.ofNat c → runP P (Go.binOp op t (.int k (.ofNat a)) (.int k' (.ofNat b))) = some (.int k z) → numK k c q g n → g n ∨ ∃ r, closed 64 r = true ∧ runP P (Go.binOp op t (.int k (.ofNat a)) (.int k' (.ofNat b))) = some r ∧ q r n := fun c z hz hr h => by
    rcases numK_ok h with h | ⟨h1, h2⟩
    · exact .inl h
    · rw [hz] at hr
      exact .inr ⟨_, rfl, hr, h2⟩
  cases op with
  | quo =>
    rcases eqKd_ok (show eqKd k k' _ g n from h) with h1 | ⟨rfl, h1⟩
    · exact .inl h1
    · rcases ltK_ok h1 with h2 | ⟨hb, h2⟩
      · exact .inl h2
      · rw [fN_eq] at h2
        refine num (a / b) ((Int.ofNat a).tdiv (Int.ofNat b)) rfl ?_ h2
        have : ¬ (Int.ofNat b = 0) := by show ¬ ((b : Int) = 0); omega
        simp only [Go.binOp, Op.intDiv, ne_eq, not_true, if_false, this]
        rfl
  | rem =>
    rcases eqKd_ok (show eqKd k k' _ g n from h) with h1 | ⟨rfl, h1⟩
    · exact .inl h1
    · rcases ltK_ok h1 with h2 | ⟨hb, h2⟩
      · exact .inl h2
      · rw [fN_eq] at h2
        refine num' (a % b) ((Int.ofNat a).tmod (Int.ofNat b)) rfl ?_ h2
        have : ¬ (Int.ofNat b = 0) := by show ¬ ((b : Int) = 0); omega
        simp only [Go.binOp, Op.intDiv, ne_eq, not_true, if_false, this]
        rfl
  | and =>
    rcases eqKd_ok (show eqKd k k' _ g n from h) with h1 | ⟨rfl, h1⟩
    · exact .inl h1
    · rcases ltK_ok h1 with h2 | ⟨ha, h2⟩
      · exact .inl h2
      · rcases ltK_ok h2 with h3 | ⟨hb, h3⟩
        · exact .inl h3
        · rw [fN_eq] at h3
          have := lim_bits k
          refine num (a &&& b) (Int.ofNat (BitVec.ofInt k.bits (Int.ofNat a) &&& BitVec.ofInt k.bits (Int.ofNat b)).toNat) ?_ ?_ h3
          · rw [BitVec.toNat_and, ofInt_nat _ _ (by omega), ofInt_nat _ _ (by omega)]
          · simp only [Go.binOp, Op.intBits, ne_eq, not_true, if_false]
            rfl
  | or =>
    rcases eqKd_ok (show eqKd k k' _ g n from h) with h1 | ⟨rfl, h1⟩
    · exact .inl h1
    · rcases ltK_ok h1 with h2 | ⟨ha, h2⟩
      · exact .inl h2
      · rcases ltK_ok h2 with h3 | ⟨hb, h3⟩
        · exact .inl h3
        · rw [fN_eq] at h3
          have := lim_bits k
          refine num (a ||| b) (Int.ofNat (BitVec.ofInt k.bits (Int.ofNat a) ||| BitVec.ofInt k.bits (Int.ofNat b)).toNat) ?_ ?_ h3
          · rw [BitVec.toNat_or, ofInt_nat _ _ (by omega), ofInt_nat _ _ (by omega)]
          · simp only [Go.binOp, Op.intBits, ne_eq, not_true, if_false]
            rfl
  | xor =>
    rcases eqKd_ok (show eqKd k k' _ g n from h) with h1 | ⟨rfl, h1⟩
    · exact .inl h1
    · rcases ltK_ok h1 with h2 | ⟨ha, h2⟩
      · exact .inl h2
      · rcases ltK_ok h2 with h3 | ⟨hb, h3⟩
        · exact .inl h3
        · rw [fN_eq] at h3
          have := lim_bits k
          refine num (a ^^^ b) (Int.ofNat (BitVec.ofInt k.bits (Int.ofNat a) ^^^ BitVec.ofInt k.bits (Int.ofNat b)).toNat) ?_ ?_ h3
          · rw [BitVec.toNat_xor, ofInt_nat _ _ (by omega), ofInt_nat _ _ (by omega)]
          · simp only [Go.binOp, Op.intBits, ne_eq, not_true, if_false]
            rfl
  | shl =>
    rcases ltK_ok (show ltK b (bitsN k) _ g n from h) with h | ⟨hb, h⟩
    · exact .inl h
    · rw [fN_eq] at h
      rw [bits_eq] at hb
      refine num (a * 2 ^ b) (Int.ofNat a * 2 ^ b) ?_ ?_ h
      · show (a : Int) * 2 ^ b = ((a * 2 ^ b : Nat) : Int)
        simp
      · have e1 : ¬ (Int.ofNat b < 0) := by show ¬ ((b : Int) < 0); omega
        have e2 : min (Int.ofNat b).toNat k.bits = b := by show min b k.bits = b; omega
        simp only [Go.binOp, Op.shift, e1, if_false, e2]
        rfl
  | shr =>
    rcases ltK_ok (show ltK b (bitsN k) _ g n from h) with h | ⟨hb, h⟩
    · exact .inl h
    · rw [fN_eq] at h
      rw [bits_eq] at hb
      refine num' (a / 2 ^ b) ((Int.ofNat a).fdiv (2 ^ b)) ?_ ?_ h
      · show (a : Int).fdiv (2 ^ b) = ((a / 2 ^ b : Nat) : Int)
        have : ((2 : Int) ^ b) = ((2 ^ b : Nat) : Int) := by simp
        rw [this, Int.ofNat_fdiv]
      · have e1 : ¬ (Int.ofNat b < 0) := by show ¬ ((b : Int) < 0); omega
        have e2 : min (Int.ofNat b).toNat k.bits = b := by show min b k.bits = b; omega
        simp only [Go.binOp, Op.shift, e1, if_false, e2]
        rfl
  | _ => exact .inl h
theorem pv_bin2 {o : Oper} {op : BinOp} {t yt : TypeId} {x y : Operand} (ho : o.op = .binOp op t x y yt) {k k' : IntKind} {a b : Nat} (ex : s.ev x = .int k (.ofNat a)) (ey : s.ev y = .int k' (.ofNat b)) {r : Value} (hr : runP P (Go.binOp op t (.int k (.ofNat a)) (.int k' (.ofNat b))) = some r) (hc : closed 64 r = true) : PV P s.ev o r := by
  obtain ⟨dst, o', type, pos, after, guard⟩ := o
  simp only at ho
  subst ho
  refine .inr ⟨by cases op <;> first | rfl | (simp only [okOp, ex, ey]; rfl), fun z hz => ?_, ?_, hc⟩
  · simp [Op.operands] at hz
    rcases hz with rfl | rfl
    · rw [ex]; rfl
    · rw [ey]; rfl
  · show runP P ((do eqGuard op t x y (s.ev x) (s.ev y); Go.binOp op t (s.ev x) (s.ev y)) >>= fun v => pure (Next.value v)) = _
    have e2 : eqGuard op t x y (.int k (.ofNat a)) (.int k' (.ofNat b)) = pure () := by
      unfold eqGuard
      cases op <;> rfl
    rw [ex, ey, e2, runP_bind]
    show (runP P (Go.binOp op t (.int k (.ofNat a)) (.int k' (.ofNat b)))).bind _ = _
    rw [hr]
    rfl
theorem armNum_pv {o : Oper} {op : BinOp} {t yt : TypeId} {x y : Operand} (ho : o.op = .binOp op t x y yt) (hst : statOK o = true) (h : armNum op x y P s qv qc g n) : PvR P s o qv g n := by
  have hx : opdOK x = true := stat_op hst x (by rw [ho]; simp [Op.operands])
  have hy : opdOK y = true := stat_op hst y (by rw [ho]; simp [Op.operands])
  unfold armNum at h
  rw [evK_eq _ _ _ hx, evK_eq _ _ _ hy] at h
  rcases intV_ok h with h | ⟨k, a, ex, h⟩
  · exact .inl h
  · rcases intV_ok h with h | ⟨k', b, ey, h⟩
    · exact .inl h
    · rcases binU_ok t h with h | ⟨r, h1, h2, h3⟩
      · exact .inl h
      · rw [getH_eq] at h3
        exact .inr ⟨_, pv_bin2 ho ex ey h2 h1, h3⟩
/-! ### Against nil -/
/-- What is held against nil: 1: a pointer; 2: a slice. -/
def nilT (P : Program) (op : BinOp) (t : TypeId) : Option (Bool × Bool) :=
  match op with
  | .eql => match undQ P t with
    | some (.pointer _) => some (true, false)
    | some (.slice _) => some (false, false)
    | _ => none
  | .neq => match undQ P t with
    | some (.pointer _) => some (true, true)
    | some (.slice _) => some (false, true)
    | _ => none
  | _ => none
end
end Go.Proofs.YtmjblbgalkjmiaaGreat.EX
/- Quick ways of operations: against nil; parts of slices. -/
namespace Go.Proofs.YtmjblbgalkjmiaaGreat.EX
open Go
def ptrO (v : Value) : (Bool → An) → An → An :=
  Value.rec (motive_1 := fun _ => (Bool → An) → An → An) (motive_2 := fun _ => Unit) (motive_3 := fun _ => Unit) (fun _ _ g => g) (fun _ _ _ g => g) (fun _ _ _ g => g) (fun _ _ _ _ g => g) (fun _ _ g => g)
    (fun a q _ => Option.rec (motive := fun _ => An) (q true) (fun _ => q false) a)
    (fun _ _ _ _ g => g) (fun _ _ g => g) (fun _ _ g => g) (fun _ _ _ _ _ _ g => g) (fun _ g => g) (fun _ _ _ _ g => g) (fun _ g => g) (fun _ _ _ g => g) (fun _ _ _ g => g) (fun _ _ => ()) () (fun _ _ _ _ => ()) v
/-- A slice, whole. -/
def slcV (v : Value) : (Option Addr → Nat → Nat → An) → An → An :=
  Value.rec (motive_1 := fun _ => (Option Addr → Nat → Nat → An) → An → An) (motive_2 := fun _ => Unit) (motive_3 := fun _ => Unit) (fun _ _ g => g) (fun _ _ _ g => g) (fun _ _ _ g => g) (fun _ _ _ _ g => g) (fun _ _ g => g)
    (fun _ _ g => g)
    (fun a n c q _ => q a n c) (fun _ _ g => g) (fun _ _ g => g) (fun _ _ _ _ _ _ g => g) (fun _ g => g) (fun _ _ _ _ g => g) (fun _ g => g) (fun _ _ _ g => g) (fun _ _ _ g => g) (fun _ _ => ()) () (fun _ _ _ _ => ()) v
def noneB (a : Option Addr) (q : Bool → An) : An := Option.rec (motive := fun _ => An) (q true) (fun _ => q false) a
def nilF (neg a b : Bool) (q : Value → An) (g : An) : An :=
  Bool.rec (motive := fun _ => An) (Bool.rec (motive := fun _ => An) g (Bool.rec (motive := fun _ => An) (q (.bool false)) (q (.bool true)) neg) a) (Bool.rec (motive := fun _ => An) (Bool.rec (motive := fun _ => An) (q (.bool false)) (q (.bool true)) a) (Bool.rec (motive := fun _ => An) (q (.bool true)) (q (.bool false)) a) neg) b
def armNilE (op : BinOp) (t : TypeId) (x y : Operand) : ArmT := fun P s qv _ g => Option.rec (motive := fun _ => An) g (fun p => Prod.rec (motive := fun _ => An) (fun isP neg => evK s x fun v => evK s y fun u => Bool.rec (motive := fun _ => An)
  (slcV v (fun a _ _ => slcV u (fun b _ _ => noneB a fun a => noneB b fun b => nilF neg a b (fun r => getH s fun h => qv r h) g) g) g)
  (ptrO v (fun a => ptrO u (fun b => nilF neg a b (fun r => getH s fun h => qv r h) g) g) g) isP) p) (nilT P op t)
def slT (P : Program) (t : TypeId) : Option Nat :=
  match undQ P t with
  | some (.slice e) => match szT P e with
    | some (z + 1) => some (z + 1)
    | _ => none
  | _ => none
def boundK (s : St) (o : Option Operand) (d : Nat) (q : Nat → An) (g : An) : An := Option.rec (motive := fun _ => An) (q d) (fun x => evK s x fun v => intV v (fun _ i => q i) g) o
/-- From the beginning on, or of a block that isn't an append's. -/
def evA (lo : Option Operand) (a : Option Addr) (y g : An) : An := Option.rec (motive := fun _ => An) y (fun _ => Option.rec (motive := fun _ => An) y (fun a => Addr.rec (motive := fun _ => An) (fun b _ _ => Bool.rec (motive := fun _ => An) g y (Nat.beq (Nat.mod b 2) 0)) a) a) lo
theorem evA_ok {lo : Option Operand} {a : Option Addr} {y g : An} {n : Prop} (h : evA lo a y g n) (ev : Operand → Value) (m c : Nat) : g n ∨ ((evenB (.slice a m c) || (lo.map ev).isNone) = true ∧ y n) := by
  cases lo with
  | none => exact .inr ⟨by simp, h⟩
  | some lo => cases a with
    | none => exact .inr ⟨rfl, h⟩
    | some a =>
      obtain ⟨b, o, sp⟩ := a
      have h : (Bool.rec (motive := fun _ => An) g y (Nat.beq (Nat.mod b 2) 0)) n := h
      cases e : Nat.beq (Nat.mod b 2) 0 with
      | false => rw [e] at h; exact .inl h
      | true =>
        rw [e] at h
        refine .inr ⟨?_, h⟩
        show (Nat.beq (b % 2) 0 || _) = true
        rw [show Nat.beq (b % 2) 0 = true from e]
        rfl
def armSlice (t : TypeId) (x : Operand) (lo hi mx : Option Operand) : ArmT := fun P s qv _ g => Option.rec (motive := fun _ => An) (Option.rec (motive := fun _ => An) g (fun z => evK s x fun v => slcV v (fun a n c => evA lo a (boundK s hi n (fun h => boundK s lo 0 (fun l =>
  Bool.rec (motive := fun _ => An) g (Bool.rec (motive := fun _ => An) g (Bool.rec (motive := fun _ => An) g (fN (Nat.sub h l) fun n2 => fN (Nat.sub c l) fun c2 => getH s fun hp => Option.rec (motive := fun _ => An) (qv (.slice none n2 c2) hp) (fun a => Addr.rec (motive := fun _ => An) (fun b o sp => Option.rec (motive := fun _ => An)
    (Bool.rec (motive := fun _ => An) (fN (Nat.add o (Nat.mul l z)) fun o => qv (.slice (some ⟨b, o, none⟩) n2 c2) hp) (qv (.slice (some ⟨b, o, none⟩) n2 c2) hp) (Nat.beq c l)) (fun _ => g) sp) a) a) (Nat.ble l h)) (Nat.ble h c)) (Nat.ble n c)) g) g) g) g) (slT P t)) (fun _ => g) mx
section
variable {P : Program}
variable {s : St} {qv : Value → Hp → An} {qc : FuncId → Array Value → Hp → An} {g : An} {n : Prop}
theorem ptrO_ok {v : Value} {q : Bool → An} {g : An} {n : Prop} (h : ptrO v q g n) : g n ∨ ∃ a : Option Addr, v = .pointer a ∧ q a.isNone n := by
  cases v with
  | pointer a => cases a <;> exact .inr ⟨_, rfl, h⟩
  | _ => exact .inl h
theorem slcV_ok {v : Value} {q : Option Addr → Nat → Nat → An} {g : An} {n : Prop} (h : slcV v q g n) : g n ∨ ∃ a m c, v = .slice a m c ∧ q a m c n := by
  cases v with
  | slice a m c => exact .inr ⟨a, m, c, rfl, h⟩
  | _ => exact .inl h
theorem noneB_eq (a : Option Addr) (q : Bool → An) : noneB a q = q a.isNone := by cases a <;> rfl
theorem nilF_ok {neg a b : Bool} {q : Value → An} {g : An} {n : Prop} (h : nilF neg a b q g n) : g n ∨ ((a = true ∨ b = true) ∧ q (.bool (xor neg (a && b))) n) := by
  cases neg <;> cases a <;> cases b <;> first | exact .inl h | exact .inr ⟨.inl rfl, h⟩ | exact .inr ⟨.inr rfl, h⟩
theorem nilT_ok {op : BinOp} {t : TypeId} {isP neg : Bool} (h : nilT P op t = some (isP, neg)) : (op = .eql ∧ neg = false ∨ op = .neq ∧ neg = true) ∧ ((isP = true ∧ ∃ e, P.underlying t = some (.pointer e)) ∨ (isP = false ∧ ∃ e, P.underlying t = some (.slice e))) := by
  unfold nilT at h; (try simp only [undQ_eq] at h)
  cases op with
  | eql =>
    cases e : P.underlying t with
    | none => rw [e] at h; cases h
    | some d => rw [e] at h; cases d <;> first | (cases h; done) | (cases h; exact ⟨.inl ⟨rfl, rfl⟩, .inl ⟨rfl, _, rfl⟩⟩) | (cases h; exact ⟨.inl ⟨rfl, rfl⟩, .inr ⟨rfl, _, rfl⟩⟩)
  | neq =>
    cases e : P.underlying t with
    | none => rw [e] at h; cases h
    | some d => rw [e] at h; cases d <;> first | (cases h; done) | (cases h; exact ⟨.inr ⟨rfl, rfl⟩, .inl ⟨rfl, _, rfl⟩⟩) | (cases h; exact ⟨.inr ⟨rfl, rfl⟩, .inr ⟨rfl, _, rfl⟩⟩)
  | _ => cases h
theorem eq_ptr {t e : TypeId} (ht : P.underlying t = some (.pointer e)) (a b : Option Addr) (h : a.isNone = true ∨ b.isNone = true) : runP P (Op.equal t (.pointer a) (.pointer b)) = some (a.isNone && b.isNone) := by
  show runP P (Op.equalIn (9999 + 1) t (.pointer a) (.pointer b)) = _
  unfold Op.equalIn
  rw [runP_bind, runP_und, ht]
  cases a with
  | none => cases b <;> rfl
  | some a => cases b with
    | none => rfl
    | some b => rcases h with h | h <;> cases h
theorem eq_sli {t e : TypeId} (ht : P.underlying t = some (.slice e)) (a b : Option Addr) (i j k l : Nat) (h : a.isNone = true ∨ b.isNone = true) : runP P (Op.equal t (.slice a i j) (.slice b k l)) = some (a.isNone && b.isNone) := by
  show runP P (Op.equalIn (9999 + 1) t (.slice a i j) (.slice b k l)) = _
  unfold Op.equalIn
  rw [runP_bind, runP_und, ht]
  cases a with
  | none => cases b <;> rfl
  | some a => cases b with
    | none => rfl
    | some b => rcases h with h | h <;> cases h
theorem armNilE_pv {o : Oper} {op : BinOp} {t yt : TypeId} {x y : Operand} (ho : o.op = .binOp op t x y yt) (hst : statOK o = true) (h : armNilE op t x y P s qv qc g n) : PvR P s o qv g n := by
  have hx : opdOK x = true := stat_op hst x (by rw [ho]; simp [Op.operands])
  have hy : opdOK y = true := stat_op hst y (by rw [ho]; simp [Op.operands])
  unfold armNilE at h
  cases hf : nilT P op t with
  | none => rw [hf] at h; exact .inl h
  | some p =>
    obtain ⟨isP, neg⟩ := p
    rw [hf] at h
    dsimp only at h
    rw [evK_eq _ _ _ hx, evK_eq _ _ _ hy] at h
    obtain ⟨hop, hty⟩ := nilT_ok hf
    have fin : ∀ (a b : Bool), runP P (Op.equal t (s.ev x) (s.ev y)) = some (a && b) → (nilPair (s.ev x) (s.ev y) = true ∨ (nilPair (s.ev x) (s.ev y) = false ∧ closed 64 (s.ev x) = true ∧ closed 64 (s.ev y) = true)) → (∀ op', eqGuard op' t x y (s.ev x) (s.ev y) = pure ()) →
        (Go.binOp .eql t (s.ev x) (s.ev y) = (Op.equal t (s.ev x) (s.ev y) >>= fun b => pure (.bool b)) ∧ Go.binOp .neq t (s.ev x) (s.ev y) = (Op.equal t (s.ev x) (s.ev y) >>= fun b => pure (.bool (!b)))) → qv (.bool (xor neg (a && b))) s.h n → PvR P s o qv g n := fun a b hr hn hg hb hq => by
      have hrun : runP P (execOp s.ev o) = some (.value (.bool (xor neg (a && b)))) := by
        obtain ⟨dst, op', type, pos, after, guard⟩ := o
        simp only at ho
        subst ho
        show runP P ((do eqGuard op t x y (s.ev x) (s.ev y); Go.binOp op t (s.ev x) (s.ev y)) >>= fun v => pure (Next.value v)) = _
        rw [hg op, runP_bind]
        rcases hop with ⟨rfl, rfl⟩ | ⟨rfl, rfl⟩
        · show (runP P (Go.binOp .eql t (s.ev x) (s.ev y))).bind _ = _
          rw [hb.1, runP_bind, hr]
          simp [runP, pure]
        · show (runP P (Go.binOp .neq t (s.ev x) (s.ev y))).bind _ = _
          rw [hb.2, runP_bind, hr]
          simp [runP, pure]
      have hokq : okOp P s.ev o.op = nilPair (s.ev x) (s.ev y) := by
        rw [ho]
        rcases hop with ⟨rfl, _⟩ | ⟨rfl, _⟩ <;> rfl
      rcases hn with hn | ⟨hn, c1, c2⟩
      · exact .inr ⟨_, .inl ⟨by rw [hokq, hn], hrun⟩, hq⟩
      · refine .inr ⟨_, .inr ⟨by rw [hokq, hn], fun z hz => ?_, hrun, rfl⟩, hq⟩
        rw [ho] at hz
        simp [Op.operands] at hz
        rcases hz with rfl | rfl
        · exact c1
        · exact c2
    cases isP with
    | false =>
      obtain ⟨e, he⟩ : ∃ e, P.underlying t = some (.slice e) := by rcases hty with ⟨q, _⟩ | ⟨_, q⟩; cases q; exact q
      dsimp only at h
      rcases slcV_ok h with h | ⟨a, i, j, ex, h⟩
      · exact .inl h
      · rcases slcV_ok h with h | ⟨b, k, l, ey, h⟩
        · exact .inl h
        · rw [noneB_eq, noneB_eq] at h
          rcases nilF_ok h with h | ⟨hab, h⟩
          · exact .inl h
          · rw [getH_eq] at h
            refine fin a.isNone b.isNone (by rw [ex, ey]; exact eq_sli he a b i j k l hab) ?_ (fun op' => by rw [ex, ey]; unfold eqGuard; cases op' <;> rfl) (by rw [ex, ey]; exact ⟨rfl, rfl⟩) h
            rw [ex, ey]
            cases a <;> cases b <;> first | exact .inl rfl | exact .inr ⟨rfl, rfl, rfl⟩ | (rcases hab with q | q <;> cases q)
    | true =>
      obtain ⟨e, he⟩ : ∃ e, P.underlying t = some (.pointer e) := by rcases hty with ⟨_, q⟩ | ⟨q, _⟩; exact q; cases q
      dsimp only at h
      rcases ptrO_ok h with h | ⟨a, ex, h⟩
      · exact .inl h
      · rcases ptrO_ok h with h | ⟨b, ey, h⟩
        · exact .inl h
        · rcases nilF_ok h with h | ⟨hab, h⟩
          · exact .inl h
          · rw [getH_eq] at h
            refine fin a.isNone b.isNone (by rw [ex, ey]; exact eq_ptr he a b hab) ?_ (fun op' => by rw [ex, ey]; unfold eqGuard; cases op' <;> rfl) (by rw [ex, ey]; exact ⟨rfl, rfl⟩) h
            rw [ex, ey]
            cases a <;> cases b <;> first | exact .inl rfl | exact .inr ⟨rfl, rfl, rfl⟩ | (rcases hab with q | q <;> cases q)
end
end Go.Proofs.YtmjblbgalkjmiaaGreat.EX
/- Quick ways of operations: parts of slices, elements of arrays, type assertions. -/
namespace Go.Proofs.YtmjblbgalkjmiaaGreat.EX
open Go
def elT (P : Program) (t : TypeId) : Option (Nat × Nat) :=
  match undQ P t with
  | some (.array n e) => bif oneT P e then match szT P e with
    | some z => some (n, z)
    | none => none
    else none
  | _ => none
def armIdx (t : TypeId) (x i : Operand) : ArmT := fun P s qv _ g => Option.rec (motive := fun _ => An) g (fun p => Prod.rec (motive := fun _ => An) (fun len z => evK s x fun v => evK s i fun u => intV u (fun _ m => Bool.rec (motive := fun _ => An) g (aggV v (fun cs => nthK cs (Nat.mul m z) fun r => Option.rec (motive := fun _ => An) g (fun r => getH s fun h => qv r h) r) g) (Nat.ble (Nat.succ m) len)) g) p) (elT P t)
/-- Types that are asserted, other than interfaces: their zero. -/
def asT (P : Program) (t : TypeId) : Option Value :=
  match undQ P t with
  | some (.interface _) | none => none
  | some _ => zrT P t
def ifcV (v : Value) : (TypeId → Value → An) → An → An :=
  Value.rec (motive_1 := fun _ => (TypeId → Value → An) → An → An) (motive_2 := fun _ => Unit) (motive_3 := fun _ => Unit) (fun _ _ g => g) (fun _ _ _ g => g) (fun _ _ _ g => g) (fun _ _ _ _ g => g) (fun _ _ g => g)
    (fun _ _ g => g)
    (fun _ _ _ _ g => g) (fun _ _ g => g) (fun _ _ g => g) (fun _ _ _ _ _ _ g => g) (fun _ g => g) (fun t x _ q _ => q t x) (fun _ g => g) (fun _ _ _ g => g) (fun _ _ _ g => g) (fun _ _ => ()) () (fun _ _ _ _ => ()) v
def armAss (x : Operand) (_xt t : TypeId) (ok : Bool) : ArmT := fun P s qv _ g => Bool.rec (motive := fun _ => An) g (Option.rec (motive := fun _ => An) g (fun z => evK s x fun v => ifcV v (fun t' u => getH s fun h => Bool.rec (motive := fun _ => An) (qv (.tuple ⟨[z, .bool false]⟩) h) (qv (.tuple ⟨[u, .bool true]⟩) h) (Nat.beq t' t)) g) (asT P t)) ok
def armBins (op : BinOp) (t : TypeId) (x y : Operand) (yt : TypeId) : ArmT := fun P s qv qc g => armBin op t x y yt P s qv qc (armNum op x y P s qv qc (armNilE op t x y P s qv qc (armEq op t x y P s qv qc g)))
section
variable {P : Program}
variable {s : St} {qv : Value → Hp → An} {qc : FuncId → Array Value → Hp → An} {g : An} {n : Prop}
theorem armBins_pv {o : Oper} {op : BinOp} {t yt : TypeId} {x y : Operand} (ho : o.op = .binOp op t x y yt) (hst : statOK o = true) (h : armBins op t x y yt P s qv qc g n) : PvR P s o qv g n := by
  rcases armBin_pv (qc := qc) ho hst h with h | h
  · rcases armNum_pv (qc := qc) ho hst h with h | h
    · rcases armNilE_pv (qc := qc) ho hst h with h | h
      · exact armEq_pv (qc := qc) ho hst h
      · exact .inr h
    · exact .inr h
  · exact .inr h
theorem boundK_ok {o : Option Operand} {d : Nat} {q : Nat → An} {g : An} {n : Prop} (ho : ∀ x, o = some x → opdOK x = true) (h : boundK s o d q g n) : g n ∨ ∃ i, q i n ∧ ((o = none ∧ i = d) ∨ ∃ x k, o = some x ∧ s.ev x = .int k (.ofNat i)) := by
  cases o with
  | none => exact .inr ⟨d, h, .inl ⟨rfl, rfl⟩⟩
  | some x =>
    have h : evK s x (fun v => intV v (fun _ i => q i) g) n := h
    rw [evK_eq _ _ _ (ho x rfl)] at h
    rcases intV_ok h with h | ⟨k, i, e, h⟩
    · exact .inl h
    · exact .inr ⟨i, h, .inr ⟨x, k, rfl, e⟩⟩
theorem bound_run (k : IntKind) (i y : Nat) (c : BoundsCode) (h : i ≤ y) : runP P (Instr.sliceBound (.int k (.ofNat i)) y c) = some i := by
  unfold Instr.sliceBound
  rw [runP_bind, asIntOf_run]
  simp only [Option.bind]
  have : (0 : Int) ≤ Int.ofNat i ∧ Int.ofNat i ≤ (y : Int) := ⟨Int.natCast_nonneg i, by show (i : Int) ≤ y; omega⟩
  rw [if_pos this]
  rfl
theorem bounds_run (len cap l h : Nat) (lo hi : Option Value) (hl : (lo = none ∧ l = 0) ∨ ∃ k, lo = some (.int k (.ofNat l))) (hh : (hi = none ∧ h = len) ∨ ∃ k, hi = some (.int k (.ofNat h))) (h1 : l ≤ h) (h2 : h ≤ cap) : runP P (Instr.sliceBounds true len cap lo hi none) = some (l, h, cap) := by
  have pp : ∀ {α : Type} (a : α), runP P (pure a : Sem α) = some a := fun _ => rfl
  unfold Instr.sliceBounds
  rcases hh with ⟨rfl, rfl⟩ | ⟨k, rfl⟩
  · rcases hl with ⟨rfl, rfl⟩ | ⟨k, rfl⟩
    · simp [pp]
    · have b1 : runP P (Instr.sliceBound (.int k (l : Int)) h .sliceB) = some l := bound_run k l h _ h1
      simp only [Int.ofNat_eq_natCast, pure_bind, Option.isSome_none, Bool.false_eq_true, if_false, runP_bind, b1, Option.bind, pp]
  · rcases hl with ⟨rfl, rfl⟩ | ⟨k', rfl⟩
    · have b2 : runP P (Instr.sliceBound (.int k (h : Int)) cap .sliceAcap) = some h := bound_run k h cap _ h2
      simp only [Int.ofNat_eq_natCast, if_true, pure_bind, runP_bind, b2, Option.bind, pp]
    · have b1 : runP P (Instr.sliceBound (.int k' (l : Int)) h .sliceB) = some l := bound_run k' l h _ h1
      have b2 : runP P (Instr.sliceBound (.int k (h : Int)) cap .sliceAcap) = some h := bound_run k h cap _ h2
      simp only [Int.ofNat_eq_natCast, if_true, pure_bind, Option.isSome_none, Bool.false_eq_true, if_false, runP_bind, b1, b2, Option.bind, pp]
theorem armSlice_pv {o : Oper} {t : TypeId} {x : Operand} {lo hi mx : Option Operand} (ho : o.op = .slice t x lo hi mx) (hst : statOK o = true) (h : armSlice t x lo hi mx P s qv qc g n) : PvR P s o qv g n := by
  have hx : opdOK x = true := stat_op hst x (by rw [ho]; simp [Op.operands])
  have hlo : ∀ y, lo = some y → opdOK y = true := fun y e => stat_op hst y (by rw [ho, e]; simp [Op.operands])
  have hhi : ∀ y, hi = some y → opdOK y = true := fun y e => stat_op hst y (by rw [ho, e]; simp [Op.operands])
  cases mx with
  | some _ => exact .inl h
  | none =>
    unfold armSlice at h
    dsimp only at h
    cases hs : slT P t with
    | none => rw [hs] at h; exact .inl h
    | some z =>
      rw [hs] at h
      dsimp only at h
      obtain ⟨e, ht, hz, hz0⟩ : ∃ e, P.underlying t = some (.slice e) ∧ szT P e = some z ∧ 0 < z := by
        unfold slT at hs; (try simp only [undQ_eq] at hs)
        cases e1 : P.underlying t with
        | none => rw [e1] at hs; cases hs
        | some d =>
          rw [e1] at hs
          cases d with
          | slice e =>
            dsimp only at hs
            cases e2 : szT P e with
            | none => rw [e2] at hs; cases hs
            | some m =>
              rw [e2] at hs
              cases m with
              | zero => cases hs
              | succ m => cases hs; exact ⟨e, rfl, e2, by omega⟩
          | _ => cases hs
      rw [evK_eq _ _ _ hx] at h
      rcases slcV_ok h with h | ⟨a, m, c, ev, h⟩
      · exact .inl h
      rcases evA_ok h s.ev m c with h | ⟨hevn, h⟩
      · exact .inl h
      · rcases boundK_ok hhi h with h | ⟨hI, h, hhv⟩
        · exact .inl h
        · rcases boundK_ok hlo h with h | ⟨lI, h, hlv⟩
          · exact .inl h
          · cases b1 : Nat.ble m c with
            | false => rw [b1] at h; exact .inl h
            | true =>
              rw [b1] at h
              dsimp only at h
              cases b2 : Nat.ble hI c with
              | false => rw [b2] at h; exact .inl h
              | true =>
                rw [b2] at h
                dsimp only at h
                cases b3 : Nat.ble lI hI with
                | false => rw [b3] at h; exact .inl h
                | true =>
                  rw [b3] at h
                  dsimp only at h
                  rw [fN_eq, fN_eq, getH_eq] at h
                  have l1 := Nat.le_of_ble_eq_true b1
                  have l2 := Nat.le_of_ble_eq_true b2
                  have l3 := Nat.le_of_ble_eq_true b3
                  have hok : okOp P s.ev o.op = true := by
                    rw [ho]
                    show (sliceOK (s.ev x) (lo.map s.ev) (hi.map s.ev) none && !cap0 (s.ev x) none) = true
                    have hc0 : cap0 (s.ev x) none = false := by unfold cap0; split <;> first | rfl | (rename_i q; cases q)
                    rw [hc0, Bool.not_false, Bool.and_true]
                    unfold sliceOK
                    rw [ev, hevn]
                    simp only [Bool.true_and, Option.isSome_none, Bool.false_eq_true, if_false, Bool.and_eq_true, decide_eq_true_eq]
                    refine ⟨l1, ?_⟩
                    rcases hhv with ⟨rfl, _⟩ | ⟨y, k, rfl, e1⟩
                    · rfl
                    · show capOK c (some (s.ev y)) = true
                      rw [e1]
                      simp only [capOK, Bool.and_eq_true, decide_eq_true_eq]
                      exact ⟨Int.natCast_nonneg hI, by show (hI : Int) ≤ c; omega⟩
                  have hm : execOp s.ev o = (Instr.sliceAt t (s.ev x) (lo.map s.ev) (hi.map s.ev) none >>= fun v => pure (.value v)) := by
                    obtain ⟨dst, op, type, pos, after, guard⟩ := o
                    simp only at ho
                    subst ho
                    rfl
                  have hb : runP P (Instr.sliceBounds true m c (lo.map s.ev) (hi.map s.ev) none) = some (lI, hI, c) := by
                    refine bounds_run m c lI hI _ _ ?_ ?_ l3 l2
                    · rcases hlv with ⟨rfl, q⟩ | ⟨y, k, rfl, e1⟩
                      · exact .inl ⟨rfl, q⟩
                      · exact .inr ⟨k, by simp [e1]⟩
                    · rcases hhv with ⟨rfl, q⟩ | ⟨y, k, rfl, e1⟩
                      · exact .inl ⟨rfl, q⟩
                      · exact .inr ⟨k, by simp [e1]⟩
                  have hrun : ∀ a' : Option Addr, a' = (if c = lI then a else a.map (·.add (lI * z))) → runP P (Instr.sliceAt t (s.ev x) (lo.map s.ev) (hi.map s.ev) none) = some (.slice a' (hI - lI) (c - lI)) := fun a' ha => by
                    unfold Instr.sliceAt
                    rw [runP_bind, runP_und, ht, ev]
                    simp only [Option.bind]
                    unfold Instr.slice
                    rw [runP_bind, runP_und, ht]
                    simp only [Option.bind]
                    rw [runP_bind, hb]
                    simp only [Option.bind]
                    rw [runP_bind, szT_ok hz, ha]
                    rfl
                  cases a with
                  | none => exact .inr ⟨_, pv_tree hok hm (hrun none (by split <;> rfl)), h⟩
                  | some a =>
                    obtain ⟨b, o2, sp⟩ := a
                    cases sp with
                    | some _ => exact .inl h
                    | none =>
                      dsimp only at h
                      cases b4 : Nat.beq c lI with
                      | true =>
                        rw [b4] at h
                        have := Nat.eq_of_beq_eq_true b4
                        exact .inr ⟨_, pv_tree hok hm (hrun (some ⟨b, o2, none⟩) (by rw [if_pos this])), h⟩
                      | false =>
                        rw [b4] at h
                        dsimp only at h
                        rw [fN_eq] at h
                        have : ¬ c = lI := fun e => by rw [e, Nat.beq_refl] at b4; cases b4
                        exact .inr ⟨_, pv_tree hok hm (hrun (some ⟨b, o2 + lI * z, none⟩) (by rw [if_neg this, Option.map, add_none])), h⟩
theorem armIdx_R {o : Oper} {t : TypeId} {x i : Operand} (ho : o.op = .index t x i) (hst : statOK o = true) (h : armIdx t x i P s qv qc g n) : PvR P s o qv g n := by
  have hx : opdOK x = true := stat_op hst x (by rw [ho]; simp [Op.operands])
  have hi : opdOK i = true := stat_op hst i (by rw [ho]; simp [Op.operands])
  have hok : okOp P s.ev o.op = true := by rw [ho]; rfl
  have hm : execOp s.ev o = (Instr.index t (s.ev x) (s.ev i) >>= fun v => pure (.value v)) := by
    obtain ⟨dst, op, type, pos, after, guard⟩ := o
    simp only at ho
    subst ho
    rfl
  unfold armIdx at h
  cases he : elT P t with
  | none => rw [he] at h; exact .inl h
  | some p =>
    obtain ⟨len, z⟩ := p
    rw [he] at h
    dsimp only at h
    rw [evK_eq _ _ _ hx, evK_eq _ _ _ hi] at h
    rcases intV_ok h with h | ⟨k, m, e1, h⟩
    · exact .inl h
    · cases hb : Nat.ble (Nat.succ m) len with
      | false => rw [hb] at h; exact .inl h
      | true =>
        rw [hb] at h
        rcases cellV_ok h with ⟨cs, e2, h⟩ | ⟨_, _, h⟩
        · rw [nthK_eq] at h
          cases hc : cs[Nat.mul m z]? with
          | none => rw [hc] at h; exact .inl h
          | some r =>
            rw [hc] at h
            dsimp only at h
            rw [getH_eq] at h
            refine .inr ⟨r, pv_tree hok hm ?_, h⟩
            rw [e1, e2]
            unfold Instr.index
            rw [runP_bind, asIntOf_run]
            simp only [Option.bind]
            rw [runP_bind, runP_und]
            unfold elT at he; (try simp only [undQ_eq] at he)
            cases q : P.underlying t with
            | none => rw [q] at he; cases he
            | some d =>
              rw [q] at he
              cases d with
              | array n' e =>
                dsimp only at he
                cases q2 : oneT P e with
                | false => rw [q2] at he; cases he
                | true =>
                  rw [q2] at he
                  dsimp only [cond] at he
                  cases q3 : szT P e with
                  | none => rw [q3] at he; cases he
                  | some z' =>
                    rw [q3] at he
                    cases he
                    simp only [Option.bind]
                    have hlt : m < len := Nat.le_of_ble_eq_true hb
                    have : (0 : Int) ≤ Int.ofNat m ∧ Int.ofNat m < (len : Int) := ⟨Int.natCast_nonneg m, by show (m : Int) < len; omega⟩
                    rw [if_pos this, runP_bind, szT_ok q3]
                    simp only [Option.bind]
                    show runP P (part e ⟨cs⟩ (m * z)) = _
                    unfold part
                    rw [runP_bind, oneT_ok q2]
                    simp only [Option.bind, Bool.false_eq_true, if_false]
                    have hc' : (⟨cs⟩ : Array Value)[m * z]? = some r := by simpa using hc
                    rw [hc']
                    rfl
              | _ => cases he
        · exact .inl h
theorem ifcV_ok {v : Value} {q : TypeId → Value → An} {g : An} {n : Prop} (h : ifcV v q g n) : g n ∨ ∃ t u, v = .iface t u ∧ q t u n := by
  cases v with
  | iface t u => exact .inr ⟨t, u, rfl, h⟩
  | _ => exact .inl h
theorem armAss_R {o : Oper} {xt t : TypeId} {x : Operand} {ok : Bool} (ho : o.op = .typeAssert x xt t ok) (hst : statOK o = true) (h : armAss x xt t ok P s qv qc g n) : PvR P s o qv g n := by
  have hx : opdOK x = true := stat_op hst x (by rw [ho]; simp [Op.operands])
  cases ok with
  | false => exact .inl h
  | true =>
    have hok : okOp P s.ev o.op = true := by rw [ho]; rfl
    have hm : execOp s.ev o = (Instr.typeAssert (s.ev x) xt t true >>= fun v => pure (.value v)) := by
      obtain ⟨dst, op, type, pos, after, guard⟩ := o
      simp only at ho
      subst ho
      rfl
    unfold armAss at h
    dsimp only at h
    cases ha : asT P t with
    | none => rw [ha] at h; exact .inl h
    | some z =>
      rw [ha] at h
      dsimp only at h
      rw [evK_eq _ _ _ hx] at h
      rcases ifcV_ok h with h | ⟨t', u, ev, h⟩
      · exact .inl h
      · rw [getH_eq] at h
        obtain ⟨d, hu, hni, hz⟩ : ∃ d, P.underlying t = some d ∧ (∀ w, d ≠ .interface w) ∧ zrT P t = some z := by
          unfold asT at ha; (try simp only [undQ_eq] at ha)
          cases e : P.underlying t with
          | none => rw [e] at ha; cases ha
          | some d => rw [e] at ha; cases d <;> first | (cases ha; done) | exact ⟨_, rfl, (fun w q => by cases q), ha⟩
        have hrun : runP P (Instr.typeAssert (.iface t' u) xt t true) = some (if t' = t then .tuple #[u, .bool true] else .tuple #[z, .bool false]) := by
          unfold Instr.typeAssert
          rw [runP_bind, runP_und, hu]
          simp only [Option.bind]
          have hz' : runP P (zeroValue t) = some z := zr_run hz
          have body : ∀ (A B : Sem Value), runP P A = some (.tuple #[u, .bool true]) → runP P B = some (.tuple #[z, .bool false]) → runP P (if t' = t then A else B) = some (if t' = t then .tuple #[u, .bool true] else .tuple #[z, .bool false]) := fun A B h1 h2 => by
            by_cases e : t' = t
            · rw [if_pos e, if_pos e, h1]
            · rw [if_neg e, if_neg e, h2]
          cases d <;> first | exact absurd rfl (hni _) | exact body _ _ rfl (by simp only [if_true]; rw [runP_bind, hz']; rfl)
        cases hb : Nat.beq t' t with
        | true =>
          rw [hb] at h
          refine .inr ⟨_, pv_tree hok hm (by rw [ev, hrun, if_pos (Nat.eq_of_beq_eq_true hb)]), h⟩
        | false =>
          rw [hb] at h
          refine .inr ⟨_, pv_tree hok hm (by rw [ev, hrun, if_neg (fun e => by rw [e, Nat.beq_refl] at hb; cases hb)]), h⟩
end
end Go.Proofs.YtmjblbgalkjmiaaGreat.EX
