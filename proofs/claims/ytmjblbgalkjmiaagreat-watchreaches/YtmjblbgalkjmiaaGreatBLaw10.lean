/- A region in whatever order in which several operations change what was there. -/
import Derived.Test.YtmjblbgalkjmiaaGreatBLaw6
namespace Go.Proofs.YtmjblbgalkjmiaaGreat
open Go.RowKit
section
variable {P : Program}
def deadOK (ops : Array Oper) (n : Nat) (dead : List (Nat × Nat)) : Bool :=
  dead.all fun p => (List.range n).all fun k => match ops[k]? with
    | some o => !(edges o).contains p.2 || (k == p.1 || reach ops ops.size p.1 k)
    | none => true
def upd (L : Nat → Bool) (i : Nat) : Nat → Bool := fun k => k == i || L k
structure GrowInvM (ops : Array Oper) (n : Nat) (D : List (Nat × Nat)) (posts : Nat → PostE) (a0 : Act) (I : (Nat → Bool) → World → Prop) (dead : List (Nat × Nat)) (listed : Array Bool) (vals : Nat → Value) (a : Act) (w : World) : Prop where
  size : listed.size = ops.size
  late : ∀ i, n ≤ i → listed.getD i false = false
  closed : ∀ j o, ops[j]? = some o → listed.getD j false = true → ∀ e ∈ edges o, listed.getD e false = true
  defers : a.defers = a0.defers
  tsize : a.tmps.size = a0.tmps.size
  slot : ∀ i d, (i, d) ∈ D → listed.getD i false = true → a.tmps[d]? = some (vals i)
  other : ∀ s, (∀ p ∈ D, p.2 ≠ s) → a.tmps[s]? = a0.tmps[s]?
  world : I (fun j => listed.getD j false) w
  fixd : ∀ j, j < n → listed.getD j false = true → ∀ u, (posts j).fix = some u → vals j = u
  post : ∀ j, j < n → listed.getD j false = true → (∀ p ∈ dead, p.2 = j → listed.getD p.1 false = false) → (posts j).p (vals j) w
/-- What one step leaves of what is known. -/
def StM (ops : Array Oper) (n : Nat) (posts : Nat → PostE) (dead : List (Nat × Nat)) (i : Nat) (w w' : World) : Prop := ∀ j, j < n → j ≠ i → reach ops ops.size j i = false → (i, j) ∉ dead → ∀ u, (posts j).p u w → (posts j).p u w'
theorem wpAny_pm {ops : Array Oper} {n : Nat} {D : List (Nat × Nat)} {posts : Nat → PostE} {a0 : Act} {J : (Nat → Bool) → World → Prop} {dead : List (Nat × Nat)} {Q : Exit → Act → World → Prop} (hB : growB ops n D = true) (hsz : ∀ p ∈ D, p.2 < a0.tmps.size) (hdd : deadOK ops n dead = true)
    (hop : ∀ i, i < n → ∀ o, ops[i]? = some o → ∀ L vals w, J L w → L i = false → (∀ j, (edges o).contains j = true → L j = true) → (∀ j, reach ops ops.size j i = true → L j = false) → (∀ j ∈ edges o, (posts j).p (vals j) w) →
      if Region.wanted o (yielded ops (full a0 D vals).tmps) = true then (posts i).uponX P (fun x => J (upd L i) x ∧ StM ops n posts dead i w x) ((execOp (full a0 D vals).eval o).run P w) else J (upd L i) w ∧ (posts i).p undef w)
    (hrest : ∀ vals w, J (fun j => decide (j < n)) w → (∀ j, j < n → ∀ u, (posts j).fix = some u → vals j = u) → (∀ j, j < n → (∀ p ∈ dead, p.2 ≠ j) → (posts j).p (vals j) w) →
      wpList P ops Q (ops.toList.drop n) (full a0 D vals) w) :
    ∀ (m : Nat) (listed : Array Bool) (vals : Nat → Value) (a : Act) (w : World), GrowInvM ops n D posts a0 J dead listed vals a w → left listed n = m → wpAny P .any ops Q (m + (ops.size - n)) listed a w := by
  simp only [growB, Bool.and_eq_true, decide_eq_true_eq] at hB
  obtain ⟨⟨⟨⟨⟨⟨hsel, hn⟩, hfirst⟩, hD⟩, hnd⟩, hph⟩, hch⟩ := hB
  rw [List.all_eq_true] at hfirst hD hph
  intro m
  induction m with
  | zero =>
    intro listed vals a w I hl
    have hall := left_zero hl
    have hlist : listed = firstN ops.size n := by
      apply Array.ext
      · simp [firstN, I.size]
      · intro i h1 h2
        by_cases h : i < n
        · have := hall i h
          simp [h1] at this
          simp [firstN, h, this]
        · have := I.late i (by omega)
          simp [h1] at this
          simp [firstN, h, this]
    have hact : a = full a0 D vals := by
      have ht : a.tmps = (full a0 D vals).tmps := by
        apply Array.ext_getElem?
        intro s
        unfold full
        by_cases h : ∃ p ∈ D, p.2 = s
        · obtain ⟨⟨i, d⟩, hp, rfl⟩ := h
          have hi : i < n := by have := hD _ hp; simp at this; exact this.1
          rw [I.slot i d hp (hall i hi)]
          exact (fold_in vals i d D a0.tmps hp hnd (hsz _ hp)).symm
        · have h' : ∀ p ∈ D, p.2 ≠ s := fun p hp e => h ⟨p, hp, e⟩
          rw [I.other s h']
          exact (fold_out vals s D a0.tmps h').symm
      have hd := I.defers
      cases a
      simp only [full] at ht hd ⊢
      simp only [ht, hd]
    subst hact
    subst hlist
    have hc := wpAny_chain (P := P) (Q := Q) (ops.toList.drop n) n (firstN ops.size n) (full a0 D vals) w (fun j => by simp) (by simpa using hch) (hrest vals w (by
      have e : (fun j => (firstN ops.size n).getD j false) = fun j => decide (j < n) := by
        funext j
        by_cases h : j < ops.size
        · simp [firstN, h]
        · have : ¬ j < n := by omega
          simp [firstN, h, this]
      have := I.world
      rw [e] at this
      exact this) (fun j hj => I.fixd j hj (hall j hj)) (fun j hj hd => I.post j hj (hall j hj) (fun p hp e => absurd e (hd p hp))))
    simpa using hc
  | succ m ih =>
    intro listed vals a w I hl
    have e1 : m + 1 + (ops.size - n) = m + (ops.size - n) + 1 := by omega
    rw [e1]
    refine ⟨fun hr => ?_, fun i hi => ?_⟩
    · exfalso
      obtain ⟨i, h1, h2, h3⟩ := left_pos (listed := listed) (n := n) (by omega)
      have hio := hfirst i (List.mem_range.2 h1)
      cases hoi : ops[i]? with
      | none => rw [hoi] at hio; cases hio
      | some o =>
        rw [hoi] at hio
        simp only [Bool.and_eq_true] at hio
        have hm : i ∈ Region.ready .any ops listed := mem_ready.2 ⟨by rw [getD_eq (by rw [I.size]; omega) true false]; exact h2, o, hoi, fun e he hb => h3 _ (by
          have := List.all_eq_true.1 hio.1.1 e.on (by unfold edges; exact List.mem_map.2 ⟨e, List.mem_filter.2 ⟨by simpa using he, hb⟩, rfl⟩)
          simpa using this)⟩
        rw [hr] at hm
        cases hm
    · obtain ⟨hun, o, hoi, hdeps⟩ := mem_ready.1 hi
      have hed : ∀ e ∈ edges o, listed.getD e false = true := fun e he => by
        unfold edges at he
        obtain ⟨x, hx, rfl⟩ := List.mem_map.1 he
        obtain ⟨hx1, hx2⟩ := List.mem_filter.1 hx
        exact hdeps x (by simpa using hx1) hx2
      have his : i < ops.size := (Array.getElem?_eq_some_iff.1 hoi).1
      have hin : i < n := by
        apply Classical.byContradiction
        intro hge
        obtain ⟨j, h1, h2, _⟩ := left_pos (listed := listed) (n := n) (by omega)
        have hrch := hph i (List.mem_range'.2 ⟨i - n, by omega, by omega⟩)
        have hrj := List.all_eq_true.1 hrch j (List.mem_range.2 h1)
        have := reach_listed I.closed j ops.size i o hoi hed hrj
        rw [h2] at this
        cases this
      have hio := hfirst i (List.mem_range.2 hin)
      rw [hoi] at hio
      simp only [Bool.and_eq_true] at hio
      obtain ⟨⟨hlt, hdst⟩, hlook⟩ := hio
      have hjn : ∀ j ∈ edges o, j < n := fun j hj => by
        have := List.all_eq_true.1 hlt j hj
        simp at this
        omega
      have hagree : ∀ t ∈ o.looksAt ops, a.tmps[t]? = (full a0 D vals).tmps[t]? := fun t ht => by
        have := List.all_eq_true.1 hlook t ht
        simp only [Bool.or_eq_true] at this
        rcases this with h | h
        · have h' : ∀ p ∈ D, p.2 ≠ t := fun p hp => by
            have := List.all_eq_true.1 h p hp
            simpa using this
          rw [I.other t h']
          exact (fold_out vals t D a0.tmps h').symm
        · obtain ⟨j, hj, hc⟩ := List.any_eq_true.1 h
          have hp : (j, t) ∈ D := by simpa using hc
          rw [I.slot j t hp (hed j hj)]
          exact (fold_in vals j t D a0.tmps hp hnd (hsz _ hp)).symm
      have hex : execOp a.eval o = execOp (full a0 D vals).eval o := execOp_congr o (fun cs b => Region.noSelect_spec hsel i o cs b hoi) fun x hx => eval_congr fun t ht => hagree t (by
        subst ht
        exact List.mem_append_left _ (List.mem_filterMap.2 ⟨.tmp t, by simpa using hx, rfl⟩))
      have hwa := wanted_congr (ops := ops) (o := o) hagree
      have hls : i < listed.size := by rw [I.size]; exact his
      have hun' : listed.getD i false = false := by rw [getD_eq hls false true]; exact hun
      have lst : ∀ j, listed.getD j false = true → ∀ k, reach ops ops.size j k = true → listed.getD k false = true := fun j hjl k hr => by
        cases hoj : ops[j]? with
        | none =>
          have : ops.size ≤ j := by simpa using hoj
          have hno : listed.getD j false = false := by
            have : ¬ j < listed.size := by rw [I.size]; omega
            simp [Array.getD, this]
          rw [hno] at hjl
          cases hjl
        | some oj => exact reach_listed I.closed k ops.size j oj hoj (I.closed j oj hoj hjl) hr
      have halive : ∀ j ∈ edges o, ∀ p ∈ dead, p.2 = j → listed.getD p.1 false = false := fun j hj p hp hpj => by
        have h1 := List.all_eq_true.1 (List.all_eq_true.1 hdd p hp) i (List.mem_range.2 hin)
        rw [hoi] at h1
        simp only [Bool.or_eq_true, Bool.not_eq_true', beq_iff_eq] at h1
        cases hl1 : listed.getD p.1 false
        · rfl
        · exfalso
          rcases h1 with h1 | h1 | h1
          · have : (edges o).contains p.2 = true := by rw [hpj]; simpa using hj
            rw [this] at h1
            cases h1
          · rw [← h1, hun'] at hl1
            cases hl1
          · have := lst _ hl1 _ h1
            rw [hun'] at this
            cases this
      have H := hop i hin o hoi (fun j => listed.getD j false) vals w I.world hun' (fun j hj => hed j (by simpa using hj)) (fun j hr => by
        cases hl1 : listed.getD j false
        · rfl
        · have := lst j hl1 i hr
          rw [hun'] at this
          cases this) fun j hj => I.post j (hjn j hj) (hed j hj) (halive j hj)
      have hupd : (fun j => (listed.setIfInBounds i true).getD j false) = upd (fun j => listed.getD j false) i := by
        funext j
        unfold upd
        by_cases e : j = i
        · subst e; simp [Array.getD, hls]
        · have h1 : (j == i) = false := by simpa using e
          rw [h1, Bool.false_or, getD_set_ne false (Ne.symm e)]
      have next : ∀ v w', J (upd (fun j => listed.getD j false) i) w' → (∀ j, j < n → j ≠ i → listed.getD j false = true → (∀ p ∈ dead, p.2 = j → (listed.setIfInBounds i true).getD p.1 false = false) → (posts j).p (vals j) w') → (posts i).p v w' → wpAny P .any ops Q (m + (ops.size - n)) (listed.setIfInBounds i true) (a.put o.dst v) w' := fun v w' hx0 hpo hv => by
        refine ih (listed.setIfInBounds i true) (fun j => if j = i then v else vals j) _ _ ?_ ?_
        · have hgetj : ∀ j, j ≠ i → (listed.setIfInBounds i true).getD j false = listed.getD j false := fun j hj => getD_set_ne false (Ne.symm hj)
          refine ⟨by simpa using I.size, fun j hj => ?_, fun j oj hoj hjl e he => ?_, ?_, ?_, fun j d hp hjl => ?_, fun s hs => ?_, (by rw [hupd]; exact hx0), fun j hj hjl u hu => ?_, fun j hj hjl hdj => ?_⟩
          · rw [hgetj j (by omega)]; exact I.late j hj
          · apply getD_set_true
            by_cases hji : j = i
            · subst hji; rw [hoi] at hoj; cases hoj; exact hed e he
            · rw [hgetj j hji] at hjl; exact I.closed j oj hoj hjl e he
          · cases hd : o.dst <;> simp [Act.put, I.defers]
          · cases hd : o.dst <;> simp [Act.put, I.tsize]
          · by_cases hji : j = i
            · subst hji
              have hd : o.dst = some d := by have := hD _ hp; simp [hoi] at this; exact this.2
              have := hsz _ hp
              simp only [hd, Act.put, if_true]
              simp [I.tsize, this]
            · rw [hgetj j hji] at hjl
              have hne : ∀ d', o.dst = some d' → d' ≠ d := fun d' hd' e => by
                rw [hd'] at hdst
                have hp' : (i, d') ∈ D := by simpa using hdst
                subst e
                have h1 := fold_in (fun k => .int .i64 k) i d' D (Array.replicate (d' + 1) undef) hp' hnd (by simp)
                have h2 := fold_in (fun k => .int .i64 k) j d' D (Array.replicate (d' + 1) undef) hp hnd (by simp)
                rw [h1] at h2
                simp at h2
                exact hji (by omega)
              rw [if_neg hji, ← I.slot j d hp hjl]
              cases hd : o.dst with
              | none => rfl
              | some d' => simp only [Act.put]; exact Array.getElem?_setIfInBounds_ne (hne d' hd)
          · rw [← I.other s hs]
            cases hd : o.dst with
            | none => rfl
            | some d' =>
              rw [hd] at hdst
              have hp' : (i, d') ∈ D := by simpa using hdst
              simp only [Act.put]; exact Array.getElem?_setIfInBounds_ne (hs _ hp')
          · by_cases hji : j = i
            · subst hji; simp only [if_true]; exact (posts j).fx u hu v w' hv
            · rw [hgetj j hji] at hjl
              simp only [if_neg hji]; exact I.fixd j hj hjl u hu
          · by_cases hji : j = i
            · subst hji; simp only [if_true]; exact hv
            · rw [hgetj j hji] at hjl
              simp only [if_neg hji]; exact hpo j hj hji hjl hdj
        · have := left_set hls hun' n
          rw [if_pos hin] at this
          omega
      have hold : ∀ j, j ≠ i → (listed.setIfInBounds i true).getD j false = false → listed.getD j false = false := fun j hj h => by rw [← getD_set_ne false (Ne.symm hj)]; exact h
      have hself : (listed.setIfInBounds i true).getD i false = true := by simp [Array.getD, hls]
      have dead0 : ∀ j, (∀ p ∈ dead, p.2 = j → (listed.setIfInBounds i true).getD p.1 false = false) → (i, j) ∉ dead ∧ ∀ p ∈ dead, p.2 = j → listed.getD p.1 false = false := fun j h => by
        refine ⟨fun hm => ?_, fun p hp hpj => ?_⟩
        · have h2 : (listed.setIfInBounds i true).getD i false = false := h (i, j) hm rfl
          rw [hself] at h2
          cases h2
        · by_cases e : p.1 = i
          · rw [e]; exact hun'
          · exact hold _ e (h p hp hpj)
      unfold wpOp
      rw [hoi]
      show if _ then _ else _
      rw [hwa]
      split
      · rename_i hw
        rw [if_pos hw] at H
        refine Or.inl (Oper.wp_of_uponX (by rw [hex]) H fun v w' h1 hv => next v w' h1.1 (fun j hj hji hjl hdj => ?_) hv)
        have hr : reach ops ops.size j i = false := by
          cases hr : reach ops ops.size j i
          · rfl
          · have := lst j hjl i hr
            rw [hun'] at this
            cases this
        exact h1.2 j hj hji hr (dead0 j hdj).1 _ (I.post j hj hjl (dead0 j hdj).2)
      · rename_i hw
        rw [if_neg hw] at H
        exact next _ _ H.1 (fun j hj _ hjl hdj => I.post j hj hjl (dead0 j hdj).2) H.2
structure OpM (P : Program) (ops : Array Oper) (R R0 : World → Prop) (k : PostE) (o : Oper) (A : Act) (w : World) : Prop where
  out : if Region.wanted o (yielded ops A.tmps) = true then k.uponX P R ((execOp A.eval o).run P w) else R0 w ∧ k.p undef w
def opsM (P : Program) (ops : Array Oper) (posts : List PostE) (A : (Nat → Value) → Act) (I : (Nat → Bool) → World → Prop) (n : Nat) (dead : List (Nat × Nat)) : Nat → List Oper → Prop
  | _, [] => True
  | i, o :: r => (∀ L ptrs w, I L w → L i = false → (∀ j, (edges o).contains j = true → L j = true) → (∀ j, reach ops ops.size j i = true → L j = false) → exHold posts ptrs w (edges o) → OpM P ops (fun x => I (upd L i) x ∧ StM ops n (postE posts) dead i w x) (I (upd L i)) (postE posts i) o (A ptrs) w) ∧ opsM P ops posts A I n dead (i + 1) r
theorem opsM_nil {ops : Array Oper} {posts : List PostE} {A : (Nat → Value) → Act} {I : (Nat → Bool) → World → Prop} {n i : Nat} {dead : List (Nat × Nat)} : opsM P ops posts A I n dead i [] := trivial
theorem opsM_w {ops : Array Oper} {posts : List PostE} {A : (Nat → Value) → Act} {I : (Nat → Bool) → World → Prop} {n i : Nat} {dead : List (Nat × Nat)} {o : Oper} {r : List Oper} (h : ∀ L ptrs w, I L w → L i = false → (∀ j, (edges o).contains j = true → L j = true) → (∀ j, reach ops ops.size j i = true → L j = false) → exHold posts ptrs w (edges o) → OpX P ops (fun x => I (upd L i) x ∧ StM ops n (postE posts) dead i w x) (postE posts i) o (A ptrs) w) (hr : opsM P ops posts A I n dead (i + 1) r) : opsM P ops posts A I n dead i (o :: r) :=
  ⟨fun L ptrs w hI hi he hs hx => ⟨by have H := h L ptrs w hI hi he hs hx; rw [if_pos H.want]; exact H.out⟩, hr⟩
theorem opsM_at {ops : Array Oper} {posts : List PostE} {A : (Nat → Value) → Act} {I : (Nat → Bool) → World → Prop} {n : Nat} {dead : List (Nat × Nat)} : ∀ (l : List Oper) (k : Nat), opsM P ops posts A I n dead k l → ∀ i o, l[i]? = some o →
    ∀ L ptrs w, I L w → L (k + i) = false → (∀ j, (edges o).contains j = true → L j = true) → (∀ j, reach ops ops.size j (k + i) = true → L j = false) → exHold posts ptrs w (edges o) → OpM P ops (fun x => I (upd L (k + i)) x ∧ StM ops n (postE posts) dead (k + i) w x) (I (upd L (k + i))) (postE posts (k + i)) o (A ptrs) w
  | [], _, _, i, o, h => by simp at h
  | x :: r, k, h, 0, o, ho => by
    simp at ho
    subst ho
    exact h.1
  | x :: r, k, h, i + 1, o, ho => by
    have := opsM_at r (k + 1) h.2 i o (by simpa using ho)
    rw [show k + 1 + i = k + (i + 1) by omega] at this
    exact this
theorem fill_fix {k : PostE} {v : Value} (h : ∀ u, k.fix = some u → v = u) : k.fill v = v := by
  unfold PostE.fill
  cases hf : k.fix with
  | none => rfl
  | some u => rw [h u hf]; rfl
theorem wp_region_pm {id : Nat} {l : List Oper} {Q : Exit → Act → World → Prop} {a0 : Act} {w : World} {A : (Nat → Value) → Act} (I : (Nat → Bool) → World → Prop) (n : Nat) (D : List (Nat × Nat)) (posts : List PostE) (dead : List (Nat × Nat)) (alive : List Nat) (hm : P.follows .mixedOrders = true)
    (hB : growB l.toArray n D = true) (hsz : (D.all fun p => decide (p.2 < a0.tmps.size)) = true) (hdd : deadOK l.toArray n dead = true) (hal : (alive.all fun j => decide (j < n) && dead.all fun p => p.2 != j) = true)
    (hw0 : I (fun _ => false) w.drew) (hA : ∀ ptrs, full a0 D (filledE posts ptrs) = A ptrs)
    (hop : opsM P l.toArray posts A I n dead 0 (l.take n))
    (hrest : ∀ ptrs w', I (fun j => decide (j < n)) w' → exHold posts ptrs w' alive → wpList P l.toArray Q (l.drop n) (A ptrs) w') :
    (Code.region id l.toArray true).wp P Q a0 w := by
  have eA : A = fun ptrs => full a0 D (filledE posts ptrs) := funext fun ptrs => (hA ptrs).symm
  subst eA
  have hB' := hB
  simp only [growB, Bool.and_eq_true, decide_eq_true_eq] at hB'
  obtain ⟨⟨⟨⟨⟨⟨hsel, hn⟩, hfirst⟩, hD⟩, hnd⟩, hph⟩, hch⟩ := hB'
  have hn' : n ≤ l.length := by simpa using hn
  have hsz' : ∀ p ∈ D, p.2 < a0.tmps.size := fun p hp => by
    have := List.all_eq_true.1 hsz p hp
    simpa using this
  refine wp_region_any hm ?_
  have hDn : ∀ p ∈ D, p.1 < n := fun p hp => by have := List.all_eq_true.1 hD p hp; simp at this; exact this.1
  have hgen : ∀ i, i < n → ∀ o, l.toArray[i]? = some o → ∀ vals w', (∀ j ∈ edges o, (postE posts j).p (vals j) w') → execOp (full a0 D vals).eval o = execOp (full a0 D (filledE posts vals)).eval o ∧ Region.wanted o (yielded l.toArray (full a0 D vals).tmps) = Region.wanted o (yielded l.toArray (full a0 D (filledE posts vals)).tmps) := fun i hi o ho vals w' hdeps => by
      have hio := List.all_eq_true.1 hfirst i (List.mem_range.2 hi)
      rw [ho] at hio
      simp only [Bool.and_eq_true] at hio
      obtain ⟨_, hlook⟩ := hio
      have hagree : ∀ t ∈ o.looksAt l.toArray, (full a0 D vals).tmps[t]? = (full a0 D (filledE posts vals)).tmps[t]? := fun t ht => by
        have := List.all_eq_true.1 hlook t ht
        simp only [Bool.or_eq_true] at this
        rcases this with h | h
        · have h' : ∀ p ∈ D, p.2 ≠ t := fun p hp => by
            have := List.all_eq_true.1 h p hp
            simpa using this
          unfold full
          rw [fold_out vals t D a0.tmps h', fold_out _ t D a0.tmps h']
        · obtain ⟨j, hj, hc⟩ := List.any_eq_true.1 h
          have hp : (j, t) ∈ D := by simpa using hc
          unfold full
          rw [fold_in vals j t D a0.tmps hp hnd (hsz' _ hp), fold_in _ j t D a0.tmps hp hnd (hsz' _ hp)]
          unfold filledE
          rw [PostE.fill_of (hdeps j hj)]
      have hex : execOp (full a0 D vals).eval o = execOp (full a0 D (filledE posts vals)).eval o := execOp_congr o (fun cs b => Region.noSelect_spec hsel i o cs b ho) fun x hx => eval_congr fun t ht => hagree t (by
        subst ht
        exact List.mem_append_left _ (List.mem_filterMap.2 ⟨.tmp t, by simpa using hx, rfl⟩))
      have hwa := wanted_congr (ops := l.toArray) (o := o) hagree
      exact ⟨hex, hwa⟩
  have main := wpAny_pm (P := P) (ops := l.toArray) (n := n) (D := D) (posts := postE posts) (a0 := a0) (J := I) (dead := dead) (Q := Q) hB hsz' hdd
    (fun i hi o ho L vals w' h1 hLi h3 h4 hdeps => by
      have hoi : (l.take n)[i]? = some o := by rw [List.getElem?_take_of_lt hi]; simpa using ho
      have H := opsM_at (l.take n) 0 hop i o hoi L vals w' h1 (by rw [Nat.zero_add]; exact hLi) h3 (by rw [Nat.zero_add]; exact h4) (exHold_of posts vals w' _ hdeps)
      rw [Nat.zero_add] at H
      obtain ⟨hex, hwa⟩ := hgen i hi o ho vals w' hdeps
      rw [hwa, hex]
      exact H.out)
    (fun vals w' hg hfx hall => by
      have e : full a0 D vals = full a0 D (filledE posts vals) := full_congr fun p hp => (fill_fix (hfx p.1 (hDn p hp))).symm
      rw [e]
      have := hrest vals w' hg (exHold_of posts vals w' _ fun j hj => by
        have h1 := List.all_eq_true.1 hal j hj
        simp only [Bool.and_eq_true, decide_eq_true_eq] at h1
        exact hall j h1.1 fun p hp => by
          have := List.all_eq_true.1 h1.2 p hp
          simpa using this)
      simpa using this)
    n (Array.replicate l.length false) (fun _ => undef) a0 w.drew
    ⟨by simp, fun i _ => by by_cases h : i < l.length <;> simp [h], fun j o _ hj => by by_cases h : j < l.length <;> simp [h] at hj, rfl, rfl,
      fun i d _ hi => by by_cases h : i < l.length <;> simp [h] at hi, fun _ _ => rfl, (by
      have e : (fun j => (Array.replicate l.length false).getD j false) = fun _ => false := by
        funext j
        by_cases h : j < l.length <;> simp [h]
      rw [e]
      exact hw0), fun i _ hi => by (by_cases h : i < l.length <;> simp [h] at hi), fun i _ hi => by by_cases h : i < l.length <;> simp [h] at hi⟩
    (by
      have hz : ∀ m, m ≤ l.length → left (Array.replicate l.length false) m = m := by
        intro m
        induction m with
        | zero => intro _; simp [left]
        | succ m ih => intro hm; rw [left_succ, ih (by omega)]; simp [show m < l.length by omega]
      exact hz n hn')
  have e1 : n + (l.toArray.size - n) = l.toArray.size := by simp; omega
  rw [e1] at main
  simpa using main
end
def stB (ops : Array Oper) (n : Nat) (dead : List (Nat × Nat)) (i : Nat) (S : List Nat) : Bool := (List.range n).all fun j => j == i || S.contains j || reach ops ops.size j i || dead.contains (i, j)
def allVal (posts : List PostE) : List Nat → Prop
  | [] => True
  | j :: r => (∃ v, postE posts j = .val v) ∧ allVal posts r
theorem allVal_at {posts : List PostE} : ∀ {S : List Nat}, allVal posts S → ∀ j ∈ S, ∃ v, postE posts j = .val v
  | [], _, _, h => by cases h
  | _ :: _, h, j, hj => by
    rcases List.mem_cons.1 hj with rfl | hj
    · exact h.1
    · exact allVal_at h.2 j hj
/-- Values that are known don't change. -/
theorem StM.vals {ops : Array Oper} {n : Nat} {posts : List PostE} {dead : List (Nat × Nat)} {i : Nat} {w w' : World} (S : List Nat) (hS : stB ops n dead i S = true) (hv : allVal posts S) : StM ops n (postE posts) dead i w w' := fun j hj hne hr hd u hp => by
  have h1 := List.all_eq_true.1 hS j (List.mem_range.2 hj)
  simp only [Bool.or_eq_true, beq_iff_eq, List.contains_iff_mem, hr] at h1
  rcases h1 with ((h1 | h1) | h1) | h1
  · exact absurd h1 hne
  · obtain ⟨v, e⟩ := allVal_at hv j h1
    rw [e] at hp ⊢
    exact hp
  · cases h1
  · exact absurd h1 hd
end Go.Proofs.YtmjblbgalkjmiaaGreat
