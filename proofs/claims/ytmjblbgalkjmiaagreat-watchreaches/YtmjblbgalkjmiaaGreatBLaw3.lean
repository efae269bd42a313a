/- A region in whatever order, over any program: each operation lays a value, or one of which something is known that stays as long as memory only grows. -/
import Derived.Test.YtmjblbgalkjmiaaGreatBOps
namespace Go.Proofs.YtmjblbgalkjmiaaGreat
open Go.RowKit
section
variable {P : Program}
/-- What is known of what an operation has laid: the value itself, or a fact that lasts. -/
structure PostE where
  fix : Option Value
  p : Value → World → Prop
  st : ∀ v w w', Gro w w' → p v w → p v w'
  fx : ∀ u, fix = some u → ∀ v w, p v w → v = u
def PostE.val (v : Value) : PostE := ⟨some v, fun u _ => u = v, fun _ _ _ _ h => h, fun u hu v' w h => by cases hu; exact h⟩
def PostE.upon (P : Program) (k : PostE) (w : World) : Result Next → Prop
  | .ok (.value v) w' => Gro w w' ∧ k.p v w'
  | .ok .skip w' => Gro w w' ∧ k.p undef w'
  | .ok (.enter f args) w' => Calls P f args w' fun e w'' => ∃ v, e = .returned v ∧ Gro w w'' ∧ k.p v w''
  | _ => False
/-- Where a walk over a region in whatever order stands. -/
structure GrowInvE (ops : Array Oper) (n : Nat) (D : List (Nat × Nat)) (posts : Nat → PostE) (a0 : Act) (w0 : World) (listed : Array Bool) (vals : Nat → Value) (a : Act) (w : World) : Prop where
  size : listed.size = ops.size
  late : ∀ i, n ≤ i → listed.getD i false = false
  closed : ∀ j o, ops[j]? = some o → listed.getD j false = true → ∀ e ∈ edges o, listed.getD e false = true
  defers : a.defers = a0.defers
  tsize : a.tmps.size = a0.tmps.size
  slot : ∀ i d, (i, d) ∈ D → listed.getD i false = true → a.tmps[d]? = some (vals i)
  other : ∀ s, (∀ p ∈ D, p.2 ≠ s) → a.tmps[s]? = a0.tmps[s]?
  world : Gro w0 w
  post : ∀ i, i < n → listed.getD i false = true → (posts i).p (vals i) w
theorem Oper.wp_of_uponE {o : Oper} {k : PostE} {a : Act} {w : World} {K : Act → World → Prop} {Q : Exit → Act → World → Prop} {r : Result Next} (he : (execOp a.eval o).run P w = r) (h : k.upon P w r)
    (hK : ∀ v w', Gro w w' → k.p v w' → K (a.put o.dst v) w') : o.wp P a w K Q := by
  unfold Oper.wp
  rw [he]
  cases r with
  | ok n w' =>
    cases n <;> simp only [PostE.upon] at h <;> simp only [Oper.upon]
    case value v => exact hK _ _ h.1 h.2
    case skip => exact hK _ _ h.1 h.2
    case enter f args => exact Calls.mono h fun e w'' ⟨v, he, hg, hv⟩ => by subst he; exact hK _ _ hg hv
  | halt x w' => simp only [PostE.upon] at h
theorem wpAny_ex {ops : Array Oper} {n : Nat} {D : List (Nat × Nat)} {posts : Nat → PostE} {a0 : Act} {w0 : World} {Q : Exit → Act → World → Prop} (hB : growB ops n D = true) (hsz : ∀ p ∈ D, p.2 < a0.tmps.size)
    (hop : ∀ i, i < n → ∀ o, ops[i]? = some o → ∀ vals w, Gro w0 w → (∀ j ∈ edges o, (posts j).p (vals j) w) →
      if Region.wanted o (yielded ops (full a0 D vals).tmps) = true then (posts i).upon P w ((execOp (full a0 D vals).eval o).run P w) else (posts i).p undef w)
    (hrest : ∀ vals w, Gro w0 w → (∀ i, i < n → (posts i).p (vals i) w) →
      wpList P ops Q (ops.toList.drop n) (full a0 D vals) w) :
    ∀ (m : Nat) (listed : Array Bool) (vals : Nat → Value) (a : Act) (w : World), GrowInvE ops n D posts a0 w0 listed vals a w → left listed n = m → wpAny P .any ops Q (m + (ops.size - n)) listed a w := by
  simp only [growB, Bool.and_eq_true, decide_eq_true_eq] at hB
  obtain ⟨⟨⟨⟨⟨⟨hsel, hn⟩, hfirst⟩, hD⟩, hnd⟩, hph⟩, hch⟩ := hB
  rw [List.all_eq_true] at hfirst hD hph
  intro m
  induction m with
  | zero =>
    intro listed vals a w I hl
    have hall := left_zero hl
    have hlist : listed = firstN ops.size n := by
      apply Array.ext
      · simp [firstN, I.size]
      · intro i h1 h2
        by_cases h : i < n
        · have := hall i h
          simp [h1] at this
          simp [firstN, h, this]
        · have := I.late i (by omega)
          simp [h1] at this
          simp [firstN, h, this]
    have hact : a = full a0 D vals := by
      have ht : a.tmps = (full a0 D vals).tmps := by
        apply Array.ext_getElem?
        intro s
        unfold full
        by_cases h : ∃ p ∈ D, p.2 = s
        · obtain ⟨⟨i, d⟩, hp, rfl⟩ := h
          have hi : i < n := by have := hD _ hp; simp at this; exact this.1
          rw [I.slot i d hp (hall i hi)]
          exact (fold_in vals i d D a0.tmps hp hnd (hsz _ hp)).symm
        · have h' : ∀ p ∈ D, p.2 ≠ s := fun p hp e => h ⟨p, hp, e⟩
          rw [I.other s h']
          exact (fold_out vals s D a0.tmps h').symm
      have hd := I.defers
      cases a
      simp only [full] at ht hd ⊢
      simp only [ht, hd]
    subst hact
    subst hlist
    have hc := wpAny_chain (P := P) (Q := Q) (ops.toList.drop n) n (firstN ops.size n) (full a0 D vals) w (fun j => by simp) (by simpa using hch) (hrest vals w I.world (fun i hi => I.post i hi (hall i hi)))
    simpa using hc
  | succ m ih =>
    intro listed vals a w I hl
    have e1 : m + 1 + (ops.size - n) = m + (ops.size - n) + 1 := by omega
    rw [e1]
    refine ⟨fun hr => ?_, fun i hi => ?_⟩
    · exfalso
      obtain ⟨i, h1, h2, h3⟩ := left_pos (listed := listed) (n := n) (by omega)
      have hio := hfirst i (List.mem_range.2 h1)
      cases hoi : ops[i]? with
      | none => rw [hoi] at hio; cases hio
      | some o =>
        rw [hoi] at hio
        simp only [Bool.and_eq_true] at hio
        have hm : i ∈ Region.ready .any ops listed := mem_ready.2 ⟨by rw [getD_eq (by rw [I.size]; omega) true false]; exact h2, o, hoi, fun e he hb => h3 _ (by
          have := List.all_eq_true.1 hio.1.1 e.on (by unfold edges; exact List.mem_map.2 ⟨e, List.mem_filter.2 ⟨by simpa using he, hb⟩, rfl⟩)
          simpa using this)⟩
        rw [hr] at hm
        cases hm
    · obtain ⟨hun, o, hoi, hdeps⟩ := mem_ready.1 hi
      have hed : ∀ e ∈ edges o, listed.getD e false = true := fun e he => by
        unfold edges at he
        obtain ⟨x, hx, rfl⟩ := List.mem_map.1 he
        obtain ⟨hx1, hx2⟩ := List.mem_filter.1 hx
        exact hdeps x (by simpa using hx1) hx2
      have his : i < ops.size := (Array.getElem?_eq_some_iff.1 hoi).1
      have hin : i < n := by
        apply Classical.byContradiction
        intro hge
        obtain ⟨j, h1, h2, _⟩ := left_pos (listed := listed) (n := n) (by omega)
        have hrch := hph i (List.mem_range'.2 ⟨i - n, by omega, by omega⟩)
        have hrj := List.all_eq_true.1 hrch j (List.mem_range.2 h1)
        have := reach_listed I.closed j ops.size i o hoi hed hrj
        rw [h2] at this
        cases this
      have hio := hfirst i (List.mem_range.2 hin)
      rw [hoi] at hio
      simp only [Bool.and_eq_true] at hio
      obtain ⟨⟨hlt, hdst⟩, hlook⟩ := hio
      have hjn : ∀ j ∈ edges o, j < n := fun j hj => by
        have := List.all_eq_true.1 hlt j hj
        simp at this
        omega
      have hagree : ∀ t ∈ o.looksAt ops, a.tmps[t]? = (full a0 D vals).tmps[t]? := fun t ht => by
        have := List.all_eq_true.1 hlook t ht
        simp only [Bool.or_eq_true] at this
        rcases this with h | h
        · have h' : ∀ p ∈ D, p.2 ≠ t := fun p hp => by
            have := List.all_eq_true.1 h p hp
            simpa using this
          rw [I.other t h']
          exact (fold_out vals t D a0.tmps h').symm
        · obtain ⟨j, hj, hc⟩ := List.any_eq_true.1 h
          have hp : (j, t) ∈ D := by simpa using hc
          rw [I.slot j t hp (hed j hj)]
          exact (fold_in vals j t D a0.tmps hp hnd (hsz _ hp)).symm
      have hex : execOp a.eval o = execOp (full a0 D vals).eval o := execOp_congr o (fun cs b => Region.noSelect_spec hsel i o cs b hoi) fun x hx => eval_congr fun t ht => hagree t (by
        subst ht
        exact List.mem_append_left _ (List.mem_filterMap.2 ⟨.tmp t, by simpa using hx, rfl⟩))
      have hwa := wanted_congr (ops := ops) (o := o) hagree
      have H := hop i hin o hoi vals w I.world fun j hj => I.post j (hjn j hj) (hed j hj)
      have hls : i < listed.size := by rw [I.size]; exact his
      have hun' : listed.getD i false = false := by rw [getD_eq hls false true]; exact hun
      have next : ∀ v w', Gro w w' → (posts i).p v w' → wpAny P .any ops Q (m + (ops.size - n)) (listed.setIfInBounds i true) (a.put o.dst v) w' := fun v w' hg hv => by
        refine ih (listed.setIfInBounds i true) (fun j => if j = i then v else vals j) _ _ ?_ ?_
        · have hgetj : ∀ j, j ≠ i → (listed.setIfInBounds i true).getD j false = listed.getD j false := fun j hj => getD_set_ne false (Ne.symm hj)
          refine ⟨by simpa using I.size, fun j hj => ?_, fun j oj hoj hjl e he => ?_, ?_, ?_, fun j d hp hjl => ?_, fun s hs => ?_, I.world.trans hg, fun j hj hjl => ?_⟩
          · rw [hgetj j (by omega)]; exact I.late j hj
          · apply getD_set_true
            by_cases hji : j = i
            · subst hji; rw [hoi] at hoj; cases hoj; exact hed e he
            · rw [hgetj j hji] at hjl; exact I.closed j oj hoj hjl e he
          · cases hd : o.dst <;> simp [Act.put, I.defers]
          · cases hd : o.dst <;> simp [Act.put, I.tsize]
          · by_cases hji : j = i
            · subst hji
              have hd : o.dst = some d := by have := hD _ hp; simp [hoi] at this; exact this.2
              have := hsz _ hp
              simp only [hd, Act.put, if_true]
              simp [I.tsize, this]
            · rw [hgetj j hji] at hjl
              have hne : ∀ d', o.dst = some d' → d' ≠ d := fun d' hd' e => by
                rw [hd'] at hdst
                have hp' : (i, d') ∈ D := by simpa using hdst
                subst e
                have h1 := fold_in (fun k => .int .i64 k) i d' D (Array.replicate (d' + 1) undef) hp' hnd (by simp)
                have h2 := fold_in (fun k => .int .i64 k) j d' D (Array.replicate (d' + 1) undef) hp hnd (by simp)
                rw [h1] at h2
                simp at h2
                exact hji (by omega)
              rw [if_neg hji, ← I.slot j d hp hjl]
              cases hd : o.dst with
              | none => rfl
              | some d' => simp only [Act.put]; exact Array.getElem?_setIfInBounds_ne (hne d' hd)
          · rw [← I.other s hs]
            cases hd : o.dst with
            | none => rfl
            | some d' =>
              rw [hd] at hdst
              have hp' : (i, d') ∈ D := by simpa using hdst
              simp only [Act.put]; exact Array.getElem?_setIfInBounds_ne (hs _ hp')
          · by_cases hji : j = i
            · subst hji; simp only [if_true]; exact hv
            · rw [hgetj j hji] at hjl
              simp only [if_neg hji]; exact (posts j).st _ _ _ hg (I.post j hj hjl)
        · have := left_set hls hun' n
          rw [if_pos hin] at this
          omega
      unfold wpOp
      rw [hoi]
      show if _ then _ else _
      rw [hwa]
      split
      · rename_i hw
        rw [if_pos hw] at H
        exact Or.inl (Oper.wp_of_uponE (by rw [hex]) H next)
      · rename_i hw
        rw [if_neg hw] at H
        exact next _ _ (Gro.refl _) H
/-! ### The same, for a region that is written out -/
def PostE.fill (k : PostE) (v : Value) : Value := k.fix.getD v
theorem PostE.fill_of {k : PostE} {v : Value} {w : World} (h : k.p v w) : k.fill v = v := by
  unfold PostE.fill
  cases hf : k.fix with
  | none => rfl
  | some u => exact (k.fx u hf v w h).symm
def postE (posts : List PostE) (i : Nat) : PostE := posts.getD i (.val undef)
def filledE (posts : List PostE) (ptrs : Nat → Value) (i : Nat) : Value := (postE posts i).fill (ptrs i)
structure OpE (P : Program) (ops : Array Oper) (k : PostE) (o : Oper) (A : Act) (w : World) : Prop where
  out : if Region.wanted o (yielded ops A.tmps) = true then k.upon P w ((execOp A.eval o).run P w) else k.p undef w
/-- Of these operations those of whose value only a fact is known: the fact. -/
def exHold (posts : List PostE) (ptrs : Nat → Value) (w : World) : List Nat → Prop
  | [] => True
  | j :: r => match (postE posts j).fix with
    | some _ => exHold posts ptrs w r
    | none => (postE posts j).p (ptrs j) w ∧ exHold posts ptrs w r
theorem exHold_of (posts : List PostE) (ptrs : Nat → Value) (w : World) : ∀ (l : List Nat), (∀ j ∈ l, (postE posts j).p (ptrs j) w) → exHold posts ptrs w l
  | [], _ => trivial
  | j :: r, h => by
    have h1 := h j List.mem_cons_self
    have h2 := exHold_of posts ptrs w r fun k hk => h k (List.mem_cons_of_mem _ hk)
    unfold exHold
    cases hp : (postE posts j).fix with
    | some _ => exact h2
    | none => exact ⟨h1, h2⟩
def opsE (P : Program) (ops : Array Oper) (posts : List PostE) (a0 : Act) (D : List (Nat × Nat)) (w0 : World) : Nat → List Oper → Prop
  | _, [] => True
  | i, o :: r => (∀ ptrs w, Gro w0 w → exHold posts ptrs w (edges o) → OpE P ops (postE posts i) o (full a0 D (filledE posts ptrs)) w) ∧ opsE P ops posts a0 D w0 (i + 1) r
theorem opsE_at {ops : Array Oper} {posts : List PostE} {a0 : Act} {D : List (Nat × Nat)} {w0 : World} : ∀ (l : List Oper) (k : Nat), opsE P ops posts a0 D w0 k l → ∀ i o, l[i]? = some o →
    ∀ ptrs w, Gro w0 w → exHold posts ptrs w (edges o) → OpE P ops (postE posts (k + i)) o (full a0 D (filledE posts ptrs)) w
  | [], _, _, _, _, h => by simp at h
  | o :: r, k, h, i, o', ho => by
    cases i with
    | zero => simp at ho; subst ho; exact h.1
    | succ i =>
      have := opsE_at r (k + 1) h.2 i o' (by simpa using ho)
      have e : k + 1 + i = k + (i + 1) := by omega
      rw [e] at this
      exact this
/-- **A region in whatever order**: its first n operations lay what 'posts' says, whatever has come up ahead of them; the others come up behind them, one behind the other. -/
theorem wp_region_ex {id : Nat} {l : List Oper} {Q : Exit → Act → World → Prop} {a0 : Act} {w : World} (n : Nat) (D : List (Nat × Nat)) (posts : List PostE) (hm : P.follows .mixedOrders = true)
    (hB : growB l.toArray n D = true) (hsz : (D.all fun p => decide (p.2 < a0.tmps.size)) = true)
    (hop : opsE P l.toArray posts a0 D w.drew 0 (l.take n))
    (hrest : ∀ ptrs w', Gro w.drew w' → exHold posts ptrs w' (List.range n) → wpList P l.toArray Q (l.drop n) (full a0 D (filledE posts ptrs)) w') :
    (Code.region id l.toArray true).wp P Q a0 w := by
  have hB' := hB
  simp only [growB, Bool.and_eq_true, decide_eq_true_eq] at hB'
  obtain ⟨⟨⟨⟨⟨⟨hsel, hn⟩, hfirst⟩, hD⟩, hnd⟩, hph⟩, hch⟩ := hB'
  have hn' : n ≤ l.length := by simpa using hn
  have hsz' : ∀ p ∈ D, p.2 < a0.tmps.size := fun p hp => by
    have := List.all_eq_true.1 hsz p hp
    simpa using this
  refine wp_region_any hm ?_
  have hDn : ∀ p ∈ D, p.1 < n := fun p hp => by have := List.all_eq_true.1 hD p hp; simp at this; exact this.1
  have main := wpAny_ex (P := P) (ops := l.toArray) (n := n) (D := D) (posts := postE posts) (a0 := a0) (w0 := w.drew) (Q := Q) hB hsz' (fun i hi o ho vals w' hg hdeps => by
      have hoi : (l.take n)[i]? = some o := by rw [List.getElem?_take_of_lt hi]; simpa using ho
      have H := opsE_at (l.take n) 0 hop i o hoi vals w' hg (exHold_of posts vals w' _ hdeps)
      rw [Nat.zero_add] at H
      have hio := List.all_eq_true.1 hfirst i (List.mem_range.2 hi)
      rw [ho] at hio
      simp only [Bool.and_eq_true] at hio
      obtain ⟨_, hlook⟩ := hio
      have hagree : ∀ t ∈ o.looksAt l.toArray, (full a0 D vals).tmps[t]? = (full a0 D (filledE posts vals)).tmps[t]? := fun t ht => by
        have := List.all_eq_true.1 hlook t ht
        simp only [Bool.or_eq_true] at this
        rcases this with h | h
        · have h' : ∀ p ∈ D, p.2 ≠ t := fun p hp => by
            have := List.all_eq_true.1 h p hp
            simpa using this
          unfold full
          rw [fold_out vals t D a0.tmps h', fold_out _ t D a0.tmps h']
        · obtain ⟨j, hj, hc⟩ := List.any_eq_true.1 h
          have hp : (j, t) ∈ D := by simpa using hc
          unfold full
          rw [fold_in vals j t D a0.tmps hp hnd (hsz' _ hp), fold_in _ j t D a0.tmps hp hnd (hsz' _ hp)]
          unfold filledE
          rw [PostE.fill_of (hdeps j hj)]
      have hex : execOp (full a0 D vals).eval o = execOp (full a0 D (filledE posts vals)).eval o := execOp_congr o (fun cs b => Region.noSelect_spec hsel i o cs b ho) fun x hx => eval_congr fun t ht => hagree t (by
        subst ht
        exact List.mem_append_left _ (List.mem_filterMap.2 ⟨.tmp t, by simpa using hx, rfl⟩))
      have hwa := wanted_congr (ops := l.toArray) (o := o) hagree
      rw [hwa, hex]
      exact H.out)
    (fun vals w' hg hall => by
      have e : full a0 D vals = full a0 D (filledE posts vals) := full_congr fun p hp => (PostE.fill_of (hall p.1 (hDn p hp))).symm
      rw [e]
      have := hrest vals w' hg (exHold_of posts vals w' _ fun j hj => hall j (List.mem_range.1 hj))
      simpa using this)
    n (Array.replicate l.length false) (fun _ => undef) a0 w.drew
    ⟨by simp, fun i _ => by by_cases h : i < l.length <;> simp [h], fun j o _ hj => by by_cases h : j < l.length <;> simp [h] at hj, rfl, rfl,
      fun i d _ hi => by by_cases h : i < l.length <;> simp [h] at hi, fun _ _ => rfl, Gro.refl _, fun i _ hi => by by_cases h : i < l.length <;> simp [h] at hi⟩
    (by
      have hz : ∀ m, m ≤ l.length → left (Array.replicate l.length false) m = m := by
        intro m
        induction m with
        | zero => intro _; simp [left]
        | succ m ih => intro hm; rw [left_succ, ih (by omega)]; simp [show m < l.length by omega]
      exact hz n hn')
  have e1 : n + (l.toArray.size - n) = l.toArray.size := by simp; omega
  rw [e1] at main
  simpa using main
/-- The same, the frame written out by the caller. -/
def opsA (P : Program) (ops : Array Oper) (posts : List PostE) (A : (Nat → Value) → Act) (w0 : World) : Nat → List Oper → Prop
  | _, [] => True
  | i, o :: r => (∀ ptrs w, Gro w0 w → exHold posts ptrs w (edges o) → OpE P ops (postE posts i) o (A ptrs) w) ∧ opsA P ops posts A w0 (i + 1) r
theorem opsA_nil {ops : Array Oper} {posts : List PostE} {A : (Nat → Value) → Act} {w0 : World} {i : Nat} : opsA P ops posts A w0 i [] := trivial
theorem opsA_cons {ops : Array Oper} {posts : List PostE} {A : (Nat → Value) → Act} {w0 : World} {i : Nat} {o : Oper} {r : List Oper}
    (h : ∀ ptrs w, Gro w0 w → exHold posts ptrs w (edges o) → OpE P ops (postE posts i) o (A ptrs) w) (hr : opsA P ops posts A w0 (i + 1) r) : opsA P ops posts A w0 i (o :: r) := ⟨h, hr⟩
theorem opsE_of_A {ops : Array Oper} {posts : List PostE} {a0 : Act} {D : List (Nat × Nat)} {w0 : World} : ∀ (l : List Oper) (i : Nat), opsA P ops posts (fun ptrs => full a0 D (filledE posts ptrs)) w0 i l → opsE P ops posts a0 D w0 i l
  | [], _, _ => trivial
  | _ :: r, i, h => ⟨h.1, opsE_of_A r (i + 1) h.2⟩
theorem wp_region_exA {id : Nat} {l : List Oper} {Q : Exit → Act → World → Prop} {a0 : Act} {w : World} {A : (Nat → Value) → Act} (n : Nat) (D : List (Nat × Nat)) (posts : List PostE) (hm : P.follows .mixedOrders = true)
    (hB : growB l.toArray n D = true) (hsz : (D.all fun p => decide (p.2 < a0.tmps.size)) = true)
    (hA : ∀ ptrs, full a0 D (filledE posts ptrs) = A ptrs)
    (hop : opsA P l.toArray posts A w.drew 0 (l.take n))
    (hrest : ∀ ptrs w', Gro w.drew w' → exHold posts ptrs w' (List.range n) → wpList P l.toArray Q (l.drop n) (A ptrs) w') :
    (Code.region id l.toArray true).wp P Q a0 w := by
  have e : A = fun ptrs => full a0 D (filledE posts ptrs) := funext fun ptrs => (hA ptrs).symm
  subst e
  exact wp_region_ex n D posts hm hB hsz (opsE_of_A _ _ hop) hrest
section
variable {ops : Array Oper} {o : Oper} {A : Act} {w : World}
/-- An operation that yields a known value and leaves the world alone. -/
theorem opE_value {v : Value} (hw : Region.wanted o (yielded ops A.tmps) = true) (h : (execOp A.eval o).run P w = .ok (.value v) w) : OpE P ops (.val v) o A w :=
  ⟨by rw [if_pos hw, h]; exact ⟨Gro.refl _, rfl⟩⟩
theorem opE_skip (hw : Region.wanted o (yielded ops A.tmps) = false) : OpE P ops (.val undef) o A w :=
  ⟨by rw [if_neg (by rw [hw]; exact Bool.false_ne_true)]; rfl⟩
theorem opE_call (k : PostE) (hw : Region.wanted o (yielded ops A.tmps) = true) (c : Call) (f : FuncId) (hen : ∀ args w, (callFunc f args).run P w = .ok (.enter f args) w) (ho : o.op = .call c) (hc : c.callee = .value (.func f)) (xs : List Operand) (hxs : c.args = xs.toArray) (vs : List Value) (hvs : xs.map A.eval = vs)
    (H : Calls P f vs.toArray w fun e w' => ∃ v, e = .returned v ∧ Gro w w' ∧ k.p v w') : OpE P ops k o A w :=
  ⟨by rw [if_pos hw, run_call c f hen ho hc, hxs, List.map_toArray, hvs]; exact H⟩
theorem opE_move (x : Operand) (ho : o.op = .move x) (hw : Region.wanted o (yielded ops A.tmps) = true) {v : Value} (hv : A.eval x = v) : OpE P ops (.val v) o A w :=
  opE_value hw (by unfold execOp; simp [ho, hv])
theorem opE_pick (x y z : Operand) (ho : o.op = .pick x y z) (hw : Region.wanted o (yielded ops A.tmps) = true) (b : Bool) (hx : A.eval x = .bool b) {v : Value} (hv : (if b then A.eval y else A.eval z) = v) : OpE P ops (.val v) o A w :=
  opE_value hw (by unfold execOp; subst hv; simp only [ho, hx]; cases b <;> simp [asBool])
end
end
end Go.Proofs.YtmjblbgalkjmiaaGreat
