import Derived.Test.YtgfnjekpafempaaGreatBOps
import Derived.Laws.AppendOwnNone
import Derived.Laws.BytesString
import Derived.Laws.CopyOwn
import Derived.Lib.BufferRead
namespace Go.Proofs.YtgfnjekpafempaaGreat
open Go.RowKit
section
variable {P : Program}
structure PostE where
  fix : Option Value
  p : Value → World → Prop
  st : ∀ v w w', Gro w w' → p v w → p v w'
  fx : ∀ u, fix = some u → ∀ v w, p v w → v = u
def PostE.val (v : Value) : PostE := ⟨some v, fun u _ => u = v, fun _ _ _ _ h => h, fun u hu v' w h => by cases hu; exact h⟩
def PostE.ex (p : Value → World → Prop) (st : ∀ v w w', Gro w w' → p v w → p v w') : PostE := ⟨none, p, st, fun u hu => by cases hu⟩
def PostE.upon (P : Program) (k : PostE) (w : World) : Result Next → Prop
  | .ok (.value v) w' => Gro w w' ∧ k.p v w'
  | .ok .skip w' => Gro w w' ∧ k.p undef w'
  | .ok (.enter f args) w' => Calls P f args w' fun e w'' => ∃ v, e = .returned v ∧ Gro w w'' ∧ k.p v w''
  | _ => False
structure GrowInvE (ops : Array Oper) (n : Nat) (D : List (Nat × Nat)) (posts : Nat → PostE) (a0 : Act) (w0 : World) (listed : Array Bool) (vals : Nat → Value) (a : Act) (w : World) : Prop where
  size : listed.size = ops.size
  late : ∀ i, n ≤ i → listed.getD i false = false
  closed : ∀ j o, ops[j]? = some o → listed.getD j false = true → ∀ e ∈ edges o, listed.getD e false = true
  defers : a.defers = a0.defers
  tsize : a.tmps.size = a0.tmps.size
  slot : ∀ i d, (i, d) ∈ D → listed.getD i false = true → a.tmps[d]? = some (vals i)
  other : ∀ s, (∀ p ∈ D, p.2 ≠ s) → a.tmps[s]? = a0.tmps[s]?
  world : Gro w0 w
  post : ∀ i, i < n → listed.getD i false = true → (posts i).p (vals i) w
theorem Oper.wp_of_uponE {o : Oper} {k : PostE} {a : Act} {w : World} {K : Act → World → Prop} {Q : Exit → Act → World → Prop} {r : Result Next} (he : (execOp a.eval o).run P w = r) (h : k.upon P w r)
    (hK : ∀ v w', Gro w w' → k.p v w' → K (a.put o.dst v) w') : o.wp P a w K Q := by
  unfold Oper.wp
  rw [he]
  cases r with
  | ok n w' =>
    cases n <;> simp only [PostE.upon] at h <;> simp only [Oper.upon]
    case value v => exact hK _ _ h.1 h.2
    case skip => exact hK _ _ h.1 h.2
    case enter f args => exact Calls.mono h fun e w'' ⟨v, he, hg, hv⟩ => by subst he; exact hK _ _ hg hv
  | halt x w' => simp only [PostE.upon] at h
theorem ZD {ops : Array Oper} {n : Nat} {D : List (Nat × Nat)} {posts : Nat → PostE} {a0 : Act} {w0 : World} {Q : Exit → Act → World → Prop} (hB : growB ops n D = true) (hsz : ∀ p ∈ D, p.2 < a0.tmps.size)
    (hop : ∀ i, i < n → ∀ o, ops[i]? = some o → ∀ vals w, Gro w0 w → (∀ j ∈ edges o, (posts j).p (vals j) w) →
      if Region.wanted o (yielded ops (full a0 D vals).tmps) = true then (posts i).upon P w ((execOp (full a0 D vals).eval o).run P w) else (posts i).p undef w)
    (hrest : ∀ vals w, Gro w0 w → (∀ i, i < n → (posts i).p (vals i) w) →
      wpList P ops Q (ops.toList.drop n) (full a0 D vals) w) :
    ∀ (m : Nat) (listed : Array Bool) (vals : Nat → Value) (a : Act) (w : World), GrowInvE ops n D posts a0 w0 listed vals a w → left listed n = m → wpAny P .any ops Q (m + (ops.size - n)) listed a w := by
  simp only [growB, Bool.and_eq_true, decide_eq_true_eq] at hB
  obtain ⟨⟨⟨⟨⟨⟨hsel, hn⟩, hfirst⟩, hD⟩, hnd⟩, hph⟩, hch⟩ := hB
  rw [List.all_eq_true] at hfirst hD hph
  intro m
  induction m with
  | zero =>
    intro listed vals a w I hl
    have hall := vC hl
    have hlist : listed = firstN ops.size n := by
      apply Array.ext
      · simp [firstN, I.size]
      · intro i h1 h2
        by_cases h : i < n
        · have := hall i h
          simp [h1] at this
          simp [firstN, h, this]
        · have := I.late i (by omega)
          simp [h1] at this
          simp [firstN, h, this]
    have hact : a = full a0 D vals := by
      have ht : a.tmps = (full a0 D vals).tmps := by
        apply Array.ext_getElem?
        intro s
        unfold full
        by_cases h : ∃ p ∈ D, p.2 = s
        · obtain ⟨⟨i, d⟩, hp, rfl⟩ := h
          have hi : i < n := by have := hD _ hp; simp at this; exact this.1
          rw [I.slot i d hp (hall i hi)]
          exact (zy vals i d D a0.tmps hp hnd (hsz _ hp)).symm
        · have h' : ∀ p ∈ D, p.2 ≠ s := fun p hp e => h ⟨p, hp, e⟩
          rw [I.other s h']
          exact (zN vals s D a0.tmps h').symm
      have hd := I.defers
      cases a
      simp only [full] at ht hd ⊢
      simp only [ht, hd]
    subst hact
    subst hlist
    have hc := vf (P := P) (Q := Q) (ops.toList.drop n) n (firstN ops.size n) (full a0 D vals) w (fun j => by simp) (by simpa using hch) (hrest vals w I.world (fun i hi => I.post i hi (hall i hi)))
    simpa using hc
  | succ m ih =>
    intro listed vals a w I hl
    have e1 : m + 1 + (ops.size - n) = m + (ops.size - n) + 1 := by omega
    rw [e1]
    refine ⟨fun hr => ?_, fun i hi => ?_⟩
    · exfalso
      obtain ⟨i, h1, h2, h3⟩ := yZ (listed := listed) (n := n) (by omega)
      have hio := hfirst i (List.mem_range.2 h1)
      cases hoi : ops[i]? with
      | none => rw [hoi] at hio; cases hio
      | some o =>
        rw [hoi] at hio
        simp only [Bool.and_eq_true] at hio
        have hm : i ∈ Region.ready .any ops listed := mem_ready.2 ⟨by rw [uK (by rw [I.size]; omega) true false]; exact h2, o, hoi, fun e he hb => h3 _ (by
          have := List.all_eq_true.1 hio.1.1 e.on (by unfold edges; exact List.mem_map.2 ⟨e, List.mem_filter.2 ⟨by simpa using he, hb⟩, rfl⟩)
          simpa using this)⟩
        rw [hr] at hm
        cases hm
    · obtain ⟨hun, o, hoi, hdeps⟩ := mem_ready.1 hi
      have hed : ∀ e ∈ edges o, listed.getD e false = true := fun e he => by
        unfold edges at he
        obtain ⟨x, hx, rfl⟩ := List.mem_map.1 he
        obtain ⟨hx1, hx2⟩ := List.mem_filter.1 hx
        exact hdeps x (by simpa using hx1) hx2
      have his : i < ops.size := (Array.getElem?_eq_some_iff.1 hoi).1
      have hin : i < n := by
        apply Classical.byContradiction
        intro hge
        obtain ⟨j, h1, h2, _⟩ := yZ (listed := listed) (n := n) (by omega)
        have hrch := hph i (List.mem_range'.2 ⟨i - n, by omega, by omega⟩)
        have hrj := List.all_eq_true.1 hrch j (List.mem_range.2 h1)
        have := yK I.closed j ops.size i o hoi hed hrj
        rw [h2] at this
        cases this
      have hio := hfirst i (List.mem_range.2 hin)
      rw [hoi] at hio
      simp only [Bool.and_eq_true] at hio
      obtain ⟨⟨hlt, hdst⟩, hlook⟩ := hio
      have hjn : ∀ j ∈ edges o, j < n := fun j hj => by
        have := List.all_eq_true.1 hlt j hj
        simp at this
        omega
      have hagree : ∀ t ∈ o.looksAt ops, a.tmps[t]? = (full a0 D vals).tmps[t]? := fun t ht => by
        have := List.all_eq_true.1 hlook t ht
        simp only [Bool.or_eq_true] at this
        rcases this with h | h
        · have h' : ∀ p ∈ D, p.2 ≠ t := fun p hp => by
            have := List.all_eq_true.1 h p hp
            simpa using this
          rw [I.other t h']
          exact (zN vals t D a0.tmps h').symm
        · obtain ⟨j, hj, hc⟩ := List.any_eq_true.1 h
          have hp : (j, t) ∈ D := by simpa using hc
          rw [I.slot j t hp (hed j hj)]
          exact (zy vals j t D a0.tmps hp hnd (hsz _ hp)).symm
      have hex : execOp a.eval o = execOp (full a0 D vals).eval o := execOp_congr o (fun cs b => Region.noSelect_spec hsel i o cs b hoi) fun x hx => yw fun t ht => hagree t (by
        subst ht
        exact List.mem_append_left _ (List.mem_filterMap.2 ⟨.tmp t, by simpa using hx, rfl⟩))
      have hwa := zT (ops := ops) (o := o) hagree
      have H := hop i hin o hoi vals w I.world fun j hj => I.post j (hjn j hj) (hed j hj)
      have hls : i < listed.size := by rw [I.size]; exact his
      have hun' : listed.getD i false = false := by rw [uK hls false true]; exact hun
      have next : ∀ v w', Gro w w' → (posts i).p v w' → wpAny P .any ops Q (m + (ops.size - n)) (listed.setIfInBounds i true) (a.put o.dst v) w' := fun v w' hg hv => by
        refine ih (listed.setIfInBounds i true) (fun j => if j = i then v else vals j) _ _ ?_ ?_
        · have hgetj : ∀ j, j ≠ i → (listed.setIfInBounds i true).getD j false = listed.getD j false := fun j hj => getD_set_ne false (Ne.symm hj)
          refine ⟨by simpa using I.size, fun j hj => ?_, fun j oj hoj hjl e he => ?_, ?_, ?_, fun j d hp hjl => ?_, fun s hs => ?_, I.world.trans hg, fun j hj hjl => ?_⟩
          · rw [hgetj j (by omega)]; exact I.late j hj
          · apply getD_set_true
            by_cases hji : j = i
            · subst hji; rw [hoi] at hoj; cases hoj; exact hed e he
            · rw [hgetj j hji] at hjl; exact I.closed j oj hoj hjl e he
          · cases hd : o.dst <;> simp [Act.put, I.defers]
          · cases hd : o.dst <;> simp [Act.put, I.tsize]
          · by_cases hji : j = i
            · subst hji
              have hd : o.dst = some d := by have := hD _ hp; simp [hoi] at this; exact this.2
              have := hsz _ hp
              simp only [hd, Act.put, if_true]
              simp [I.tsize, this]
            · rw [hgetj j hji] at hjl
              have hne : ∀ d', o.dst = some d' → d' ≠ d := fun d' hd' e => by
                rw [hd'] at hdst
                have hp' : (i, d') ∈ D := by simpa using hdst
                subst e
                have h1 := zy (fun k => .int .i64 k) i d' D (Array.replicate (d' + 1) undef) hp' hnd (by simp)
                have h2 := zy (fun k => .int .i64 k) j d' D (Array.replicate (d' + 1) undef) hp hnd (by simp)
                rw [h1] at h2
                simp at h2
                exact hji (by omega)
              rw [if_neg hji, ← I.slot j d hp hjl]
              cases hd : o.dst with
              | none => rfl
              | some d' => simp only [Act.put]; exact Array.getElem?_setIfInBounds_ne (hne d' hd)
          · rw [← I.other s hs]
            cases hd : o.dst with
            | none => rfl
            | some d' =>
              rw [hd] at hdst
              have hp' : (i, d') ∈ D := by simpa using hdst
              simp only [Act.put]; exact Array.getElem?_setIfInBounds_ne (hs _ hp')
          · by_cases hji : j = i
            · subst hji; simp only [if_true]; exact hv
            · rw [hgetj j hji] at hjl
              simp only [if_neg hji]; exact (posts j).st _ _ _ hg (I.post j hj hjl)
        · have := JB hls hun' n
          rw [if_pos hin] at this
          omega
      unfold wpOp
      rw [hoi]
      show if _ then _ else _
      rw [hwa]
      split
      · rename_i hw
        rw [if_pos hw] at H
        exact Or.inl (Oper.wp_of_uponE (by rw [hex]) H next)
      · rename_i hw
        rw [if_neg hw] at H
        exact next _ _ (Gro.refl _) H
/-! ### The same, for a region that is written out -/
def PostE.fill (k : PostE) (v : Value) : Value := k.fix.getD v
theorem PostE.fill_of {k : PostE} {v : Value} {w : World} (h : k.p v w) : k.fill v = v := by
  unfold PostE.fill
  cases hf : k.fix with
  | none => rfl
  | some u => exact (k.fx u hf v w h).symm
def postE (posts : List PostE) (i : Nat) : PostE := posts.getD i (.val undef)
def filledE (posts : List PostE) (ptrs : Nat → Value) (i : Nat) : Value := (postE posts i).fill (ptrs i)
structure OpE (P : Program) (ops : Array Oper) (k : PostE) (o : Oper) (A : Act) (w : World) : Prop where
  out : if Region.wanted o (yielded ops A.tmps) = true then k.upon P w ((execOp A.eval o).run P w) else k.p undef w
def exHold (posts : List PostE) (ptrs : Nat → Value) (w : World) : List Nat → Prop
  | [] => True
  | j :: r => match (postE posts j).fix with
    | some _ => exHold posts ptrs w r
    | none => (postE posts j).p (ptrs j) w ∧ exHold posts ptrs w r
theorem yu (posts : List PostE) (ptrs : Nat → Value) (w : World) : ∀ (l : List Nat), (∀ j ∈ l, (postE posts j).p (ptrs j) w) → exHold posts ptrs w l
  | [], _ => trivial
  | j :: r, h => by
    have h1 := h j List.mem_cons_self
    have h2 := yu posts ptrs w r fun k hk => h k (List.mem_cons_of_mem _ hk)
    unfold exHold
    cases hp : (postE posts j).fix with
    | some _ => exact h2
    | none => exact ⟨h1, h2⟩
def opsE (P : Program) (ops : Array Oper) (posts : List PostE) (a0 : Act) (D : List (Nat × Nat)) (w0 : World) : Nat → List Oper → Prop
  | _, [] => True
  | i, o :: r => (∀ ptrs w, Gro w0 w → exHold posts ptrs w (edges o) → OpE P ops (postE posts i) o (full a0 D (filledE posts ptrs)) w) ∧ opsE P ops posts a0 D w0 (i + 1) r
theorem Jw {ops : Array Oper} {posts : List PostE} {a0 : Act} {D : List (Nat × Nat)} {w0 : World} : ∀ (l : List Oper) (k : Nat), opsE P ops posts a0 D w0 k l → ∀ i o, l[i]? = some o →
    ∀ ptrs w, Gro w0 w → exHold posts ptrs w (edges o) → OpE P ops (postE posts (k + i)) o (full a0 D (filledE posts ptrs)) w
  | [], _, _, _, _, h => by simp at h
  | o :: r, k, h, i, o', ho => by
    cases i with
    | zero => simp at ho; subst ho; exact h.1
    | succ i =>
      have := Jw r (k + 1) h.2 i o' (by simpa using ho)
      have e : k + 1 + i = k + (i + 1) := by omega
      rw [e] at this
      exact this
theorem Un {ops : Array Oper} {posts : List PostE} {a0 : Act} {D : List (Nat × Nat)} {w0 : World} {i : Nat} : opsE P ops posts a0 D w0 i [] := trivial
theorem vB {ops : Array Oper} {posts : List PostE} {a0 : Act} {D : List (Nat × Nat)} {w0 : World} {i : Nat} {o : Oper} {r : List Oper}
    (h : ∀ ptrs w, Gro w0 w → exHold posts ptrs w (edges o) → OpE P ops (postE posts i) o (full a0 D (filledE posts ptrs)) w) (hr : opsE P ops posts a0 D w0 (i + 1) r) : opsE P ops posts a0 D w0 i (o :: r) := ⟨h, hr⟩
theorem yI {id : Nat} {l : List Oper} {Q : Exit → Act → World → Prop} {a0 : Act} {w : World} (n : Nat) (D : List (Nat × Nat)) (posts : List PostE) (hm : P.follows .mixedOrders = true)
    (hB : growB l.toArray n D = true) (hsz : (D.all fun p => decide (p.2 < a0.tmps.size)) = true)
    (hop : opsE P l.toArray posts a0 D w.drew 0 (l.take n))
    (hrest : ∀ ptrs w', Gro w.drew w' → exHold posts ptrs w' (List.range n) → wpList P l.toArray Q (l.drop n) (full a0 D (filledE posts ptrs)) w') :
    (Code.region id l.toArray true).wp P Q a0 w := by
  have hB' := hB
  simp only [growB, Bool.and_eq_true, decide_eq_true_eq] at hB'
  obtain ⟨⟨⟨⟨⟨⟨hsel, hn⟩, hfirst⟩, hD⟩, hnd⟩, hph⟩, hch⟩ := hB'
  have hn' : n ≤ l.length := by simpa using hn
  have hsz' : ∀ p ∈ D, p.2 < a0.tmps.size := fun p hp => by
    have := List.all_eq_true.1 hsz p hp
    simpa using this
  refine wp_region_any hm ?_
  have hDn : ∀ p ∈ D, p.1 < n := fun p hp => by have := List.all_eq_true.1 hD p hp; simp at this; exact this.1
  have main := ZD (P := P) (ops := l.toArray) (n := n) (D := D) (posts := postE posts) (a0 := a0) (w0 := w.drew) (Q := Q) hB hsz' (fun i hi o ho vals w' hg hdeps => by
      have hoi : (l.take n)[i]? = some o := by rw [List.getElem?_take_of_lt hi]; simpa using ho
      have H := Jw (l.take n) 0 hop i o hoi vals w' hg (yu posts vals w' _ hdeps)
      rw [Nat.zero_add] at H
      have hio := List.all_eq_true.1 hfirst i (List.mem_range.2 hi)
      rw [ho] at hio
      simp only [Bool.and_eq_true] at hio
      obtain ⟨_, hlook⟩ := hio
      have hagree : ∀ t ∈ o.looksAt l.toArray, (full a0 D vals).tmps[t]? = (full a0 D (filledE posts vals)).tmps[t]? := fun t ht => by
        have := List.all_eq_true.1 hlook t ht
        simp only [Bool.or_eq_true] at this
        rcases this with h | h
        · have h' : ∀ p ∈ D, p.2 ≠ t := fun p hp => by
            have := List.all_eq_true.1 h p hp
            simpa using this
          unfold full
          rw [zN vals t D a0.tmps h', zN _ t D a0.tmps h']
        · obtain ⟨j, hj, hc⟩ := List.any_eq_true.1 h
          have hp : (j, t) ∈ D := by simpa using hc
          unfold full
          rw [zy vals j t D a0.tmps hp hnd (hsz' _ hp), zy _ j t D a0.tmps hp hnd (hsz' _ hp)]
          unfold filledE
          rw [PostE.fill_of (hdeps j hj)]
      have hex : execOp (full a0 D vals).eval o = execOp (full a0 D (filledE posts vals)).eval o := execOp_congr o (fun cs b => Region.noSelect_spec hsel i o cs b ho) fun x hx => yw fun t ht => hagree t (by
        subst ht
        exact List.mem_append_left _ (List.mem_filterMap.2 ⟨.tmp t, by simpa using hx, rfl⟩))
      have hwa := zT (ops := l.toArray) (o := o) hagree
      rw [hwa, hex]
      exact H.out)
    (fun vals w' hg hall => by
      have e : full a0 D vals = full a0 D (filledE posts vals) := Jc fun p hp => (PostE.fill_of (hall p.1 (hDn p hp))).symm
      rw [e]
      have := hrest vals w' hg (yu posts vals w' _ fun j hj => hall j (List.mem_range.1 hj))
      simpa using this)
    n (Array.replicate l.length false) (fun _ => undef) a0 w.drew
    ⟨by simp, fun i _ => by by_cases h : i < l.length <;> simp [h], fun j o _ hj => by by_cases h : j < l.length <;> simp [h] at hj, rfl, rfl,
      fun i d _ hi => by by_cases h : i < l.length <;> simp [h] at hi, fun _ _ => rfl, Gro.refl _, fun i _ hi => by by_cases h : i < l.length <;> simp [h] at hi⟩
    (by
      have hz : ∀ m, m ≤ l.length → left (Array.replicate l.length false) m = m := by
        intro m
        induction m with
        | zero => intro _; simp [left]
        | succ m ih => intro hm; rw [yq, ih (by omega)]; simp [show m < l.length by omega]
      exact hz n hn')
  have e1 : n + (l.toArray.size - n) = l.toArray.size := by simp; omega
  rw [e1] at main
  simpa using main
def opsA (P : Program) (ops : Array Oper) (posts : List PostE) (A : (Nat → Value) → Act) (w0 : World) : Nat → List Oper → Prop
  | _, [] => True
  | i, o :: r => (∀ ptrs w, Gro w0 w → exHold posts ptrs w (edges o) → OpE P ops (postE posts i) o (A ptrs) w) ∧ opsA P ops posts A w0 (i + 1) r
theorem jD {ops : Array Oper} {posts : List PostE} {A : (Nat → Value) → Act} {w0 : World} {i : Nat} : opsA P ops posts A w0 i [] := trivial
theorem ja {ops : Array Oper} {posts : List PostE} {A : (Nat → Value) → Act} {w0 : World} {i : Nat} {o : Oper} {r : List Oper}
    (h : ∀ ptrs w, Gro w0 w → exHold posts ptrs w (edges o) → OpE P ops (postE posts i) o (A ptrs) w) (hr : opsA P ops posts A w0 (i + 1) r) : opsA P ops posts A w0 i (o :: r) := ⟨h, hr⟩
theorem vA {ops : Array Oper} {posts : List PostE} {a0 : Act} {D : List (Nat × Nat)} {w0 : World} : ∀ (l : List Oper) (i : Nat), opsA P ops posts (fun ptrs => full a0 D (filledE posts ptrs)) w0 i l → opsE P ops posts a0 D w0 i l
  | [], _, _ => trivial
  | _ :: r, i, h => ⟨h.1, vA r (i + 1) h.2⟩
theorem jQ {id : Nat} {l : List Oper} {Q : Exit → Act → World → Prop} {a0 : Act} {w : World} {A : (Nat → Value) → Act} (n : Nat) (D : List (Nat × Nat)) (posts : List PostE) (hm : P.follows .mixedOrders = true)
    (hB : growB l.toArray n D = true) (hsz : (D.all fun p => decide (p.2 < a0.tmps.size)) = true)
    (hA : ∀ ptrs, full a0 D (filledE posts ptrs) = A ptrs)
    (hop : opsA P l.toArray posts A w.drew 0 (l.take n))
    (hrest : ∀ ptrs w', Gro w.drew w' → exHold posts ptrs w' (List.range n) → wpList P l.toArray Q (l.drop n) (A ptrs) w') :
    (Code.region id l.toArray true).wp P Q a0 w := by
  have e : A = fun ptrs => full a0 D (filledE posts ptrs) := funext fun ptrs => (hA ptrs).symm
  subst e
  exact yI n D posts hm hB hsz (vA _ _ hop) hrest
section
variable {ops : Array Oper} {o : Oper} {A : Act} {w : World}
theorem jb {v : Value} (hw : Region.wanted o (yielded ops A.tmps) = true) (h : (execOp A.eval o).run P w = .ok (.value v) w) : OpE P ops (.val v) o A w :=
  ⟨by rw [if_pos hw, h]; exact ⟨Gro.refl _, rfl⟩⟩
theorem jA (hw : Region.wanted o (yielded ops A.tmps) = false) : OpE P ops (.val undef) o A w :=
  ⟨by rw [if_neg (by rw [hw]; exact Bool.false_ne_true)]; rfl⟩
theorem zi (k : PostE) (hw : Region.wanted o (yielded ops A.tmps) = true) (c : Call) (f : FuncId) (hen : ∀ args w, (callFunc f args).run P w = .ok (.enter f args) w) (ho : o.op = .call c) (hc : c.callee = .value (.func f)) (xs : List Operand) (hxs : c.args = xs.toArray) (vs : List Value) (hvs : xs.map A.eval = vs)
    (H : Calls P f vs.toArray w fun e w' => ∃ v, e = .returned v ∧ Gro w w' ∧ k.p v w') : OpE P ops k o A w :=
  ⟨by rw [if_pos hw, Jo c f hen ho hc, hxs, List.map_toArray, hvs]; exact H⟩
theorem uA (k : PostE) (hw : Region.wanted o (yielded ops A.tmps) = true) {v : Value} {w' : World} (h : (execOp A.eval o).run P w = .ok (.value v) w') (hg : Gro w w') (hk : k.p v w') : OpE P ops k o A w :=
  ⟨by rw [if_pos hw, h]; exact ⟨hg, hk⟩⟩
theorem jf (x : Operand) (ho : o.op = .move x) (hw : Region.wanted o (yielded ops A.tmps) = true) {v : Value} (hv : A.eval x = v) : OpE P ops (.val v) o A w :=
  jb hw (by unfold execOp; simp [ho, hv])
theorem yd (x : Operand) (ho : o.op = .assign x) (hw : Region.wanted o (yielded ops A.tmps) = true) {v : Value} (hv : A.eval x = v) : OpE P ops (.val v) o A w :=
  jb hw (by unfold execOp; simp [ho, hv])
theorem zw (x y z : Operand) (ho : o.op = .pick x y z) (hw : Region.wanted o (yielded ops A.tmps) = true) (b : Bool) (hx : A.eval x = .bool b) {v : Value} (hv : (if b then A.eval y else A.eval z) = v) : OpE P ops (.val v) o A w :=
  jb hw (by unfold execOp; subst hv; simp only [ho, hx]; cases b <;> simp [asBool])
end
end
structure Shut (p : Prop) : Prop where
  out : p
structure Stop (p : Prop) : Prop where
  out : p
section
variable {P : Program}
structure NumT (P : Program) (t e : TypeId) (k : IntKind) (b : Nat) : Prop where
  und : P.underlying t = some (.slice e)
  ue : P.underlying e = some (.int k)
  info : ∃ i, P.info? e = some i ∧ i.zero = some (.int k 0) ∧ i.size = 1 ∧ i.bytes = b
structure NC (w : World) (k : IntKind) (ao : Option Addr) (cap : Nat) (l : List Nat) : Prop where
  fit : l.length ≤ cap
  bare : ao = none → cap = 0
  cell : ∀ ad, ao = some ad → ∀ j, j < l.length → w.cell? (ad.add j) = some (.int k (l.getD j 0 : Int))
  wf : ∀ x ∈ l, (x : Int) ≤ k.max
theorem JK (a : Addr) (i j : Nat) : (a.add i).add j = a.add (i + j) := by
  unfold Addr.add
  by_cases hi : i = 0
  · subst hi; simp
  · by_cases hj : j = 0
    · subst hj; simp [hi]
    · have : i + j ≠ 0 := by omega
      simp only [hi, hj, this, if_false]
      simp
theorem Ym (a : Addr) : a.add 0 = a := by simp [Addr.add]
theorem zY (a : Addr) (j : Nat) : (a.add j).block = a.block := by unfold Addr.add; split <;> rfl
theorem zQ (g i j : Nat) : (⟨g, i, none⟩ : Addr).add j = ⟨g, i + j, none⟩ := by unfold Addr.add; split <;> simp_all
section
variable {w w' : World} {k : IntKind} {ao : Option Addr} {cap : Nat} {l : List Nat}
theorem NC.at (h : NC w k ao cap l) {j : Nat} (hj : j < l.length) : ∃ ad, ao = some ad ∧ w.cell? (ad.add j) = some (.int k (l.getD j 0 : Int)) := by
  cases hao : ao with
  | none => have := h.bare hao; have := h.fit; omega
  | some ad => exact ⟨ad, rfl, h.cell ad hao j hj⟩
theorem NC.below (h : NC w k ao cap l) {B : Nat} (G : Below B w w') (hb : ∀ ad, ao = some ad → 0 < l.length → ad.block < B) : NC w' k ao cap l :=
  ⟨h.fit, h.bare, fun ad ha j hj => (World.cell?_of_block (G.block _ (by rw [zY]; exact hb ad ha (by omega)))).trans (h.cell ad ha j hj), h.wf⟩
theorem NC.lt (h : NC w k ao cap l) : ∀ ad, ao = some ad → 0 < l.length → ad.block < w.heap.size := fun ad ha h0 => by
  have := World.block_lt_of_cell? w _ (h.cell ad ha 0 h0)
  rwa [zY] at this
theorem NC.gro (h : NC w k ao cap l) (G : Gro w w') : NC w' k ao cap l := h.below G h.lt
theorem NC.nil (w : World) (k : IntKind) : NC w k none 0 [] := ⟨Nat.le_refl _, fun _ => rfl, fun _ h => by (cases h), fun _ h => by (cases h)⟩
theorem NC.drop (h : NC w k ao cap l) (i : Nat) (hi : i ≤ l.length) : NC w k (if cap = i then ao else ao.map (·.add i)) (cap - i) (l.drop i) := by
  have hf := h.fit
  refine ⟨by rw [List.length_drop]; omega, fun hn => ?_, fun ad ha j hj => ?_, fun x hx => h.wf x (List.mem_of_mem_drop hx)⟩
  · split at hn
    · have := h.bare hn; omega
    · cases hao : ao with
      | none => have := h.bare hao; omega
      | some a => rw [hao] at hn; cases hn
  · rw [List.length_drop] at hj
    rw [if_neg (by omega)] at ha
    cases hao : ao with
    | none => rw [hao] at ha; cases ha
    | some a =>
      rw [hao] at ha
      cases ha
      rw [JK, h.cell a hao (i + j) (by omega)]
      simp
theorem NC.take (h : NC w k ao cap l) (i : Nat) (hi : i ≤ l.length) : NC w k ao cap (l.take i) := by
  have hf := h.fit
  have hl : (l.take i).length = i := by rw [List.length_take]; omega
  refine ⟨by omega, h.bare, fun ad ha j hj => ?_, fun x hx => h.wf x (List.mem_of_mem_take hx)⟩
  rw [h.cell ad ha j (by omega), List.getD_eq_getElem?_getD, List.getD_eq_getElem?_getD, List.getElem?_take, if_pos (by omega)]
end
/-! ### Operations on rows -/
section
variable {o : Oper} {A : Act} {t e : TypeId} {k : IntKind} {b : Nat}
theorem NumT.size1 (T : NumT P t e k b) : (P.info? e).map (·.size) = some 1 := by
  obtain ⟨i, hi, _, hs, _⟩ := T.info
  rw [hi, Option.map_some, hs]
theorem ur (T : NumT P t e k b) (w : World) : (sizeOf e).run P w = .ok 1 w := by
  obtain ⟨i, hi, _, hs, _⟩ := T.info
  simp [sizeOf, typeInfo, hi, hs]
theorem ua (T : NumT P t e k b) (v : Value) (x y z : Option Value) (w : World) : (Instr.sliceAt t v x y z).run P w = (Instr.slice t v x y z).run P w := by
  simp only [Instr.sliceAt, Sem.run_bind, run_underlying T.und, Result.andThen_ok]
theorem Jn (T : NumT P t e k b) (x y : Operand) (ho : o.op = .slice t x (some y) none none) (ao : Option Addr) (n cap i : Nat) (hx : A.eval x = .slice ao n cap) (hy : A.eval y = .int .i64 (i : Int)) (hi : i ≤ n) (w : World) :
    (execOp A.eval o).run P w = .ok (.value (.slice (if cap = i then ao else ao.map (·.add i)) (n - i) (cap - i))) w := by
  have h : (Instr.slice t (.slice ao n cap) (some (.int .i64 (i : Int))) none none).run P w = .ok (.slice (if cap = i then ao else ao.map (·.add i)) (n - i) (cap - i)) w := by
    simp only [Instr.slice, Sem.run_bind, run_underlying T.und, Result.andThen_ok, Instr.sliceBounds, Instr.sliceBound, asIntOf, Sem.run_pure, ur T]
    have h2 : (0 : Int) ≤ (i : Int) ∧ (i : Int) ≤ (n : Int) := by omega
    simp [h2]
  unfold execOp
  simp only [ho, hx, hy, Option.map_some, Option.map_none, Sem.run_bind, ua T, h, Result.andThen_ok, Sem.run_pure]
theorem ZR (T : NumT P t e k b) (x y z : Operand) (ho : o.op = .slice t x (some y) (some z) none) (ao : Option Addr) (n cap i j : Nat) (hx : A.eval x = .slice ao n cap) (hy : A.eval y = .int .i64 (i : Int)) (hz : A.eval z = .int .i64 (j : Int)) (hi : i ≤ j) (hj : j ≤ cap) (w : World) :
    (execOp A.eval o).run P w = .ok (.value (.slice (if cap = i then ao else ao.map (·.add i)) (j - i) (cap - i))) w := by
  have h : (Instr.slice t (.slice ao n cap) (some (.int .i64 (i : Int))) (some (.int .i64 (j : Int))) none).run P w = .ok (.slice (if cap = i then ao else ao.map (·.add i)) (j - i) (cap - i)) w := by
    simp only [Instr.slice, Sem.run_bind, run_underlying T.und, Result.andThen_ok, Instr.sliceBounds, Instr.sliceBound, asIntOf, Sem.run_pure, ur T]
    have h2 : (0 : Int) ≤ (i : Int) ∧ (i : Int) ≤ (j : Int) := by omega
    have h3 : (0 : Int) ≤ (j : Int) ∧ (j : Int) ≤ (cap : Int) := by omega
    simp [h2, h3, hi]
  unfold execOp
  simp only [ho, hx, hy, hz, Option.map_some, Option.map_none, Sem.run_bind, ua T, h, Result.andThen_ok, Sem.run_pure]
theorem jck (T : NumT P t e k b) (x z : Operand) (ho : o.op = .slice t x none (some z) none) (ao : Option Addr) (n cap j : Nat) (hx : A.eval x = .slice ao n cap) (hz : A.eval z = .int .i64 (j : Int)) (hj : j ≤ cap) (w : World) :
    (execOp A.eval o).run P w = .ok (.value (.slice ao j cap)) w := by
  have h : (Instr.slice t (.slice ao n cap) none (some (.int .i64 (j : Int))) none).run P w = .ok (.slice ao j cap) w := by
    simp only [Instr.slice, Sem.run_bind, run_underlying T.und, Result.andThen_ok, Instr.sliceBounds, Instr.sliceBound, asIntOf, Sem.run_pure, ur T]
    have h3 : (0 : Int) ≤ (j : Int) ∧ (j : Int) ≤ (cap : Int) := by omega
    simp [h3]
    intro _
    cases ao <;> simp [Ym]
  unfold execOp
  simp only [ho, hx, hz, Option.map_some, Option.map_none, Sem.run_bind, ua T, h, Result.andThen_ok, Sem.run_pure]
theorem zf (T : NumT P t e k b) (x y : Operand) (ho : o.op = .indexAddr t x y) (ad : Addr) (n cap j : Nat) (hx : A.eval x = .slice (some ad) n cap) (hy : A.eval y = .int .i64 (j : Int)) (hj : j < n) (w : World) :
    (execOp A.eval o).run P w = .ok (.value (.pointer (some (ad.add j)))) w := by
  have h : (Instr.indexAt t (.slice (some ad) n cap) (.int .i64 (j : Int))).run P w = .ok (.pointer (some (ad.add j))) w := by
    simp only [Instr.indexAt, Sem.run_bind, run_underlying T.und, Result.andThen_ok]
    simp [asIntOf, hj, ur T]
  unfold execOp
  simp only [ho, hx, hy, Sem.run_bind, h, Result.andThen_ok, Sem.run_pure]
theorem zj (T : NumT P t e k b) (x : Operand) (ho : o.op = .load e x) (p : Addr) (hx : A.eval x = .pointer (some p)) (w : World) (v : Value) (hc : w.cell? p = some v) :
    (execOp A.eval o).run P w = .ok (.value v) w := by
  have hagg : (isAgg e).run P w = .ok false w := by simp [isAgg, run_underlying T.ue]
  unfold execOp
  simp only [ho, hx]
  simp [go_sem, hc, hagg]
end
/-! ### Texts of bytes -/
def bas (l : List Nat) : ByteArray := ⟨(l.map UInt8.ofNat).toArray⟩
theorem jdc (ns : List Int) : ∀ s : ByteArray, ns.foldl (fun r n => r.push (UInt8.ofNat n.toNat)) s = ⟨s.data ++ (ns.map fun n => UInt8.ofNat n.toNat).toArray⟩ := by
  induction ns with
  | nil => intro s; cases s; simp
  | cons n ns ih =>
    intro s
    rw [List.foldl_cons, ih]
    cases s
    simp only [ByteArray.push, List.map_cons]
    congr 1
    apply Array.toList_inj.1
    simp
theorem Vh {w : World} {k : IntKind} {ad : Addr} {cap : Nat} {l : List Nat} (h : NC w k (some ad) cap l) : (loadCells ad l.length).run P w = .ok (l.map fun x : Nat => Value.int k (x : Int)).toArray w := by
  have := run_loadCells_list (P := P) w ad (l.map fun x : Nat => Value.int k (x : Int)) fun j v hv => by
    rw [List.getElem?_map] at hv
    by_cases hj : j < l.length
    · rw [List.getElem?_eq_getElem hj] at hv
      have hc := h.cell ad rfl j hj
      rw [List.getD_eq_getElem?_getD, List.getElem?_eq_getElem hj] at hc
      rw [hc]
      simpa using hv
    · rw [List.getElem?_eq_none (by omega)] at hv
      cases hv
  simpa using this
theorem UQ {w : World} {t e : TypeId} {b : Nat} (T : NumT P t e .u8 b) (s : TypeId) (hs : P.underlying s = some .string) {ao : Option Addr} {cap : Nat} {l : List Nat} (h : NC w .u8 ao cap l) :
    (convert t s (.slice ao l.length cap)).run P w = .ok (.string (bas l)) w := by
  rw [run_convert_bytes_string w t s e ao l.length cap T.und T.ue hs]
  cases ao with
  | none =>
    have h1 := h.bare rfl
    have h2 := h.fit
    have : l = [] := List.eq_nil_of_length_eq_zero (by omega)
    subst this
    simp [Conv.bytesToString, bas]
    rfl
  | some ad =>
    rw [run_bytesToString w ad l.length cap (l.map fun x : Nat => (x : Int)) (by rw [Vh h]; simp [Function.comp_def])]
    rw [jdc]
    congr 3
    simp [Function.comp_def]
theorem zA {o : Oper} {A : Act} {w : World} {t e : TypeId} {b : Nat} (T : NumT P t e .u8 b) (s : TypeId) (hs : P.underlying s = some .string) (x : Operand) (ho : o.op = .convert t s x) {ao : Option Addr} {cap : Nat} {l : List Nat} (hx : A.eval x = .slice ao l.length cap) (h : NC w .u8 ao cap l) :
    (execOp A.eval o).run P w = .ok (.value (.string (bas l))) w := by
  unfold execOp
  simp only [ho, hx, Sem.run_bind, UQ T s hs h, Result.andThen_ok, Sem.run_pure]
theorem yY : IntKind.u8.max = 255 := rfl
theorem Kb : IntKind.u64.max = 18446744073709551615 := rfl
theorem bas_inj {l l' : List Nat} (h : ∀ x ∈ l, x < 256) (h' : ∀ x ∈ l', x < 256) (e : bas l = bas l') : l = l' := by
  unfold bas at e
  injection e with e
  have e2 := congrArg Array.toList e
  simp only at e2
  have : (l.map UInt8.ofNat).map UInt8.toNat = (l'.map UInt8.ofNat).map UInt8.toNat := by rw [e2]
  simp only [List.map_map] at this
  have f : ∀ m : List Nat, (∀ x ∈ m, x < 256) → m.map (UInt8.toNat ∘ UInt8.ofNat) = m := fun m hm => by
    conv => rhs; rw [← List.map_id m]
    apply List.map_congr_left
    intro x hx
    have := hm x hx
    simp [Function.comp, Nat.mod_eq_of_lt this]
  rw [f l h, f l' h'] at this
  exact this
theorem NC.lt256 {w : World} {ao : Option Addr} {cap : Nat} {l : List Nat} (h : NC w .u8 ao cap l) : ∀ x ∈ l, x < 256 := fun x hx => by
  have := h.wf x hx
  rw [yY] at this
  omega
theorem jbm (a b : ByteArray) : (a.toList == b.toList) = decide (a = b) := by
  rw [ByteArray.toList_eq, ByteArray.toList_eq]
  by_cases h : a = b
  · subst h; simp
  · have h2 : a.data.toList ≠ b.data.toList := fun e => h (by
      have h3 := Array.toList_inj.1 e
      cases a
      cases b
      simp at h3
      rw [h3])
    simp [h]
    exact fun e => h2 (by rw [e])
theorem jF {o : Oper} {A : Act} {w : World} (op : BinOp) (t : TypeId) (x y : Operand) (t2 : TypeId) (ho : o.op = .binOp op t x y t2) (u v r : Value) (hx : A.eval x = u) (hy : A.eval y = v) (hg : (eqGuard op t x y u v).run P w = .ok () w) (h : (binOp op t u v).run P w = .ok r w) :
    (execOp A.eval o).run P w = .ok (.value r) w := by
  unfold execOp
  simp only [ho, hx, hy, Sem.run_bind, hg, h, Result.andThen_ok, Sem.run_pure]
theorem ZO {o : Oper} {A : Act} (x y : Operand) (t2 : TypeId) (ho : o.op = .binOp .eql 9 x y t2) (a b : ByteArray) (hx : A.eval x = .string a) (hy : A.eval y = .string b) (p : Bool) (hp : decide (a = b) = p) (w : World) : (execOp A.eval o).run P w = .ok (.value (.bool p)) w :=
  jF .eql 9 x y t2 ho _ _ _ hx hy (by simp [eqGuard, go_sem]) (by
    have := jbm a b
    rw [hp] at this
    simp [go_sem, this])
/-! ### The call's own rows -/
structure OB (w : World) (e : TypeId) (k : IntKind) (B : Nat) (ao : Option Addr) (cap : Nat) (l : List Nat) : Prop where
  own : w.ownsRow B e 1 (.slice ao l.length cap) l.length (l.map fun r : Nat => Value.int k (r : Int))
  wf : ∀ x ∈ l, (x : Int) ≤ k.max
section
variable {w w' : World} {e : TypeId} {k : IntKind} {B : Nat} {ao : Option Addr} {cap : Nat} {l : List Nat}
theorem OB.nil (w : World) (e : TypeId) (k : IntKind) (B : Nat) : OB w e k B none 0 [] := ⟨World.ownsRow_nil _ _ _ _, fun _ h => by (cases h)⟩
theorem OB.nc (h : OB w e k B ao cap l) : NC w k ao cap l := by
  rcases h.own.2 with ⟨h1, h2⟩ | ⟨g, c, cur, h1, _, h2, h3, _, h4, h5⟩
  · injection h1 with e1 e2 e3
    subst e1 e3
    exact ⟨by omega, fun _ => rfl, fun _ h => by (cases h), h.wf⟩
  · injection h1 with e1 e2 e3
    subst e1 e3
    refine ⟨h3, fun h => by (cases h), fun ad ha j hj => ?_, h.wf⟩
    cases ha
    rw [zQ, Nat.zero_add, cell_of_row w g j _ e _ h2]
    have h6 : (l.map fun r : Nat => Value.int k (r : Int))[j]? = some (.int k (l.getD j 0 : Int)) := by
      rw [List.getElem?_map, List.getElem?_eq_getElem hj, List.getD_eq_getElem?_getD, List.getElem?_eq_getElem hj]
      rfl
    rw [← h5, List.getElem?_take, if_pos (by omega)] at h6
    simpa using h6
theorem OB.ge (h : OB w e k B ao cap l) : ∀ ad, ao = some ad → B ≤ ad.block ∧ ad.block < w.heap.size := fun ad ha => by
  subst ha
  exact h.own.lt _ rfl
theorem uj {w w' : World} (h : Below w.heap.size w w') : w.grownBy w' none := ⟨h.os, h.tape, h.output, h.size, fun k hk _ => h.block k hk⟩
theorem OB.gro (h : OB w e k B ao cap l) (G : Gro w w') : OB w' e k B ao cap l :=
  ⟨h.own.kept (uj G) (by cases hv : (Value.slice ao l.length cap).ownBlock <;> simp), h.wf⟩
theorem OB.mono (h : OB w e k B ao cap l) {B' : Nat} (hB : B' ≤ B) : OB w e k B' ao cap l := by
  refine ⟨⟨h.own.1, ?_⟩, h.wf⟩
  rcases h.own.2 with h1 | ⟨g, c, cur, h1, h2, h3⟩
  · exact .inl h1
  · exact .inr ⟨g, c, cur, h1, by omega, h3⟩
theorem OB.apart (h : OB w e k B ao cap l) {g : Nat} {x : Obj} (S : Stored w w' g x) (hne : ∀ ad, ao = some ad → ad.block ≠ g) : OB w' e k B ao cap l :=
  ⟨h.own.kept (row := some g) ⟨S.os, S.tape, S.output, Nat.le_of_eq S.size.symm, fun k _ hk => S.old k (fun e => hk (by rw [e]))⟩ (by
    cases ao with
    | none => exact .inl rfl
    | some ad => exact .inr fun e => hne ad rfl (by simpa [Value.ownBlock] using e)), h.wf⟩
theorem Yk {row : Option Nat} (h : w.grownBy w' row) (hB : ∀ k, row = some k → B ≤ k) (hs : B ≤ w.heap.size) : Below B w w' :=
  ⟨h.os, h.tape, h.output, h.size, fun k hk => h.block k (by omega) (fun e => by have := hB k e.symm; omega)⟩
theorem OB.made {g : Nat} {cs : Array Value} (hg : w.heap[g]? = some (.cells cs e (0, 0))) (hB : B ≤ g) (hl : l.length ≤ cap) (hm : cap ≤ maxLen) (hc : cs.size = cap) (ht : cs.toList.take l.length = l.map fun r : Nat => Value.int k (r : Int)) (hw : ∀ x ∈ l, (x : Int) ≤ k.max) : OB w e k B (some ⟨g, 0, none⟩) cap l :=
  ⟨⟨by simp, .inr ⟨g, cap, cs, rfl, hB, hg, hl, hm, by omega, by rw [Nat.mul_one]; exact ht⟩⟩, hw⟩
end
theorem zS {ops : Array Oper} {rest : List Oper} {o : Oper} {a : Act} {w : World} {Q : Exit → Act → World → Prop} {t e : TypeId} {k : IntKind} {b : Nat} (T : NumT P t e k b) (dst : Nat) (hd : o.dst = some dst) (hgd : o.guard = none) (s x : Operand)
    (ho : o.op = .call { callee := .builtin .append, args := #[s, x], argTypes := #[t, t] }) {B : Nat} {ao : Option Addr} {cap : Nat} {l : List Nat} (hs : a.eval s = .slice ao l.length cap) (hown : OB w e k B ao cap l)
    {ao' : Option Addr} {cap' : Nat} {l' : List Nat} (hx : a.eval x = .slice ao' l'.length cap') (hsrc : NC w k ao' cap' l') (hb : (l.length + l'.length) * b ≤ 140737488355328) (hb0 : 0 < b) (hB : B ≤ w.heap.size)
    (h : ∀ ao2 cap2 L w', Shut (L = l ++ l') → OB w' e k B ao2 cap2 L → Below B w w' → wpList P ops Q rest (a.put (some dst) (.slice ao2 L.length cap2)) w') : wpList P ops Q (o :: rest) a w := by
  obtain ⟨i, hi, hz, hsz, hby⟩ := T.info
  have hle : l.length + l'.length ≤ 140737488355328 := Nat.le_trans (Nat.le_mul_of_pos_right _ hb0) hb
  cases ao' with
  | none =>
    have h1 := hsrc.bare rfl
    have h2 := hsrc.fit
    have h3 : l' = [] := List.eq_nil_of_length_eq_zero (by omega)
    subst h3
    subst h1
    refine wpList_append_own_none hgd s x t ho B e i 1 T.und hi _ l.length _ hs hown.own hx ?_
    rw [hd]
    exact h ao cap l w ⟨by simp⟩ hown (Below.refl _ _)
  | some ad =>
    refine wpList_append_own w hgd s x t ho B e i (.int k 0) 1 b T.und hi hz hsz hby rfl (by decide) _ l.length _ hs hown.own ad l'.length cap' (l'.map fun r : Nat => Value.int k (r : Int)) hx (by simp) (fun j u hu => ?_) (fun u hu => ?_) (by simp only [maxLen]; omega) hb hB ?_
    · rw [List.getElem?_map] at hu
      by_cases hj : j < l'.length
      · rw [List.getElem?_eq_getElem hj] at hu
        have hc := hsrc.cell ad rfl j hj
        rw [List.getD_eq_getElem?_getD, List.getElem?_eq_getElem hj] at hc
        rw [hc]
        simpa using hu
      · rw [List.getElem?_eq_none (by omega)] at hu
        cases hu
    · obtain ⟨r, _, rfl⟩ := List.mem_map.1 hu; rfl
    · intro v' w' h1 h2 _
      have hB' : ∀ q, (Value.slice ao l.length cap).ownBlock = some q → B ≤ q := fun q hq => (hown.own.lt q hq).1
      have hbel := Yk h2 hB' hB
      rw [hd]
      rw [← List.map_append] at h1
      have hl : l.length + l'.length = (l ++ l').length := by simp
      rw [hl] at h1
      have hwf : ∀ x ∈ l ++ l', (x : Int) ≤ k.max := fun x hx => by
        rcases List.mem_append.1 hx with hx | hx
        · exact hown.wf x hx
        · exact hsrc.wf x hx
      rcases h1.2 with ⟨rfl, h4⟩ | ⟨g, c, cur, rfl, _⟩
      · have := h none 0 (l ++ l') w' ⟨rfl⟩ ⟨by rw [h4] at h1; rw [h4]; exact h1, hwf⟩ hbel
        rw [h4] at this
        exact this
      · exact h (some ⟨g, 0, none⟩) c (l ++ l') w' ⟨rfl⟩ ⟨h1, hwf⟩ hbel
end
end Go.Proofs.YtgfnjekpafempaaGreat
