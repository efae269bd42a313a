/- Laws over any program: a region that draws its order, reads, makes new blocks and fills them, told operation by operation. -/
import Derived.Test.YtjahegiopigblaaELaw
import Derived.Test.YtjahegiopigblaaEOps
namespace Go.Proofs.Ytjahegiopigblaa
open Go.RowKit
section
variable {P : Program}
/-- What an operation leaves: kind 0: this value; kind 1: a new block, that the operation 'other' fills with 'late'; kind 2: it fills the block that the operation 'other' has laid. -/
structure PostS where
  kind : Nat
  value : Value
  type : TypeId
  cells : Array Value
  late : Array Value
  other : Nat
def PostS.val (v : Value) : PostS := ⟨0, v, 0, #[], #[], 0⟩
def PostS.new (t : TypeId) (cs late : Array Value) (j : Nat) : PostS := ⟨1, undef, t, cs, late, j⟩
def PostS.put (j : Nat) : PostS := ⟨2, undef, 0, #[], #[], j⟩
structure PostS.holds (L : Nat → Bool) (B : Nat) (k : PostS) (v : Value) (w : World) : Prop where
  isVal : k.kind = 0 → v = k.value
  isNew : k.kind = 1 → ∃ g, v = .pointer (some ⟨g, 0, none⟩) ∧ w.heap[g]? = some (.cells (if L k.other = true then k.late else k.cells) k.type (0, 0)) ∧ B ≤ g
structure PostS.step (k tk : PostS) (tv v : Value) (w w' : World) : Prop where
  isVal : k.kind = 0 → Gro w w' ∧ v = k.value
  isNew : k.kind = 1 → Gro w w' ∧ ∃ g, v = .pointer (some ⟨g, 0, none⟩) ∧ w'.heap[g]? = some (.cells k.cells k.type (0, 0)) ∧ w.heap.size ≤ g
  isPut : 2 ≤ k.kind → ∃ g, tv = .pointer (some ⟨g, 0, none⟩) ∧ Stored w w' g (.cells tk.late tk.type (0, 0))
def PostS.upon (P : Program) (k tk : PostS) (tv : Value) (w : World) : Result Next → Prop
  | .ok (.value v) w' => k.step tk tv v w w'
  | .ok .skip w' => k.step tk tv undef w w'
  | .ok (.enter f args) w' => Calls P f args w' fun e w'' => ∃ v, e = .returned v ∧ k.step tk tv v w w''
  | _ => False
theorem Oper.wp_of_upon2 {o : Oper} {k tk : PostS} {tv : Value} {a : Act} {w : World} {K : Act → World → Prop} {Q : Exit → Act → World → Prop} {r : Result Next} (he : (execOp a.eval o).run P w = r) (h : k.upon P tk tv w r)
    (hK : ∀ v w', k.step tk tv v w w' → K (a.put o.dst v) w') : o.wp P a w K Q := by
  unfold Oper.wp
  rw [he]
  cases r with
  | ok n w' =>
    cases n <;> simp only [PostS.upon] at h <;> simp only [Oper.upon]
    case value v => exact hK _ _ h
    case skip => exact hK _ _ h
    case enter f args => exact Calls.mono h fun e w'' ⟨v, he, hv⟩ => by subst he; exact hK _ _ hv
  | halt x w' => simp only [PostS.upon] at h
def postsB (ops : Array Oper) (n : Nat) (posts : Nat → PostS) : Bool :=
  (List.range n).all fun i => (!((posts i).kind == 1) || (decide (n ≤ (posts i).other) || (decide (2 ≤ (posts (posts i).other).kind) && (posts (posts i).other).other == i))) &&
    (!(decide (2 ≤ (posts i).kind)) || ((posts (posts i).other).kind == 1 && (posts (posts i).other).other == i && decide ((posts i).other < n) && (match ops[i]? with | some o => (edges o).contains (posts i).other | none => false)))
structure GrowInv2 (ops : Array Oper) (n : Nat) (D : List (Nat × Nat)) (posts : Nat → PostS) (a0 : Act) (w0 : World) (listed : Array Bool) (vals : Nat → Value) (a : Act) (w : World) : Prop where
  size : listed.size = ops.size
  late : ∀ i, n ≤ i → listed.getD i false = false
  closed : ∀ j o, ops[j]? = some o → listed.getD j false = true → ∀ e ∈ edges o, listed.getD e false = true
  defers : a.defers = a0.defers
  tsize : a.tmps.size = a0.tmps.size
  slot : ∀ i d, (i, d) ∈ D → listed.getD i false = true → a.tmps[d]? = some (vals i)
  other : ∀ s, (∀ p ∈ D, p.2 ≠ s) → a.tmps[s]? = a0.tmps[s]?
  world : Gro w0 w
  post : ∀ i, i < n → listed.getD i false = true → (posts i).holds (fun j => listed.getD j false) w0.heap.size (vals i) w
  apart : ∀ i j, i ≠ j → listed.getD i false = true → listed.getD j false = true → (posts i).kind = 1 → (posts j).kind = 1 → vals i ≠ vals j
theorem ptr_inj {g h : Nat} (e : Value.pointer (some ⟨g, 0, none⟩) = .pointer (some ⟨h, 0, none⟩)) : g = h := by
  injection e with e; injection e with e; injection e
theorem wpAny_grow2 {ops : Array Oper} {n : Nat} {D : List (Nat × Nat)} {posts : Nat → PostS} {a0 : Act} {w0 : World} {Q : Exit → Act → World → Prop} (hB : growB ops n D = true) (hP : postsB ops n posts = true) (hsz : ∀ p ∈ D, p.2 < a0.tmps.size)
    (hop : ∀ i, i < n → ∀ o, ops[i]? = some o → ∀ vals L w, Gro w0 w → (∀ j ∈ edges o, (posts j).holds L w0.heap.size (vals j) w) → L i = false →
      if Region.wanted o (yielded ops (full a0 D vals).tmps) = true then (posts i).upon P (posts (posts i).other) (vals (posts i).other) w ((execOp (full a0 D vals).eval o).run P w) else (posts i).step (posts (posts i).other) (vals (posts i).other) undef w w)
    (hrest : ∀ vals L w, Gro w0 w → (∀ i, i < n → (posts i).holds L w0.heap.size (vals i) w) → (∀ i, L i = decide (i < n)) → (∀ i j, i ≠ j → i < n → j < n → (posts i).kind = 1 → (posts j).kind = 1 → vals i ≠ vals j) →
      wpList P ops Q (ops.toList.drop n) (full a0 D vals) w) :
    ∀ (m : Nat) (listed : Array Bool) (vals : Nat → Value) (a : Act) (w : World), GrowInv2 ops n D posts a0 w0 listed vals a w → left listed n = m → wpAny P .any ops Q (m + (ops.size - n)) listed a w := by
  simp only [growB, Bool.and_eq_true, decide_eq_true_eq] at hB
  obtain ⟨⟨⟨⟨⟨⟨hsel, hn⟩, hfirst⟩, hD⟩, hnd⟩, hph⟩, hch⟩ := hB
  rw [List.all_eq_true] at hfirst hD hph
  have hnew : ∀ i, i < n → (posts i).kind = 1 → n ≤ (posts i).other ∨ (2 ≤ (posts (posts i).other).kind ∧ (posts (posts i).other).other = i) := fun i hi hk => by
    have := List.all_eq_true.1 hP i (List.mem_range.2 hi)
    simp [hk] at this
    exact this
  have hput : ∀ i, i < n → 2 ≤ (posts i).kind → (posts (posts i).other).kind = 1 ∧ (posts (posts i).other).other = i ∧ (posts i).other < n ∧ ∀ o, ops[i]? = some o → (posts i).other ∈ edges o := fun i hi hk => by
    have := List.all_eq_true.1 hP i (List.mem_range.2 hi)
    simp only [Bool.and_eq_true, Bool.or_eq_true] at this
    have h2 := this.2
    rcases h2 with h2 | h2
    · simp at h2; omega
    · obtain ⟨⟨⟨h3, h4⟩, h5⟩, h6⟩ := h2
      refine ⟨by simpa using h3, by simpa using h4, by simpa using h5, fun o ho => ?_⟩
      rw [ho] at h6
      simpa using h6
  intro m
  induction m with
  | zero =>
    intro listed vals a w I hl
    have hall := left_zero hl
    have hlist : listed = firstN ops.size n := by
      apply Array.ext
      · simp [firstN, I.size]
      · intro i h1 h2
        by_cases h : i < n
        · have := hall i h
          simp [h1] at this
          simp [firstN, h, this]
        · have := I.late i (by omega)
          simp [h1] at this
          simp [firstN, h, this]
    have hact : a = full a0 D vals := by
      have ht : a.tmps = (full a0 D vals).tmps := by
        apply Array.ext_getElem?
        intro s
        unfold full
        by_cases h : ∃ p ∈ D, p.2 = s
        · obtain ⟨⟨i, d⟩, hp, rfl⟩ := h
          have hi : i < n := by have := hD _ hp; simp at this; exact this.1
          rw [I.slot i d hp (hall i hi)]
          exact (fold_in vals i d D a0.tmps hp hnd (hsz _ hp)).symm
        · have h' : ∀ p ∈ D, p.2 ≠ s := fun p hp e => h ⟨p, hp, e⟩
          rw [I.other s h']
          exact (fold_out vals s D a0.tmps h').symm
      have hd := I.defers
      cases a
      simp only [full] at ht hd ⊢
      simp only [ht, hd]
    subst hact
    have hL : ∀ i, listed.getD i false = decide (i < n) := fun i => by
      by_cases h : i < n
      · rw [hall i h]; simp [h]
      · rw [I.late i (by omega)]; simp [h]
    have hr := hrest vals (fun j => listed.getD j false) w I.world (fun i hi => I.post i hi (hall i hi)) hL (fun i j hij hi hj => I.apart i j hij (hall i hi) (hall j hj))
    subst hlist
    have hc := wpAny_chain (P := P) (Q := Q) (ops.toList.drop n) n (firstN ops.size n) (full a0 D vals) w (fun j => by simp) (by simpa using hch) hr
    simpa using hc
  | succ m ih =>
    intro listed vals a w I hl
    have e1 : m + 1 + (ops.size - n) = m + (ops.size - n) + 1 := by omega
    rw [e1]
    refine ⟨fun hr => ?_, fun i hi => ?_⟩
    · exfalso
      obtain ⟨i, h1, h2, h3⟩ := left_pos (listed := listed) (n := n) (by omega)
      have hio := hfirst i (List.mem_range.2 h1)
      cases hoi : ops[i]? with
      | none => rw [hoi] at hio; cases hio
      | some o =>
        rw [hoi] at hio
        simp only [Bool.and_eq_true] at hio
        have hm : i ∈ Region.ready .any ops listed := mem_ready.2 ⟨by rw [getD_eq (by rw [I.size]; omega) true false]; exact h2, o, hoi, fun e he hb => h3 _ (by
          have := List.all_eq_true.1 hio.1.1 e.on (by unfold edges; exact List.mem_map.2 ⟨e, List.mem_filter.2 ⟨by simpa using he, hb⟩, rfl⟩)
          simpa using this)⟩
        rw [hr] at hm
        cases hm
    · obtain ⟨hun, o, hoi, hdeps⟩ := mem_ready.1 hi
      have hed : ∀ e ∈ edges o, listed.getD e false = true := fun e he => by
        unfold edges at he
        obtain ⟨x, hx, rfl⟩ := List.mem_map.1 he
        obtain ⟨hx1, hx2⟩ := List.mem_filter.1 hx
        exact hdeps x (by simpa using hx1) hx2
      have his : i < ops.size := (Array.getElem?_eq_some_iff.1 hoi).1
      have hin : i < n := by
        apply Classical.byContradiction
        intro hge
        obtain ⟨j, h1, h2, _⟩ := left_pos (listed := listed) (n := n) (by omega)
        have hrch := hph i (List.mem_range'.2 ⟨i - n, by omega, by omega⟩)
        have hrj := List.all_eq_true.1 hrch j (List.mem_range.2 h1)
        have := reach_listed I.closed j ops.size i o hoi hed hrj
        rw [h2] at this
        cases this
      have hio := hfirst i (List.mem_range.2 hin)
      rw [hoi] at hio
      simp only [Bool.and_eq_true] at hio
      obtain ⟨⟨hlt, hdst⟩, hlook⟩ := hio
      have hjn : ∀ j ∈ edges o, j < n := fun j hj => by
        have := List.all_eq_true.1 hlt j hj
        simp at this
        omega
      have hagree : ∀ t ∈ o.looksAt ops, a.tmps[t]? = (full a0 D vals).tmps[t]? := fun t ht => by
        have := List.all_eq_true.1 hlook t ht
        simp only [Bool.or_eq_true] at this
        rcases this with h | h
        · have h' : ∀ p ∈ D, p.2 ≠ t := fun p hp => by
            have := List.all_eq_true.1 h p hp
            simpa using this
          rw [I.other t h']
          exact (fold_out vals t D a0.tmps h').symm
        · obtain ⟨j, hj, hc⟩ := List.any_eq_true.1 h
          have hp : (j, t) ∈ D := by simpa using hc
          rw [I.slot j t hp (hed j hj)]
          exact (fold_in vals j t D a0.tmps hp hnd (hsz _ hp)).symm
      have hex : execOp a.eval o = execOp (full a0 D vals).eval o := execOp_congr o (fun cs b => Region.noSelect_spec hsel i o cs b hoi) fun x hx => eval_congr fun t ht => hagree t (by
        subst ht
        exact List.mem_append_left _ (List.mem_filterMap.2 ⟨.tmp t, by simpa using hx, rfl⟩))
      have hwa := wanted_congr (ops := ops) (o := o) hagree
      have hls : i < listed.size := by rw [I.size]; exact his
      have hun' : listed.getD i false = false := by rw [getD_eq hls false true]; exact hun
      have H := hop i hin o hoi vals (fun j => listed.getD j false) w I.world (fun j hj => I.post j (hjn j hj) (hed j hj)) hun'
      have hgetj : ∀ j, j ≠ i → (listed.setIfInBounds i true).getD j false = listed.getD j false := fun j hj => getD_set_ne false (Ne.symm hj)
      have hgeti : (listed.setIfInBounds i true).getD i false = true := getD_set_self hls
      have hln : ∀ j, listed.getD j false = true → j < n := fun j hj => by
        apply Classical.byContradiction
        intro h
        have := I.late j (by omega)
        rw [hj] at this
        cases this
      have next : ∀ v w', (posts i).step (posts (posts i).other) (vals (posts i).other) v w w' → wpAny P .any ops Q (m + (ops.size - n)) (listed.setIfInBounds i true) (a.put o.dst v) w' := fun v w' hv => by
        -- the world
        have hworld : Gro w0 w' ∧ ∀ j, j ≠ i → j < n → listed.getD j false = true → (posts j).holds (fun j => (listed.setIfInBounds i true).getD j false) w0.heap.size (vals j) w' := by
          by_cases hk2 : 2 ≤ (posts i).kind
          · obtain ⟨hp1, hp2, hp3, hp4⟩ := hput i hin hk2
            obtain ⟨g, hg, hS⟩ := hv.isPut hk2
            have hj0 : listed.getD (posts i).other false = true := hed _ (hp4 o hoi)
            obtain ⟨g', hg', hh', hb'⟩ := (I.post (posts i).other hp3 hj0).isNew hp1
            rw [hg] at hg'
            have := ptr_inj hg'
            subst this
            refine ⟨Below.trans I.world (hS.below hb'), fun j hji hjn' hjl => ?_⟩
            have hj := I.post j hjn' hjl
            refine ⟨hj.isVal, fun hk1 => ?_⟩
            by_cases hjo : j = (posts i).other
            · subst hjo
              refine ⟨g, hg, ?_, hb'⟩
              rw [hS.new]
              simp only [hp2, hgeti, if_true]
            · obtain ⟨gj, h1, h2, h3⟩ := hj.isNew hk1
              have hne : (posts j).other ≠ i := fun e => by
                rcases hnew j hjn' hk1 with h | ⟨_, h⟩
                · omega
                · rw [e] at h; exact hjo h.symm
              refine ⟨gj, h1, ?_, h3⟩
              have hgne : gj ≠ g := fun e => by
                subst e
                exact I.apart j (posts i).other hjo hjl hj0 hk1 hp1 (by rw [h1, hg])
              rw [hS.has hgne h2]
              simp only [hgetj _ hne]
          · have hgro : Gro w w' := by
              by_cases h0 : (posts i).kind = 0
              · exact (hv.isVal h0).1
              · exact (hv.isNew (by omega)).1
            refine ⟨I.world.trans hgro, fun j hji hjn' hjl => ?_⟩
            have hj := I.post j hjn' hjl
            refine ⟨hj.isVal, fun hk1 => ?_⟩
            obtain ⟨gj, h1, h2, h3⟩ := hj.isNew hk1
            have hne : (posts j).other ≠ i := fun e => by
              rcases hnew j hjn' hk1 with h | ⟨h, _⟩
              · omega
              · rw [e] at h; exact hk2 h
            refine ⟨gj, h1, ?_, h3⟩
            rw [hgro.has h2]
            simp only [hgetj _ hne]
        refine ih (listed.setIfInBounds i true) (fun j => if j = i then v else vals j) _ _ ?_ ?_
        · refine ⟨by simpa using I.size, fun j hj => ?_, fun j oj hoj hjl e he => ?_, ?_, ?_, fun j d hp hjl => ?_, fun s hs => ?_, hworld.1, fun j hj hjl => ?_, fun j k hjk hjl hkl hj hk => ?_⟩
          · rw [hgetj j (by omega)]; exact I.late j hj
          · apply getD_set_true
            by_cases hji : j = i
            · subst hji; rw [hoi] at hoj; cases hoj; exact hed e he
            · rw [hgetj j hji] at hjl; exact I.closed j oj hoj hjl e he
          · cases hd : o.dst <;> simp [Act.put, I.defers]
          · cases hd : o.dst <;> simp [Act.put, I.tsize]
          · by_cases hji : j = i
            · subst hji
              have hd : o.dst = some d := by have := hD _ hp; simp [hoi] at this; exact this.2
              have := hsz _ hp
              simp only [hd, Act.put, if_true]
              simp [I.tsize, this]
            · rw [hgetj j hji] at hjl
              have hne : ∀ d', o.dst = some d' → d' ≠ d := fun d' hd' e => by
                rw [hd'] at hdst
                have hp' : (i, d') ∈ D := by simpa using hdst
                subst e
                have h1 := fold_in (fun k => .int .i64 k) i d' D (Array.replicate (d' + 1) undef) hp' hnd (by simp)
                have h2 := fold_in (fun k => .int .i64 k) j d' D (Array.replicate (d' + 1) undef) hp hnd (by simp)
                rw [h1] at h2
                simp at h2
                exact hji (by omega)
              rw [if_neg hji, ← I.slot j d hp hjl]
              cases hd : o.dst with
              | none => rfl
              | some d' => simp only [Act.put]; exact Array.getElem?_setIfInBounds_ne (hne d' hd)
          · rw [← I.other s hs]
            cases hd : o.dst with
            | none => rfl
            | some d' =>
              rw [hd] at hdst
              have hp' : (i, d') ∈ D := by simpa using hdst
              simp only [Act.put]; exact Array.getElem?_setIfInBounds_ne (hs _ hp')
          · by_cases hji : j = i
            · subst hji
              simp only [if_true]
              refine ⟨fun h0 => (hv.isVal h0).2, fun h1 => ?_⟩
              obtain ⟨_, g, h2, h3, h4⟩ := hv.isNew h1
              refine ⟨g, h2, ?_, Nat.le_trans I.world.size h4⟩
              have hne : (posts j).other ≠ j := fun e => by
                rcases hnew j hin h1 with h | ⟨h, _⟩
                · omega
                · rw [e] at h; omega
              have hnl : listed.getD (posts j).other false = false := by
                cases hb : listed.getD (posts j).other false with
                | false => rfl
                | true =>
                  have hbn := hln _ hb
                  rcases hnew j hin h1 with h | ⟨h, h'⟩
                  · omega
                  · obtain ⟨_, _, _, hp4⟩ := hput (posts j).other hbn h
                    cases hob : ops[(posts j).other]? with
                    | none =>
                      have := Array.getElem?_eq_none_iff.1 hob
                      omega
                    | some ob =>
                      have h5 := I.closed _ ob hob hb _ (hp4 ob hob)
                      rw [h', hun'] at h5
                      cases h5
              rw [h3]
              simp only [hgetj _ hne, hnl]
              rfl
            · rw [hgetj j hji] at hjl
              simp only [if_neg hji]
              exact hworld.2 j hji hj hjl
          · have unl : ∀ k, k ≠ i → listed.getD k false = true → (posts k).kind = 1 → (posts i).kind = 1 → vals k ≠ v := fun k hki hkl hk hi1 => by
              obtain ⟨g, h1, h2, _⟩ := (I.post k (hln k hkl) hkl).isNew hk
              obtain ⟨_, g', h3, _, h4⟩ := hv.isNew hi1
              have := lt_of_heap h2
              intro e
              rw [h1, h3] at e
              have := ptr_inj e
              omega
            by_cases hji : j = i
            · have hki : k ≠ i := fun e => hjk (by omega)
              rw [hgetj k hki] at hkl
              simp only [if_pos hji, if_neg hki]
              subst hji
              exact (unl k hki hkl hk hj).symm
            · rw [hgetj j hji] at hjl
              by_cases hki : k = i
              · simp only [if_pos hki, if_neg hji]
                subst hki
                exact unl j hji hjl hj hk
              · rw [hgetj k hki] at hkl
                simp only [if_neg hki, if_neg hji]
                exact I.apart j k hjk hjl hkl hj hk
        · have := left_set hls hun' n
          rw [if_pos hin] at this
          omega
      unfold wpOp
      rw [hoi]
      show if _ then _ else _
      rw [hwa]
      split
      · rename_i hw
        rw [if_pos hw] at H
        exact Or.inl (Oper.wp_of_upon2 (by rw [hex]) H next)
      · rename_i hw
        rw [if_neg hw] at H
        exact next _ _ H
/-! ### The same, for a region that is written out -/
def PostS.fill (k : PostS) (v : Value) : Value :=
  match k.kind with
  | 0 => k.value
  | _ => v
theorem PostS.fill_of_holds {L : Nat → Bool} {B : Nat} {k : PostS} {v : Value} {w : World} (h : k.holds L B v w) : k.fill v = v := by
  obtain ⟨n, u, t, cs, ls, oo⟩ := k
  cases n with
  | zero => exact (h.isVal rfl).symm
  | succ n => rfl
def postAt2 (posts : List PostS) (i : Nat) : PostS := posts.getD i (.val undef)
def filled2 (posts : List PostS) (ptrs : Nat → Value) (i : Nat) : Value := (postAt2 posts i).fill (ptrs i)
structure OpOK2 (P : Program) (ops : Array Oper) (k tk : PostS) (tv : Value) (o : Oper) (A : Act) (w : World) : Prop where
  out : if Region.wanted o (yielded ops A.tmps) = true then k.upon P tk tv w ((execOp A.eval o).run P w) else k.step tk tv undef w w
def newsHold2 (L : Nat → Bool) (B : Nat) (posts : List PostS) (ptrs : Nat → Value) (w : World) : List Nat → Prop
  | [] => True
  | j :: r => match (postAt2 posts j).kind with
    | 1 => (∃ g, ptrs j = .pointer (some ⟨g, 0, none⟩) ∧ w.heap[g]? = some (.cells (if L (postAt2 posts j).other = true then (postAt2 posts j).late else (postAt2 posts j).cells) (postAt2 posts j).type (0, 0)) ∧ B ≤ g) ∧ newsHold2 L B posts ptrs w r
    | _ => newsHold2 L B posts ptrs w r
theorem newsHold2_of {L : Nat → Bool} {B : Nat} (posts : List PostS) (ptrs : Nat → Value) (w : World) : ∀ (l : List Nat), (∀ j ∈ l, (postAt2 posts j).holds L B (ptrs j) w) → newsHold2 L B posts ptrs w l
  | [], _ => trivial
  | j :: r, h => by
    have h1 := h j List.mem_cons_self
    have h2 := newsHold2_of posts ptrs w r fun k hk => h k (List.mem_cons_of_mem _ hk)
    unfold newsHold2
    split
    · rename_i hk
      exact ⟨h1.isNew hk, h2⟩
    · exact h2
def opsOK2 (P : Program) (ops : Array Oper) (posts : List PostS) (a0 : Act) (D : List (Nat × Nat)) (w0 : World) : Nat → List Oper → Prop
  | _, [] => True
  | i, o :: r => (∀ ptrs L w, Gro w0 w → newsHold2 L w0.heap.size posts ptrs w (edges o) → L i = false → OpOK2 P ops (postAt2 posts i) (postAt2 posts (postAt2 posts i).other) (ptrs (postAt2 posts i).other) o (full a0 D (filled2 posts ptrs)) w) ∧ opsOK2 P ops posts a0 D w0 (i + 1) r
theorem opsOK2_at {ops : Array Oper} {posts : List PostS} {a0 : Act} {D : List (Nat × Nat)} {w0 : World} : ∀ (l : List Oper) (k : Nat), opsOK2 P ops posts a0 D w0 k l → ∀ i o, l[i]? = some o →
    ∀ ptrs L w, Gro w0 w → newsHold2 L w0.heap.size posts ptrs w (edges o) → L (k + i) = false → OpOK2 P ops (postAt2 posts (k + i)) (postAt2 posts (postAt2 posts (k + i)).other) (ptrs (postAt2 posts (k + i)).other) o (full a0 D (filled2 posts ptrs)) w
  | [], _, _, _, _, h => by simp at h
  | o :: r, k, h, i, o', ho => by
    cases i with
    | zero => simp at ho; subst ho; exact h.1
    | succ i =>
      have := opsOK2_at r (k + 1) h.2 i o' (by simpa using ho)
      have e : k + 1 + i = k + (i + 1) := by omega
      rw [e] at this
      exact this
def newsApart2 (posts : List PostS) (ptrs : Nat → Value) (n : Nat) : Prop := ((List.range n).filter fun i => (postAt2 posts i).kind == 1).Pairwise fun i j => ptrs i ≠ ptrs j
/-- **A region in whatever order**, with new blocks that are filled within it. -/
theorem wp_region_grow2 {id : Nat} {l : List Oper} {Q : Exit → Act → World → Prop} {a0 : Act} {w : World} (n : Nat) (D : List (Nat × Nat)) (posts : List PostS) (hm : P.follows .mixedOrders = true)
    (hB : growB l.toArray n D = true) (hP : postsB l.toArray n (postAt2 posts) = true) (hsz : (D.all fun p => decide (p.2 < a0.tmps.size)) = true)
    (hop : opsOK2 P l.toArray posts a0 D w.drew 0 (l.take n))
    (hrest : ∀ ptrs L w', Gro w.drew w' → (∀ i, L i = decide (i < n)) → newsHold2 L w.heap.size posts ptrs w' (List.range n) → newsApart2 posts ptrs n → wpList P l.toArray Q (l.drop n) (full a0 D (filled2 posts ptrs)) w') :
    (Code.region id l.toArray true).wp P Q a0 w := by
  have hB' := hB
  simp only [growB, Bool.and_eq_true, decide_eq_true_eq] at hB'
  obtain ⟨⟨⟨⟨⟨⟨hsel, hn⟩, hfirst⟩, hD⟩, hnd⟩, hph⟩, hch⟩ := hB'
  have hn' : n ≤ l.length := by simpa using hn
  have hsz' : ∀ p ∈ D, p.2 < a0.tmps.size := fun p hp => by
    have := List.all_eq_true.1 hsz p hp
    simpa using this
  refine wp_region_any hm ?_
  have hDn : ∀ p ∈ D, p.1 < n := fun p hp => by have := List.all_eq_true.1 hD p hp; simp at this; exact this.1
  have main := wpAny_grow2 (P := P) (ops := l.toArray) (n := n) (D := D) (posts := postAt2 posts) (a0 := a0) (w0 := w.drew) (Q := Q) hB hP hsz' (fun i hi o ho vals L w' hg hdeps hLi => by
      have hoi : (l.take n)[i]? = some o := by rw [List.getElem?_take_of_lt hi]; simpa using ho
      have H := opsOK2_at (l.take n) 0 hop i o hoi vals L w' hg (newsHold2_of posts vals w' _ hdeps) (by rw [Nat.zero_add]; exact hLi)
      rw [Nat.zero_add] at H
      have hio := List.all_eq_true.1 hfirst i (List.mem_range.2 hi)
      rw [ho] at hio
      simp only [Bool.and_eq_true] at hio
      obtain ⟨_, hlook⟩ := hio
      have hagree : ∀ t ∈ o.looksAt l.toArray, (full a0 D vals).tmps[t]? = (full a0 D (filled2 posts vals)).tmps[t]? := fun t ht => by
        have := List.all_eq_true.1 hlook t ht
        simp only [Bool.or_eq_true] at this
        rcases this with h | h
        · have h' : ∀ p ∈ D, p.2 ≠ t := fun p hp => by
            have := List.all_eq_true.1 h p hp
            simpa using this
          unfold full
          rw [fold_out vals t D a0.tmps h', fold_out _ t D a0.tmps h']
        · obtain ⟨j, hj, hc⟩ := List.any_eq_true.1 h
          have hp : (j, t) ∈ D := by simpa using hc
          unfold full
          rw [fold_in vals j t D a0.tmps hp hnd (hsz' _ hp), fold_in _ j t D a0.tmps hp hnd (hsz' _ hp)]
          unfold filled2
          rw [PostS.fill_of_holds (hdeps j hj)]
      have hex : execOp (full a0 D vals).eval o = execOp (full a0 D (filled2 posts vals)).eval o := execOp_congr o (fun cs b => Region.noSelect_spec hsel i o cs b ho) fun x hx => eval_congr fun t ht => hagree t (by
        subst ht
        exact List.mem_append_left _ (List.mem_filterMap.2 ⟨.tmp t, by simpa using hx, rfl⟩))
      have hwa := wanted_congr (ops := l.toArray) (o := o) hagree
      rw [hwa, hex]
      exact H.out)
    (fun vals L w' hg hall hL hap => by
      have e : full a0 D vals = full a0 D (filled2 posts vals) := full_congr fun p hp => (PostS.fill_of_holds (hall p.1 (hDn p hp))).symm
      rw [e]
      have := hrest vals L w' hg hL (newsHold2_of posts vals w' _ fun j hj => hall j (List.mem_range.1 hj)) (by
        unfold newsApart2
        have hnr : ((List.range n).filter fun i => (postAt2 posts i).kind == 1).Nodup := List.nodup_range.filter _
        refine List.Pairwise.imp_of_mem ?_ hnr
        intro x y hx hy hxy
        obtain ⟨hx1, hx2⟩ := List.mem_filter.1 hx
        obtain ⟨hy1, hy2⟩ := List.mem_filter.1 hy
        exact hap x y hxy (List.mem_range.1 hx1) (List.mem_range.1 hy1) (by simpa using hx2) (by simpa using hy2))
      simpa using this)
    n (Array.replicate l.length false) (fun _ => undef) a0 w.drew
    ⟨by simp, fun i _ => by by_cases h : i < l.length <;> simp [h], fun j o _ hj => by by_cases h : j < l.length <;> simp [h] at hj, rfl, rfl,
      fun i d _ hi => by by_cases h : i < l.length <;> simp [h] at hi, fun _ _ => rfl, Gro.refl _, fun i _ hi => by by_cases h : i < l.length <;> simp [h] at hi, fun i j _ hi => by by_cases h : i < l.length <;> simp [h] at hi⟩
    (by
      have hz : ∀ m, m ≤ l.length → left (Array.replicate l.length false) m = m := by
        intro m
        induction m with
        | zero => intro _; simp [left]
        | succ m ih => intro hm; rw [left_succ, ih (by omega)]; simp [show m < l.length by omega]
      exact hz n hn')
  have e1 : n + (l.toArray.size - n) = l.toArray.size := by simp; omega
  rw [e1] at main
  simpa using main
section
variable {ops : Array Oper} {o : Oper} {A : Act} {w : World} {tk : PostS} {tv : Value}
theorem OpOK2.of_val {v : Value} (h : OpOK P ops (.val v) o A w) : OpOK2 P ops (.val v) tk tv o A w := by
  constructor
  have h := h.out
  have st : ∀ u w', Gro w w' ∧ (PostK.val v).gives u w w' → (PostS.val v).step tk tv u w w' := fun u w' ⟨h1, h2⟩ => ⟨fun _ => ⟨h1, h2⟩, fun h => (by cases h), fun h => by simp [PostS.val] at h⟩
  split
  · rename_i hw
    rw [if_pos hw] at h
    cases hr : (execOp A.eval o).run P w with
    | halt x w' => rw [hr] at h; exact h
    | ok n w' =>
      rw [hr] at h
      cases n <;> simp only [PostK.upon] at h <;> simp only [PostS.upon]
      case value u => exact st _ _ h
      case skip => exact st _ _ h
      case enter f args => exact h.mono fun e w'' ⟨u, he, hu⟩ => ⟨u, he, st _ _ hu⟩
  · rename_i hw
    rw [if_neg hw] at h
    exact st _ _ ⟨Gro.refl _, h⟩
theorem OpOK2.of_new {t : TypeId} {cs late : Array Value} {j : Nat} (h : OpOK P ops (.new t cs) o A w) : OpOK2 P ops (.new t cs late j) tk tv o A w := by
  constructor
  have h := h.out
  have st : ∀ u w', Gro w w' ∧ (PostK.new t cs).gives u w w' → (PostS.new t cs late j).step tk tv u w w' := fun u w' ⟨h1, h2⟩ => ⟨fun h => (by cases h), fun _ => ⟨h1, h2⟩, fun h => by simp [PostS.new] at h⟩
  split
  · rename_i hw
    rw [if_pos hw] at h
    cases hr : (execOp A.eval o).run P w with
    | halt x w' => rw [hr] at h; exact h
    | ok n w' =>
      rw [hr] at h
      cases n <;> simp only [PostK.upon] at h <;> simp only [PostS.upon]
      case value u => exact st _ _ h
      case skip => exact st _ _ h
      case enter f args => exact h.mono fun e w'' ⟨u, he, hu⟩ => ⟨u, he, st _ _ hu⟩
  · rename_i hw
    rw [if_neg hw] at h
    exact st _ _ ⟨Gro.refl _, h⟩
end
end
end Go.Proofs.Ytjahegiopigblaa
