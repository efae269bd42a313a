/- A region in whatever order, over any program, in which one operation changes what was there: what may run ahead of it lays values, all else runs behind it. -/
import Derived.Test.YtfabgonoonanfaaLaw3
namespace Go.Proofs.Ytfabgonoonanfaa
open Go.RowKit

section
variable {P : Program}
def PostE.uponX (P : Program) (R1 : World → Prop) (k : PostE) : Result Next → Prop
  | .ok (.value v) w' => R1 w' ∧ k.p v w'
  | .ok .skip w' => R1 w' ∧ k.p undef w'
  | .ok (.enter f args) w' => Calls P f args w' fun e w'' => ∃ v, e = .returned v ∧ R1 w'' ∧ k.p v w''
  | _ => False
theorem Oper.wp_of_uponX {o : Oper} {R1 : World → Prop} {k : PostE} {a : Act} {w : World} {K : Act → World → Prop} {Q : Exit → Act → World → Prop} {r : Result Next} (he : (execOp a.eval o).run P w = r) (h : k.uponX P R1 r)
    (hK : ∀ v w', R1 w' → k.p v w' → K (a.put o.dst v) w') : o.wp P a w K Q := by
  unfold Oper.wp
  rw [he]
  cases r with
  | ok n w' =>
    cases n <;> simp only [PostE.uponX] at h <;> simp only [Oper.upon]
    case value v => exact hK _ _ h.1 h.2
    case skip => exact hK _ _ h.1 h.2
    case enter f args => exact Calls.mono h fun e w'' ⟨v, he, hg, hv⟩ => by subst he; exact hK _ _ hg hv
  | halt x w' => simp only [PostE.uponX] at h
structure GrowInvP (ops : Array Oper) (n : Nat) (D : List (Nat × Nat)) (posts : Nat → PostE) (a0 : Act) (R0 R1 : World → Prop) (e0 : Nat) (listed : Array Bool) (vals : Nat → Value) (a : Act) (w : World) : Prop where
  size : listed.size = ops.size
  late : ∀ i, n ≤ i → listed.getD i false = false
  closed : ∀ j o, ops[j]? = some o → listed.getD j false = true → ∀ e ∈ edges o, listed.getD e false = true
  defers : a.defers = a0.defers
  tsize : a.tmps.size = a0.tmps.size
  slot : ∀ i d, (i, d) ∈ D → listed.getD i false = true → a.tmps[d]? = some (vals i)
  other : ∀ s, (∀ p ∈ D, p.2 ≠ s) → a.tmps[s]? = a0.tmps[s]?
  ahead : listed.getD e0 false = false → R0 w
  behind : listed.getD e0 false = true → R1 w
  post : ∀ i, i < n → listed.getD i false = true → (posts i).p (vals i) w

theorem wpAny_ph {ops : Array Oper} {n : Nat} {D : List (Nat × Nat)} {posts : Nat → PostE} {a0 : Act} {R0 R1 : World → Prop} {e0 : Nat} {Q : Exit → Act → World → Prop} (hB : growB ops n D = true) (hsz : ∀ p ∈ D, p.2 < a0.tmps.size)
    (he0 : e0 < n) (hr0 : ∀ a b, R0 a → Gro a b → R0 b) (hr1 : ∀ a b, R1 a → Gro a b → R1 b) (hF : ∀ j, j < e0 → ∀ v w w', (posts j).p v w → (posts j).p v w') (hdep : ∀ i, i < n → e0 < i → reach ops ops.size i e0 = true)
    (hop : ∀ i, i < n → i ≠ e0 → ∀ o, ops[i]? = some o → ∀ vals w, (i < e0 → R0 w ∨ R1 w) → (e0 < i → R1 w) → (∀ j ∈ edges o, (posts j).p (vals j) w) →
      if Region.wanted o (yielded ops (full a0 D vals).tmps) = true then (posts i).upon P w ((execOp (full a0 D vals).eval o).run P w) else (posts i).p undef w)
    (hope : ∀ o, ops[e0]? = some o → ∀ vals w, R0 w → (∀ j ∈ edges o, (posts j).p (vals j) w) →
      Region.wanted o (yielded ops (full a0 D vals).tmps) = true ∧ (posts e0).uponX P R1 ((execOp (full a0 D vals).eval o).run P w))
    (hrest : ∀ vals w, R1 w → (∀ i, i < n → (posts i).p (vals i) w) →
      wpList P ops Q (ops.toList.drop n) (full a0 D vals) w) :
    ∀ (m : Nat) (listed : Array Bool) (vals : Nat → Value) (a : Act) (w : World), GrowInvP ops n D posts a0 R0 R1 e0 listed vals a w → left listed n = m → wpAny P .any ops Q (m + (ops.size - n)) listed a w := by
  simp only [growB, Bool.and_eq_true, decide_eq_true_eq] at hB
  obtain ⟨⟨⟨⟨⟨⟨hsel, hn⟩, hfirst⟩, hD⟩, hnd⟩, hph⟩, hch⟩ := hB
  rw [List.all_eq_true] at hfirst hD hph
  intro m
  induction m with
  | zero =>
    intro listed vals a w I hl
    have hall := left_zero hl
    have hlist : listed = firstN ops.size n := by
      apply Array.ext
      · simp [firstN, I.size]
      · intro i h1 h2
        by_cases h : i < n
        · have := hall i h
          simp [h1] at this
          simp [firstN, h, this]
        · have := I.late i (by omega)
          simp [h1] at this
          simp [firstN, h, this]
    have hact : a = full a0 D vals := by
      have ht : a.tmps = (full a0 D vals).tmps := by
        apply Array.ext_getElem?
        intro s
        unfold full
        by_cases h : ∃ p ∈ D, p.2 = s
        · obtain ⟨⟨i, d⟩, hp, rfl⟩ := h
          have hi : i < n := by have := hD _ hp; simp at this; exact this.1
          rw [I.slot i d hp (hall i hi)]
          exact (fold_in vals i d D a0.tmps hp hnd (hsz _ hp)).symm
        · have h' : ∀ p ∈ D, p.2 ≠ s := fun p hp e => h ⟨p, hp, e⟩
          rw [I.other s h']
          exact (fold_out vals s D a0.tmps h').symm
      have hd := I.defers
      cases a
      simp only [full] at ht hd ⊢
      simp only [ht, hd]
    subst hact
    subst hlist
    have hc := wpAny_chain (P := P) (Q := Q) (ops.toList.drop n) n (firstN ops.size n) (full a0 D vals) w (fun j => by simp) (by simpa using hch) (hrest vals w (I.behind (hall e0 he0)) (fun i hi => I.post i hi (hall i hi)))
    simpa using hc
  | succ m ih =>
    intro listed vals a w I hl
    have e1 : m + 1 + (ops.size - n) = m + (ops.size - n) + 1 := by omega
    rw [e1]
    refine ⟨fun hr => ?_, fun i hi => ?_⟩
    · exfalso
      obtain ⟨i, h1, h2, h3⟩ := left_pos (listed := listed) (n := n) (by omega)
      have hio := hfirst i (List.mem_range.2 h1)
      cases hoi : ops[i]? with
      | none => rw [hoi] at hio; cases hio
      | some o =>
        rw [hoi] at hio
        simp only [Bool.and_eq_true] at hio
        have hm : i ∈ Region.ready .any ops listed := mem_ready.2 ⟨by rw [getD_eq (by rw [I.size]; omega) true false]; exact h2, o, hoi, fun e he hb => h3 _ (by
          have := List.all_eq_true.1 hio.1.1 e.on (by unfold edges; exact List.mem_map.2 ⟨e, List.mem_filter.2 ⟨by simpa using he, hb⟩, rfl⟩)
          simpa using this)⟩
        rw [hr] at hm
        cases hm
    · obtain ⟨hun, o, hoi, hdeps⟩ := mem_ready.1 hi
      have hed : ∀ e ∈ edges o, listed.getD e false = true := fun e he => by
        unfold edges at he
        obtain ⟨x, hx, rfl⟩ := List.mem_map.1 he
        obtain ⟨hx1, hx2⟩ := List.mem_filter.1 hx
        exact hdeps x (by simpa using hx1) hx2
      have his : i < ops.size := (Array.getElem?_eq_some_iff.1 hoi).1
      have hin : i < n := by
        apply Classical.byContradiction
        intro hge
        obtain ⟨j, h1, h2, _⟩ := left_pos (listed := listed) (n := n) (by omega)
        have hrch := hph i (List.mem_range'.2 ⟨i - n, by omega, by omega⟩)
        have hrj := List.all_eq_true.1 hrch j (List.mem_range.2 h1)
        have := reach_listed I.closed j ops.size i o hoi hed hrj
        rw [h2] at this
        cases this
      have hio := hfirst i (List.mem_range.2 hin)
      rw [hoi] at hio
      simp only [Bool.and_eq_true] at hio
      obtain ⟨⟨hlt, hdst⟩, hlook⟩ := hio
      have hjn : ∀ j ∈ edges o, j < n := fun j hj => by
        have := List.all_eq_true.1 hlt j hj
        simp at this
        omega
      have hagree : ∀ t ∈ o.looksAt ops, a.tmps[t]? = (full a0 D vals).tmps[t]? := fun t ht => by
        have := List.all_eq_true.1 hlook t ht
        simp only [Bool.or_eq_true] at this
        rcases this with h | h
        · have h' : ∀ p ∈ D, p.2 ≠ t := fun p hp => by
            have := List.all_eq_true.1 h p hp
            simpa using this
          rw [I.other t h']
          exact (fold_out vals t D a0.tmps h').symm
        · obtain ⟨j, hj, hc⟩ := List.any_eq_true.1 h
          have hp : (j, t) ∈ D := by simpa using hc
          rw [I.slot j t hp (hed j hj)]
          exact (fold_in vals j t D a0.tmps hp hnd (hsz _ hp)).symm
      have hex : execOp a.eval o = execOp (full a0 D vals).eval o := execOp_congr o (fun cs b => Region.noSelect_spec hsel i o cs b hoi) fun x hx => eval_congr fun t ht => hagree t (by
        subst ht
        exact List.mem_append_left _ (List.mem_filterMap.2 ⟨.tmp t, by simpa using hx, rfl⟩))
      have hwa := wanted_congr (ops := ops) (o := o) hagree
      have hls : i < listed.size := by rw [I.size]; exact his
      have hun' : listed.getD i false = false := by rw [getD_eq hls false true]; exact hun
      have next : ∀ v w', ((listed.setIfInBounds i true).getD e0 false = false → R0 w') → ((listed.setIfInBounds i true).getD e0 false = true → R1 w') → (∀ j, j < n → j ≠ i → listed.getD j false = true → (posts j).p (vals j) w') → (posts i).p v w' → wpAny P .any ops Q (m + (ops.size - n)) (listed.setIfInBounds i true) (a.put o.dst v) w' := fun v w' hx0 hx1 hpo hv => by
        refine ih (listed.setIfInBounds i true) (fun j => if j = i then v else vals j) _ _ ?_ ?_
        · have hgetj : ∀ j, j ≠ i → (listed.setIfInBounds i true).getD j false = listed.getD j false := fun j hj => getD_set_ne false (Ne.symm hj)
          refine ⟨by simpa using I.size, fun j hj => ?_, fun j oj hoj hjl e he => ?_, ?_, ?_, fun j d hp hjl => ?_, fun s hs => ?_, hx0, hx1, fun j hj hjl => ?_⟩
          · rw [hgetj j (by omega)]; exact I.late j hj
          · apply getD_set_true
            by_cases hji : j = i
            · subst hji; rw [hoi] at hoj; cases hoj; exact hed e he
            · rw [hgetj j hji] at hjl; exact I.closed j oj hoj hjl e he
          · cases hd : o.dst <;> simp [Act.put, I.defers]
          · cases hd : o.dst <;> simp [Act.put, I.tsize]
          · by_cases hji : j = i
            · subst hji
              have hd : o.dst = some d := by have := hD _ hp; simp [hoi] at this; exact this.2
              have := hsz _ hp
              simp only [hd, Act.put, if_true]
              simp [I.tsize, this]
            · rw [hgetj j hji] at hjl
              have hne : ∀ d', o.dst = some d' → d' ≠ d := fun d' hd' e => by
                rw [hd'] at hdst
                have hp' : (i, d') ∈ D := by simpa using hdst
                subst e
                have h1 := fold_in (fun k => .int .i64 k) i d' D (Array.replicate (d' + 1) undef) hp' hnd (by simp)
                have h2 := fold_in (fun k => .int .i64 k) j d' D (Array.replicate (d' + 1) undef) hp hnd (by simp)
                rw [h1] at h2
                simp at h2
                exact hji (by omega)
              rw [if_neg hji, ← I.slot j d hp hjl]
              cases hd : o.dst with
              | none => rfl
              | some d' => simp only [Act.put]; exact Array.getElem?_setIfInBounds_ne (hne d' hd)
          · rw [← I.other s hs]
            cases hd : o.dst with
            | none => rfl
            | some d' =>
              rw [hd] at hdst
              have hp' : (i, d') ∈ D := by simpa using hdst
              simp only [Act.put]; exact Array.getElem?_setIfInBounds_ne (hs _ hp')
          · by_cases hji : j = i
            · subst hji; simp only [if_true]; exact hv
            · rw [hgetj j hji] at hjl
              simp only [if_neg hji]; exact hpo j hj hji hjl
        · have := left_set hls hun' n
          rw [if_pos hin] at this
          omega
      have hE : ∀ j, j ≠ i → (listed.setIfInBounds i true).getD j false = listed.getD j false := fun j hj => getD_set_ne false (Ne.symm hj)
      have hbe : ∀ j, j < n → e0 < j → listed.getD j false = true → listed.getD e0 false = true := fun j hj hlt hjl => by
        cases hoj : ops[j]? with
        | none =>
          have : ops.size ≤ j := by simpa using hoj
          have hno : listed.getD j false = false := by
            have : ¬ j < listed.size := by rw [I.size]; omega
            simp [Array.getD, this]
          rw [hno] at hjl
          cases hjl
        | some oj => exact reach_listed I.closed e0 ops.size j oj hoj (I.closed j oj hoj hjl) (hdep j hj hlt)
      unfold wpOp
      rw [hoi]
      show if _ then _ else _
      rw [hwa]
      by_cases hie : i = e0
      · subst hie
        have H := hope o hoi vals w (I.ahead hun') fun j hj => I.post j (hjn j hj) (hed j hj)
        rw [if_pos H.1]
        refine Or.inl (Oper.wp_of_uponX (by rw [hex]) H.2 fun v w' h1 hv => next v w' (fun hf => ?_) (fun _ => h1) (fun j hj hji hjl => ?_) hv)
        · have : (listed.setIfInBounds i true).getD i false = true := by
            simp [Array.getD, hls]
          rw [this] at hf
          cases hf
        · by_cases hlt : j < i
          · exact hF j hlt _ _ _ (I.post j hj hjl)
          · have := hbe j hj (by omega) hjl
            rw [hun'] at this
            cases this
      · have hR : (i < e0 → R0 w ∨ R1 w) ∧ (e0 < i → R1 w) := by
          refine ⟨fun _ => ?_, fun hlt => I.behind (reach_listed I.closed e0 ops.size i o hoi hed (hdep i hin hlt))⟩
          cases hl0 : listed.getD e0 false
          · exact .inl (I.ahead hl0)
          · exact .inr (I.behind hl0)
        have H := hop i hin hie o hoi vals w hR.1 hR.2 fun j hj => I.post j (hjn j hj) (hed j hj)
        have nx : ∀ v w', Gro w w' → (posts i).p v w' → wpAny P .any ops Q (m + (ops.size - n)) (listed.setIfInBounds i true) (a.put o.dst v) w' := fun v w' hg hv =>
          next v w' (fun hf => hr0 _ _ (I.ahead (by rw [hE e0 (Ne.symm hie)] at hf; exact hf)) hg) (fun hf => hr1 _ _ (I.behind (by rw [hE e0 (Ne.symm hie)] at hf; exact hf)) hg) (fun j hj _ hjl => (posts j).st _ _ _ hg (I.post j hj hjl)) hv
        split
        · rename_i hw
          rw [if_pos hw] at H
          exact Or.inl (Oper.wp_of_uponE (by rw [hex]) H nx)
        · rename_i hw
          rw [if_neg hw] at H
          exact nx _ _ (Gro.refl _) H


structure OpX (P : Program) (ops : Array Oper) (R1 : World → Prop) (k : PostE) (o : Oper) (A : Act) (w : World) : Prop where
  want : Region.wanted o (yielded ops A.tmps) = true
  out : k.uponX P R1 ((execOp A.eval o).run P w)
theorem opX_call {ops : Array Oper} {R1 : World → Prop} {o : Oper} {A : Act} {w : World} (k : PostE) (hw : Region.wanted o (yielded ops A.tmps) = true) (c : Call) (f : FuncId) (hen : ∀ args w, (callFunc f args).run P w = .ok (.enter f args) w) (ho : o.op = .call c) (hc : c.callee = .value (.func f)) (xs : List Operand) (hxs : c.args = xs.toArray) (vs : List Value) (hvs : xs.map A.eval = vs)
    (H : Calls P f vs.toArray w fun e w' => ∃ v, e = .returned v ∧ R1 w' ∧ k.p v w') : OpX P ops R1 k o A w :=
  ⟨hw, by rw [run_call c f hen ho hc, hxs, List.map_toArray, hvs]; exact H⟩
theorem opX_store {ops : Array Oper} {R1 : World → Prop} {o : Oper} {A : Act} {w : World} (k : PostE) (hw : Region.wanted o (yielded ops A.tmps) = true) (ty : TypeId) (x y : Operand) (ho : o.op = .store ty x y)
    (g off : Nat) (hx : A.eval x = .pointer (some ⟨g, off, none⟩)) (v : Value) (hy : A.eval y = v) (t : TypeId) (old : Array Value) (hg : w.heap[g]? = some (.cells old t (0, 0))) (vs : Array Value) (hc : v.cells = vs) (hi : (P.info? ty).map (·.size) = some vs.size) (hle : off + vs.size ≤ old.size) (h1 : vs.all (·.oneCell') = true) (new : Array Value) (hn : splice old off vs = new)
    (H : ∀ w', Stored w w' g (.cells new t (0, 0)) → R1 w' ∧ k.p undef w') : OpX P ops R1 k o A w :=
  ⟨hw, by
    subst hc
    subst hn
    have := H _ (stored_setRow _ hg)
    unfold execOp
    simp only [ho, hx, hy, Instr.storeAt, Instr.sureAddr, Sem.run_bind, Sem.run_pure, Result.andThen_ok, run_storeVar_at w g off t ty old v hg hi hle h1]
    exact this⟩
def opsP (P : Program) (ops : Array Oper) (posts : List PostE) (A : (Nat → Value) → Act) (R0 R1 : World → Prop) (e0 : Nat) : Nat → List Oper → Prop
  | _, [] => True
  | i, o :: r => (∀ ptrs w, (i < e0 → R0 w ∨ R1 w) → (i = e0 → R0 w) → (e0 < i → R1 w) → exHold posts ptrs w (edges o) → (i = e0 → OpX P ops R1 (postE posts i) o (A ptrs) w) ∧ (i ≠ e0 → OpE P ops (postE posts i) o (A ptrs) w)) ∧ opsP P ops posts A R0 R1 e0 (i + 1) r
theorem opsP_nil {ops : Array Oper} {posts : List PostE} {A : (Nat → Value) → Act} {R0 R1 : World → Prop} {e0 i : Nat} : opsP P ops posts A R0 R1 e0 i [] := trivial
theorem opsP_a {ops : Array Oper} {posts : List PostE} {A : (Nat → Value) → Act} {R0 R1 : World → Prop} {e0 i : Nat} {o : Oper} {r : List Oper} (hi : i < e0) (h : ∀ ptrs w, R0 w ∨ R1 w → exHold posts ptrs w (edges o) → OpE P ops (postE posts i) o (A ptrs) w) (hr : opsP P ops posts A R0 R1 e0 (i + 1) r) : opsP P ops posts A R0 R1 e0 i (o :: r) :=
  ⟨fun ptrs w h1 _ _ hx => ⟨fun e => by omega, fun _ => h ptrs w (h1 hi) hx⟩, hr⟩
theorem opsP_e {ops : Array Oper} {posts : List PostE} {A : (Nat → Value) → Act} {R0 R1 : World → Prop} {e0 : Nat} {o : Oper} {r : List Oper} (h : ∀ ptrs w, R0 w → exHold posts ptrs w (edges o) → OpX P ops R1 (postE posts e0) o (A ptrs) w) (hr : opsP P ops posts A R0 R1 e0 (e0 + 1) r) : opsP P ops posts A R0 R1 e0 e0 (o :: r) :=
  ⟨fun ptrs w _ h1 _ hx => ⟨fun _ => h ptrs w (h1 rfl) hx, fun e => absurd rfl e⟩, hr⟩
theorem opsP_b {ops : Array Oper} {posts : List PostE} {A : (Nat → Value) → Act} {R0 R1 : World → Prop} {e0 i : Nat} {o : Oper} {r : List Oper} (hi : e0 < i) (h : ∀ ptrs w, R1 w → exHold posts ptrs w (edges o) → OpE P ops (postE posts i) o (A ptrs) w) (hr : opsP P ops posts A R0 R1 e0 (i + 1) r) : opsP P ops posts A R0 R1 e0 i (o :: r) :=
  ⟨fun ptrs w _ _ h1 hx => ⟨fun e => by omega, fun _ => h ptrs w (h1 hi) hx⟩, hr⟩
theorem opsP_at {ops : Array Oper} {posts : List PostE} {A : (Nat → Value) → Act} {R0 R1 : World → Prop} {e0 : Nat} : ∀ (l : List Oper) (k : Nat), opsP P ops posts A R0 R1 e0 k l → ∀ i o, l[i]? = some o →
    ∀ ptrs w, (k + i < e0 → R0 w ∨ R1 w) → (k + i = e0 → R0 w) → (e0 < k + i → R1 w) → exHold posts ptrs w (edges o) → (k + i = e0 → OpX P ops R1 (postE posts (k + i)) o (A ptrs) w) ∧ (k + i ≠ e0 → OpE P ops (postE posts (k + i)) o (A ptrs) w)
  | [], _, _, i, o, h => by simp at h
  | x :: r, k, h, 0, o, ho => by
    simp at ho
    subst ho
    exact h.1
  | x :: r, k, h, i + 1, o, ho => by
    have := opsP_at r (k + 1) h.2 i o (by simpa using ho)
    rw [show k + 1 + i = k + (i + 1) by omega] at this
    exact this
theorem wp_region_ph {id : Nat} {l : List Oper} {Q : Exit → Act → World → Prop} {a0 : Act} {w : World} {A : (Nat → Value) → Act} {R0 R1 : World → Prop} (n : Nat) (D : List (Nat × Nat)) (posts : List PostE) (e0 : Nat) (hm : P.follows .mixedOrders = true)
    (hB : growB l.toArray n D = true) (hsz : (D.all fun p => decide (p.2 < a0.tmps.size)) = true) (he0 : e0 < n) (hav : ∀ j, j < e0 → ∃ v, postE posts j = .val v) (hdep : ((List.range n).all fun i => !decide (e0 < i) || reach l.toArray l.toArray.size i e0) = true)
    (hw0 : R0 w.drew) (hr0 : ∀ a b, R0 a → Gro a b → R0 b) (hr1 : ∀ a b, R1 a → Gro a b → R1 b)
    (hA : ∀ ptrs, full a0 D (filledE posts ptrs) = A ptrs)
    (hop : opsP P l.toArray posts A R0 R1 e0 0 (l.take n))
    (hrest : ∀ ptrs w', R1 w' → exHold posts ptrs w' (List.range n) → wpList P l.toArray Q (l.drop n) (A ptrs) w') :
    (Code.region id l.toArray true).wp P Q a0 w := by
  have eA : A = fun ptrs => full a0 D (filledE posts ptrs) := funext fun ptrs => (hA ptrs).symm
  subst eA
  have hB' := hB
  simp only [growB, Bool.and_eq_true, decide_eq_true_eq] at hB'
  obtain ⟨⟨⟨⟨⟨⟨hsel, hn⟩, hfirst⟩, hD⟩, hnd⟩, hph⟩, hch⟩ := hB'
  have hn' : n ≤ l.length := by simpa using hn
  have hsz' : ∀ p ∈ D, p.2 < a0.tmps.size := fun p hp => by
    have := List.all_eq_true.1 hsz p hp
    simpa using this
  refine wp_region_any hm ?_
  have hDn : ∀ p ∈ D, p.1 < n := fun p hp => by have := List.all_eq_true.1 hD p hp; simp at this; exact this.1
  have hgen : ∀ i, i < n → ∀ o, l.toArray[i]? = some o → ∀ vals w', (∀ j ∈ edges o, (postE posts j).p (vals j) w') → execOp (full a0 D vals).eval o = execOp (full a0 D (filledE posts vals)).eval o ∧ Region.wanted o (yielded l.toArray (full a0 D vals).tmps) = Region.wanted o (yielded l.toArray (full a0 D (filledE posts vals)).tmps) := fun i hi o ho vals w' hdeps => by
      have hio := List.all_eq_true.1 hfirst i (List.mem_range.2 hi)
      rw [ho] at hio
      simp only [Bool.and_eq_true] at hio
      obtain ⟨_, hlook⟩ := hio
      have hagree : ∀ t ∈ o.looksAt l.toArray, (full a0 D vals).tmps[t]? = (full a0 D (filledE posts vals)).tmps[t]? := fun t ht => by
        have := List.all_eq_true.1 hlook t ht
        simp only [Bool.or_eq_true] at this
        rcases this with h | h
        · have h' : ∀ p ∈ D, p.2 ≠ t := fun p hp => by
            have := List.all_eq_true.1 h p hp
            simpa using this
          unfold full
          rw [fold_out vals t D a0.tmps h', fold_out _ t D a0.tmps h']
        · obtain ⟨j, hj, hc⟩ := List.any_eq_true.1 h
          have hp : (j, t) ∈ D := by simpa using hc
          unfold full
          rw [fold_in vals j t D a0.tmps hp hnd (hsz' _ hp), fold_in _ j t D a0.tmps hp hnd (hsz' _ hp)]
          unfold filledE
          rw [PostE.fill_of (hdeps j hj)]
      have hex : execOp (full a0 D vals).eval o = execOp (full a0 D (filledE posts vals)).eval o := execOp_congr o (fun cs b => Region.noSelect_spec hsel i o cs b ho) fun x hx => eval_congr fun t ht => hagree t (by
        subst ht
        exact List.mem_append_left _ (List.mem_filterMap.2 ⟨.tmp t, by simpa using hx, rfl⟩))
      have hwa := wanted_congr (ops := l.toArray) (o := o) hagree
      exact ⟨hex, hwa⟩
  have main := wpAny_ph (P := P) (ops := l.toArray) (n := n) (D := D) (posts := postE posts) (a0 := a0) (R0 := R0) (R1 := R1) (e0 := e0) (Q := Q) hB hsz' he0 hr0 hr1
    (fun j hj v w w' hp => by obtain ⟨u, hu⟩ := hav j hj; rw [hu] at hp ⊢; exact hp)
    (fun i hi hlt => by have := List.all_eq_true.1 hdep i (List.mem_range.2 hi); simpa [hlt] using this)
    (fun i hi hie o ho vals w' h1 h2 hdeps => by
      have hoi : (l.take n)[i]? = some o := by rw [List.getElem?_take_of_lt hi]; simpa using ho
      have H := (opsP_at (l.take n) 0 hop i o hoi vals w' (by rw [Nat.zero_add]; exact h1) (fun e => absurd (by omega) hie) (by rw [Nat.zero_add]; exact h2) (exHold_of posts vals w' _ hdeps)).2 (by omega)
      rw [Nat.zero_add] at H
      obtain ⟨hex, hwa⟩ := hgen i hi o ho vals w' hdeps
      rw [hwa, hex]
      exact H.out)
    (fun o ho vals w' h1 hdeps => by
      have hoi : (l.take n)[e0]? = some o := by rw [List.getElem?_take_of_lt he0]; simpa using ho
      have H := (opsP_at (l.take n) 0 hop e0 o hoi vals w' (fun hf => by omega) (fun _ => h1) (fun hf => by omega) (exHold_of posts vals w' _ hdeps)).1 (by omega)
      rw [Nat.zero_add] at H
      obtain ⟨hex, hwa⟩ := hgen e0 he0 o ho vals w' hdeps
      rw [hwa, hex]
      exact ⟨H.want, H.out⟩)
    (fun vals w' hg hall => by
      have e : full a0 D vals = full a0 D (filledE posts vals) := full_congr fun p hp => (PostE.fill_of (hall p.1 (hDn p hp))).symm
      rw [e]
      have := hrest vals w' hg (exHold_of posts vals w' _ fun j hj => hall j (List.mem_range.1 hj))
      simpa using this)
    n (Array.replicate l.length false) (fun _ => undef) a0 w.drew
    ⟨by simp, fun i _ => by by_cases h : i < l.length <;> simp [h], fun j o _ hj => by by_cases h : j < l.length <;> simp [h] at hj, rfl, rfl,
      fun i d _ hi => by by_cases h : i < l.length <;> simp [h] at hi, fun _ _ => rfl, fun _ => hw0, fun hf => by (by_cases h : e0 < l.length <;> simp [h] at hf), fun i _ hi => by by_cases h : i < l.length <;> simp [h] at hi⟩
    (by
      have hz : ∀ m, m ≤ l.length → left (Array.replicate l.length false) m = m := by
        intro m
        induction m with
        | zero => intro _; simp [left]
        | succ m ih => intro hm; rw [left_succ, ih (by omega)]; simp [show m < l.length by omega]
      exact hz n hn')
  have e1 : n + (l.toArray.size - n) = l.toArray.size := by simp; omega
  rw [e1] at main
  simpa using main
end
end Go.Proofs.Ytfabgonoonanfaa
