/- Regions in whatever order: the whole. -/
import Derived.Test.YtekhnmfmdkfidaaGreatX9
namespace Go.Proofs.YtekhnmfmdkfidaaGreat.EX
open Go
section
variable {P : Program} {p : Plan} {ops : Array Oper} {n0 k : Nat} {r0 : Env} {h0 : Hp} {w0 : World} {L : Nat → Bool} {s : St} {al : T Obj} {r : Env} {a : Act} {w : World}
theorem kindC_lt (o : Oper) : kindC o < 3 := by
  unfold kindC
  repeat' split
  all_goals omega
theorem settled (D : DrOK p ops) {s' : St} {al' : T Obj} (C : Chg (p.floats ops.toList k) s s' al al') (hL : ∀ x ∈ p.floats ops.toList k, x.1 = true → L x.2.1 = false) (R : DRel p ops n0 k r0 h0 w0 L s al r a w) (I : DI p ops n0 k s al) :
    DRel p ops n0 k r0 h0 w0 L s' al' r a w ∧ DI p ops n0 k s' al' := by
  refine ⟨⟨by rw [C.ds]; exact R.defers, R.size.trans C.nt.symm, fun t => ?_, ?_, fun b c h => by rw [C.h]; exact R.lt b c h, fun b c h ho1 => by rw [C.h]; exact R.odd b c h ho1, R.rsv, by rw [C.h]; exact R.fr⟩, ⟨by rw [C.h]; exact I.nm, by rw [C.h]; exact I.lt, by rw [C.h]; exact I.rs, fun c hc => ?_⟩⟩
  · by_cases e : ∃ x ∈ p.floats ops.toList k, x.1 = true ∧ x.2.2.dst = some t
    · obtain ⟨x, h1, h2, h3⟩ := e
      exact .inl ⟨x.2.1, x.2.2, (floats_fl p ops k x h1).at_, hL x h1 h2, h3⟩
    · rw [C.tm t fun x hx hb hd => e ⟨x, hx, hb, hd⟩]
      exact R.slots t
  · have e : Kf n0 ops.size (p.mm k) L al' s'.h.t = Kf n0 ops.size (p.mm k) L al s.h.t := by
      funext b
      rw [C.h]
      unfold Kf
      by_cases q : L (b / 2 - n0) = true
      · rw [C.al (b / 2 - n0) fun x hx hb hd => by
          have := hL x hx hb
          rw [hd, q] at this
          cases this]
      · have q' : L (b / 2 - n0) = false := by simpa using q
        rw [q']
        simp
    rw [e]
    exact R.kr
  · rw [C.al c fun x hx _ hd => ?_]
    · exact I.al c hc
    · have f := floats_fl p ops k x hx
      exact f.kind ((D.kind c x.2.2 (by rw [← hd]; exact f.at_)).2 hc)
theorem getD_set' {listed : Array Bool} {i : Nat} (hi : i < listed.size) (j : Nat) : (listed.setIfInBounds i true).getD j false = (j == i || listed.getD j false) := by
  by_cases e : j = i
  · subst e
    simp [Array.getD, hi]
  · have h1 : (j == i) = false := by simpa using e
    rw [h1, Bool.false_or]
    simp only [Array.getD_eq_getD_getElem?]
    rw [Array.getElem?_setIfInBounds_ne (Ne.symm e)]
theorem closed_mask (D : DrOK p ops) (hcl : ∀ (i : Nat) (o : Oper), ops[i]? = some o → L i = true → ∀ e ∈ edg o, L e = true) : ∀ (n i : Nat) (o : Oper), i ≤ n → ops[i]? = some o → (∀ e ∈ edg o, L e = true) → ∀ j, bt (p.mask i) j = true → L j = true := by
  intro n
  induction n with
  | zero =>
    intro i o hi ho _ j hj
    have := D.mask_lt i i o (Nat.le_refl _) ho j hj
    omega
  | succ n ih =>
    intro i o hi ho he j hj
    obtain ⟨e, h1, h2⟩ := (D.mask_iff ho j).1 hj
    rcases h2 with h2 | h2
    · have hlt := D.back i o ho e h1
      obtain ⟨oe, hoe⟩ := at_lt (ops := ops) (i := e) (by have := lt_at ho; omega)
      exact ih e oe (by omega) hoe (hcl e oe hoe (he e h1)) j h2
    · subst h2; exact he _ h1
theorem chain_at (D : DrOK p ops) {i : Nat} (hi : i ∈ p.ch) (hL : L i = false) (hm : ∀ j, bt (p.mask i) j = true → L j = true) (h1 : ∀ c ∈ p.ch.take k, L c = true) (h2 : ∀ c ∈ p.ch.drop k, L c = false) : k < p.ch.length ∧ p.ch.getD k 0 = i := by
  obtain ⟨j, hj, he⟩ := List.getElem_of_mem hi
  have hjk : k ≤ j := by
    apply Classical.byContradiction
    intro h
    have := h1 i (by rw [← he, List.mem_take_iff_getElem]; exact ⟨j, by omega, rfl⟩)
    rw [hL] at this
    cases this
  have hjk2 : j = k := by
    apply Classical.byContradiction
    intro h
    obtain ⟨j', rfl⟩ : ∃ j', j = j' + 1 := ⟨j - 1, by omega⟩
    have hc := D.chain j' hj
    have e1 : p.ch.getD (j' + 1) 0 = i := by rw [List.getD_eq_getElem?_getD, List.getElem?_eq_getElem hj]; exact he
    rw [e1] at hc
    have h3 := hm _ hc
    have h4 : p.ch.getD j' 0 ∈ p.ch.drop k := by
      rw [List.getD_eq_getElem?_getD, List.getElem?_eq_getElem (by omega : j' < p.ch.length)]
      rw [List.mem_drop_iff_getElem]
      exact ⟨j' - k, by omega, by simp [show k + (j' - k) = j' by omega]⟩
    rw [h2 _ h4] at h3
    cases h3
  subst hjk2
  exact ⟨hj, by rw [List.getD_eq_getElem?_getD, List.getElem?_eq_getElem hj]; exact he⟩
theorem draw_main (hz : Zc P) {call : FuncId → Array Value → Hp → (Value → Hp → An) → An} (hc : CallK P call) (hct : CallTh call) (D : DrOK p ops) (hn : h0.n = n0) {Q : Exit → Act → World → Prop} {q : St → An} (hth : Th1 q)
    (hQ : ∀ s1 N' r' a' w', q s1 N' → SL r' s1 a' w' → Fr r0 r' h0 s1.h w0 w' → Q .normal a' w') :
    ∀ (fuel : Nat) (listed : Array Bool) (k : Nat) (s : St) (al : T Obj) (r : Env) (a : Act) (w : World) (N : Prop), listed.size = ops.size →
      (∀ (i : Nat) (o : Oper), ops[i]? = some o → listed.getD i false = true → ∀ e ∈ edg o, listed.getD e false = true) → listed.toList.count false = fuel →
      (∀ c ∈ p.ch.take k, listed.getD c false = true) → (∀ c ∈ p.ch.drop k, listed.getD c false = false) → k ≤ p.ch.length →
      DRel p ops n0 k r0 h0 w0 (fun j => listed.getD j false) s al r a w → DI p ops n0 k s al →
      (∀ (i : Nat) (o : Oper), ops[i]? = some o → kindC o ≠ 2 → p.due k i = true → PreOK P n0 ops.toList s al i o ∧ ReadOK P n0 ops.size ops.toList p k s al i o) →
      restK P call n0 ops.size ops.toList p (List.range' k (p.ch.length - k)) s al q N → wpAny P .any ops Q fuel listed a w := by
  intro fuel
  have final : ∀ (listed : Array Bool) (k : Nat) (s : St) (al : T Obj) (r : Env) (a : Act) (w : World) (N : Prop), (∀ i, i < ops.size → listed.getD i false = true) → (∀ c ∈ p.ch.drop k, listed.getD c false = false) → k ≤ p.ch.length →
      DRel p ops n0 k r0 h0 w0 (fun j => listed.getD j false) s al r a w → DI p ops n0 k s al → restK P call n0 ops.size ops.toList p (List.range' k (p.ch.length - k)) s al q N → Q .normal a w := by
    intro listed k s al r a w N hall hdrop hk R I h
    have hkk : k = p.ch.length := by
      apply Classical.byContradiction
      intro hne
      have hlt : k < p.ch.length := by omega
      have hmem : p.ch.getD k 0 ∈ p.ch.drop k := by
        rw [List.getD_eq_getElem?_getD, List.getElem?_eq_getElem hlt, List.mem_drop_iff_getElem]
        exact ⟨0, by omega, by simp⟩
      have h1 := hdrop _ hmem
      rw [hall _ (D.lt _ (List.mem_of_mem_drop hmem))] at h1
      cases h1
    subst hkk
    rw [Nat.sub_self] at h
    have h' : heapK n0 al (p.left ops.size p.ch.length) s.h.t (fun X => q ⟨s.tm, s.nt, s.ds, ⟨X, s.h.n⟩⟩) N := h
    rw [heapK_eq] at h'
    have hleft : ∀ j ∈ p.left ops.size p.ch.length, j < ops.size ∧ listed.getD j false = true ∧ bt (p.mm p.ch.length) j = false := fun j hj => by
      unfold Plan.left at hj
      obtain ⟨h1, h2⟩ := List.mem_filter.1 hj
      have := List.mem_range.1 h1
      exact ⟨this, hall j this, by simpa using h2⟩
    refine hQ _ N r a w h' ⟨R.defers, R.size, fun t => ?_, R.kr.sub ⟨heapF n0 al (p.left ops.size p.ch.length) s.h.t, s.h.n⟩ (heapF_sub hleft I.rs) R.lt (R.oddN I), part_tidy I fun j hj => (hleft j hj).1⟩ (fr_part R.fr hn)
    rcases R.slots t with ⟨i, o, h1, h2, _⟩ | h1
    · rw [hall i (lt_at h1)] at h2
      cases h2
    · exact h1
  have rdy : ∀ (listed : Array Bool), listed.size = ops.size → Region.ready .any ops listed = [] → ∀ i, i < ops.size → listed.getD i false = true := by
    intro listed hs hr
    have key : ∀ n i, i ≤ n → i < ops.size → listed.getD i false = true := by
      intro n
      induction n with
      | zero =>
        intro i hi hlt
        cases e : listed.getD i false with
        | true => rfl
        | false =>
          obtain ⟨o, ho⟩ := at_lt hlt
          have : i ∈ Region.ready .any ops listed := ready_iff.2 ⟨by rw [Array.getD_eq_getD_getElem?] at e ⊢; rw [Array.getElem?_eq_getElem (by omega)] at e ⊢; exact e, o, ho, fun e he => by have := D.back i o ho e he; omega⟩
          rw [hr] at this
          cases this
      | succ n ih =>
        intro i hi hlt
        cases e : listed.getD i false with
        | true => rfl
        | false =>
          obtain ⟨o, ho⟩ := at_lt hlt
          have : i ∈ Region.ready .any ops listed := ready_iff.2 ⟨by rw [Array.getD_eq_getD_getElem?] at e ⊢; rw [Array.getElem?_eq_getElem (by omega)] at e ⊢; exact e, o, ho, fun e he => by have := D.back i o ho e he; exact ih e (by omega) (by omega)⟩
          rw [hr] at this
          cases this
    exact fun i hi => key i i (Nat.le_refl _) hi
  induction fuel with
  | zero =>
    intro listed k s al r a w N hs hcl hcnt htk hdr hk R I Rd h
    have hall : ∀ i, i < ops.size → listed.getD i false = true := fun i hi => by
      rw [List.count_eq_zero] at hcnt
      cases e : listed.getD i false with
      | true => rfl
      | false =>
        exfalso
        apply hcnt
        rw [Array.getD_eq_getD_getElem?, Array.getElem?_eq_getElem (by omega)] at e
        simp only [Option.getD_some] at e
        rw [← e]
        simp
    refine ⟨?_, final listed k s al r a w N hall hdr hk R I h⟩
    apply List.eq_nil_iff_forall_not_mem.2
    intro i hi
    obtain ⟨h1, o, ho, _⟩ := ready_iff.1 hi
    have := hall i (lt_at ho)
    have hlt := lt_at ho
    rw [Array.getD_eq_getD_getElem?, Array.getElem?_eq_getElem (by omega)] at h1 this
    rw [Option.getD_some] at h1 this
    rw [h1] at this
    cases this
  | succ fuel ih =>
    intro listed k s al r a w N hs hcl hcnt htk hdr hk R I Rd h
    refine ⟨fun hr => final listed k s al r a w N (rdy listed hs hr) hdr hk R I h, fun i hi => ?_⟩
    obtain ⟨hun, o, ho, hed⟩ := ready_iff.1 hi
    have hlt := lt_at ho
    have hun' : listed.getD i false = false := by
      rw [Array.getD_eq_getD_getElem?, Array.getElem?_eq_getElem (by omega)] at hun ⊢
      exact hun
    have hm := closed_mask D (L := fun j => listed.getD j false) hcl i i o (Nat.le_refl _) ho hed
    have hset := getD_set' (listed := listed) (i := i) (by omega)
    have eL : (fun j => (listed.setIfInBounds i true).getD j false) = upd (fun j => listed.getD j false) i := by
      funext j
      rw [hset j]
      rfl
    have hsz : (listed.setIfInBounds i true).size = ops.size := by simpa using hs
    have hcl' : ∀ (j : Nat) (oj : Oper), ops[j]? = some oj → (listed.setIfInBounds i true).getD j false = true → ∀ e ∈ edg oj, (listed.setIfInBounds i true).getD e false = true := by
      intro j oj hoj hj e he
      rw [hset] at hj ⊢
      by_cases q : j = i
      · subst q
        rw [ho] at hoj
        cases hoj
        rw [hed e he, Bool.or_true]
      · have q1 : (j == i) = false := by simpa using q
        rw [q1, Bool.false_or] at hj
        rw [hcl j oj hoj hj e he, Bool.or_true]
    have hcnt' : (listed.setIfInBounds i true).toList.count false = fuel := by
      rw [Array.toList_setIfInBounds, List.count_set (by simpa using (by omega : i < listed.size))]
      have : listed.toList[i]'(by simpa using (by omega : i < listed.size)) = false := by
        rw [Array.getD_eq_getD_getElem?, Array.getElem?_eq_getElem (by omega)] at hun'
        simpa using hun'
      rw [this, hcnt]
      simp
    unfold wpOp
    rw [ho]
    dsimp only
    have goal : (if Region.wanted o (yielded ops a.tmps) = true then o.wp P a w (wpAny P .any ops Q fuel (listed.setIfInBounds i true)) Q else wpAny P .any ops Q fuel (listed.setIfInBounds i true) (a.put o.dst undef) w) → (if Region.wanted o (yielded ops a.tmps) = true then o.wp P a w (wpAny P .any ops Q fuel (listed.setIfInBounds i true)) Q ∨ o.asks P a w ∧ LetsOut Q else wpAny P .any ops Q fuel (listed.setIfInBounds i true) (a.put o.dst undef) w) := fun g => by
      split
      · rename_i e; rw [if_pos e] at g; exact .inl g
      · rename_i e; rw [if_neg e] at g; exact g
    apply goal
    by_cases hkd : kindC o = 2
    · -- an operation of the chain
      have hich := (D.kind i o ho).1 hkd
      obtain ⟨hkl, hki⟩ := chain_at D hich hun' hm htk hdr
      have er : List.range' k (p.ch.length - k) = k :: List.range' (k + 1) (p.ch.length - (k + 1)) := by
        rw [show p.ch.length - k = (p.ch.length - (k + 1)) + 1 by omega, List.range'_succ]
      rw [er] at h
      have h' : chK P call n0 ops.size ops.toList p k s al (fun s1 => settleK P n0 ops.size ops.toList p (k + 1) (p.floats ops.toList (k + 1)) s1 al fun s2 al2 => restK P call n0 ops.size ops.toList p (List.range' (k + 1) (p.ch.length - (k + 1))) s2 al2 q) N := h
      have ho' : ops[p.ch.getD k 0]? = some o := by rw [hki]; exact ho
      refine chain_step hz hc D hn R I hkl ho' (by rw [hki]; exact hm) (fun s1 N h => settleK_th (fun s2 al2 N h => restK_th hz hct hth _ s2 al2 N h) _ _ _ _ h) h' fun s1 N' r' a' w' hq R' I' hnt htm => ?_
      have hch : i ∈ p.ch.drop k := by
        rw [← hki, List.getD_eq_getElem?_getD, List.getElem?_eq_getElem hkl, List.mem_drop_iff_getElem]
        exact ⟨0, by omega, by simp⟩
      obtain ⟨s', al', g1, g2, g3⟩ := settle_ok D (p.floats ops.toList (k + 1)) [] rfl s1 al (fun x hx => by cases hx) (fun x hx hb => by
        have f := floats_fl p ops (k + 1) x hx
        have f1 := f.new
        rw [hb] at f1
        have hdue : p.due k x.2.1 = true := by simpa [Plan.isNew] using f1.symm
        obtain ⟨v, ob, q1, q2, q3⟩ := (Rd x.2.1 x.2.2 f.at_ f.kind hdue).1
        have hnl : ∀ t ∈ x.2.2.looksAt ops, o.dst ≠ some t := fun t ht e => by
          have h1 := D.edge_mask f.at_ (D.looks x.2.1 x.2.2 i o t f.at_ ho e ht)
          have h2 := ((due_iff p k x.2.1).1 hdue).1 i hch
          rw [h1] at h2
          cases h2
        have hsm : Same ops.toList x.2.2 s s1 := ⟨hnt, fun t ht => htm t (hnl t (by simpa using ht))⟩
        refine ⟨v, ob, q1.same hsm, fun d hd => ?_, q3⟩
        have hne : o.dst ≠ some d := fun e => by
          have := D.dst x.2.1 x.2.2 i o d f.at_ ho e hd
          have f2 := f.at_
          rw [this, ho] at f2
          cases f2
          exact f.kind hkd
        rw [htm d hne, hnt]
        exact q2 d hd) hq
      have hnewL : ∀ x ∈ p.floats ops.toList (k + 1), x.1 = true → upd (fun j => listed.getD j false) (p.ch.getD k 0) x.2.1 = false := by
        intro x hx hb
        have f := floats_fl p ops (k + 1) x hx
        have f1 := f.new
        rw [hb] at f1
        have hdue : p.due k x.2.1 = false := by simpa [Plan.isNew] using f1.symm
        have hxi : x.2.1 ≠ p.ch.getD k 0 := fun e => by
          rw [hki] at e
          have f2 := f.at_
          rw [e, ho] at f2
          have : x.2.2 = o := by cases f2; rfl
          exact f.kind (by rw [this]; exact hkd)
        rw [upd_ne hxi]
        cases e : listed.getD x.2.1 false with
        | false => rfl
        | true =>
          exfalso
          have hmx := closed_mask D (L := fun j => listed.getD j false) hcl x.2.1 x.2.1 x.2.2 (Nat.le_refl _) f.at_ (hcl _ _ f.at_ e)
          have : p.due k x.2.1 = true := by
            rw [due_iff]
            refine ⟨fun c hcc => ?_, fun c hcc => ((due_iff p (k + 1) x.2.1).1 f.due).2 c ((List.take_subset_take_left p.ch (Nat.le_succ k)) hcc)⟩
            cases e2 : bt (p.mask x.2.1) c with
            | false => rfl
            | true =>
              have := hmx c e2
              rw [hdr c hcc] at this
              cases this
          rw [hdue] at this
          cases this
      obtain ⟨R2, I2⟩ := settled D g3 hnewL R' I'
      rw [hki] at R2
      rw [← eL] at R2
      refine ih (listed.setIfInBounds i true) (k + 1) s' al' r' a' w' N' hsz hcl' hcnt' (fun c hcc => ?_) (fun c hcc => ?_) (by omega) R2 I2 (fun j oj hoj hkj hdj => g1 _ (fl_floats (k + 1) hoj hkj hdj)) g2
      · rw [hset]
        rw [List.take_add_one] at hcc
        rcases List.mem_append.1 hcc with hcc | hcc
        · rw [htk c hcc, Bool.or_true]
        · rw [List.getElem?_eq_getElem hkl] at hcc
          simp at hcc
          have : c = i := by rw [hcc, ← hki, List.getD_eq_getElem?_getD, List.getElem?_eq_getElem hkl]; rfl
          rw [this]
          simp
      · rw [hset]
        have hcd : c ∈ p.ch.drop k := by
          rw [← List.drop_drop] at hcc
          exact List.mem_of_mem_drop hcc
        rw [hdr c hcd, Bool.or_false]
        cases e : c == i with
        | false => rfl
        | true =>
          exfalso
          have e' : c = i := by simpa using e
          -- an operation stands in the chain once
          obtain ⟨j, hj, hje⟩ := List.getElem_of_mem hcc
          have hj' : k + 1 + j < p.ch.length := by simpa using hj |> fun h => by simp at h; omega
          have h1 : p.ch.getD (k + 1 + j) 0 = c := by
            rw [List.getD_eq_getElem?_getD, List.getElem?_eq_getElem hj']
            rw [← hje]
            simp
          -- masks of the chain grow
          have grow : ∀ d, k + 1 + d < p.ch.length → bt (p.mask (p.ch.getD (k + 1 + d) 0)) (p.ch.getD k 0) = true := by
            intro d
            induction d with
            | zero => intro hd; exact D.chain k hd
            | succ d ihd =>
              intro hd
              have h2 := D.chain (k + 1 + d) (by omega)
              obtain ⟨od, hod⟩ := at_lt (D.lt _ (getD_mem (l := p.ch) (k := k + 1 + d + 1) (by omega)))
              exact D.mask_trans _ _ od (Nat.le_refl _) hod _ _ h2 (ihd (by omega))
          have h3 := grow j hj'
          rw [h1, hki, e'] at h3
          have := D.mask_lt i i o (Nat.le_refl _) ho i h3
          omega
    · -- a floating operation
      have hdue : p.due k i = true := by
        rw [due_iff]
        refine ⟨fun c hcc => ?_, fun c hcc => ?_⟩
        · cases e : bt (p.mask i) c with
          | false => rfl
          | true =>
            have := hm c e
            rw [hdr c hcc] at this
            cases this
        · cases e : bt (p.mask c) i with
          | false => rfl
          | true =>
            exfalso
            obtain ⟨oc, hoc⟩ := at_lt (D.lt c (List.mem_of_mem_take hcc))
            have := closed_mask D (L := fun j => listed.getD j false) hcl c c oc (Nat.le_refl _) hoc (hcl c oc hoc (htk c hcc)) i e
            rw [hun'] at this
            cases this
      have hmm : bt (p.mm k) i = false := by
        cases k with
        | zero => exact bt_zero i
        | succ k =>
          refine ((due_iff p (k + 1) i).1 hdue).2 _ ?_
          have hkl : k < p.ch.length := by omega
          rw [List.getD_eq_getElem?_getD, List.getElem?_eq_getElem hkl, List.mem_take_iff_getElem]
          exact ⟨k, by omega, rfl⟩
      have hne : ∀ c ∈ p.ch, c ≠ i := fun c hcc e => hkd ((D.kind i o ho).2 (e ▸ hcc))
      obtain ⟨hp, hr⟩ := Rd i o ho hkd hdue
      refine float_step hz D hn R I ho hun' hm hmm hkd (kindC_lt o) hp hr fun r' a' w' R' => ?_
      rw [← eL] at R'
      refine ih (listed.setIfInBounds i true) k s al r' a' w' N hsz hcl' hcnt' (fun c hcc => ?_) (fun c hcc => ?_) hk R' I Rd h
      · rw [hset, htk c hcc, Bool.or_true]
      · rw [hset, hdr c hcc, Bool.or_false]
        simpa using hne c (List.mem_of_mem_drop hcc)
/-- A region in whatever order. -/
theorem drawK_sound (hz : Zc P) (hmix : P.follows .mixedOrders = true) {call : FuncId → Array Value → Hp → (Value → Hp → An) → An} (hc : CallK P call) (hct : CallTh call) (id : Nat) {s : St} {q : St → An} (hth : Th1 q) {N : Prop} (h : drawK P call ops s q N) {r : Env} {a : Act} {w : World} (S : SL r s a w) {Q : Exit → Act → World → Prop}
    (hQ : ∀ s1 N' r' a' w', q s1 N' → SL r' s1 a' w' → Fr r r' s.h s1.h w w' → Q .normal a' w') : (Code.region id ops true).wp P Q a w := by
  unfold drawK at h
  cases hd : drOK (planOf ops.toList) ops with
  | false => rw [hd] at h; exact h.elim
  | true =>
    rw [hd] at h
    dsimp only [cond] at h
    rw [getH_eq, fN_eq, fN_eq, withH_eq] at h
    have D := drOK_ok hd
    refine wp_region_any hmix ?_
    have R0 : DRel (planOf ops.toList) ops s.h.n 0 r s.h w (fun _ => false) ⟨s.tm, s.nt, s.ds, ⟨s.h.t, Nat.add s.h.n ops.size⟩⟩ .leaf r a { w with drawn := w.drawn + 1 } := by
      have e : Kf s.h.n ops.size ((planOf ops.toList).mm 0) (fun _ => false) .leaf s.h.t = fun b => s.h.t.get b := by
        funext b
        unfold Kf
        simp
      refine ⟨S.defers, S.size, fun t => .inr (S.tm t), ?_, fun b c hb => ?_, fun b c hb ho1 => .inl (S.h.odd b c hb ho1), fun j c hj hr => ?_, ⟨Le.refl r, fun b c hb => S.h.lt b c hb, Nat.le_refl _, Nat.le_add_right _ _, fun _ _ h _ => .inl h, fun _ _ h => h, fun _ _ _ => rfl, rfl, rfl, rfl⟩⟩
      · rw [e]
        exact ⟨S.h.live, S.h.fn, S.h.inj, S.h.caps⟩
      · have := S.h.lt b c hb
        show b < 2 * (s.h.n + ops.size)
        omega
      · have := S.h.lt _ c hr
        omega
    have live : ∀ b, (s.h.t.get b).isSome → b < 2 * s.h.n := fun b hb => by
      obtain ⟨o, ho⟩ := Option.isSome_iff_exists.1 hb
      obtain ⟨c, _, hr, _⟩ := S.h.live b o ho
      exact S.h.lt b c hr
    have I0 : DI (planOf ops.toList) ops s.h.n 0 ⟨s.tm, s.nt, s.ds, ⟨s.h.t, Nat.add s.h.n ops.size⟩⟩ .leaf := ⟨Nat.le_refl _, fun b hb => by
        have := live b hb
        show b < 2 * (s.h.n + ops.size)
        omega, fun j hj hb => by have := live _ hb; omega, fun c _ => rfl⟩
    obtain ⟨s', al', g1, g2, g3⟩ := settle_ok D ((planOf ops.toList).floats ops.toList 0) [] rfl _ _ (fun x hx => by cases hx) (fun x hx hb => by
      have f := (floats_fl (planOf ops.toList) ops 0 x hx).new
      rw [hb] at f
      cases f) h
    obtain ⟨R2, I2⟩ := settled D g3 (fun _ _ _ => rfl) R0 I0
    have eL : (fun j => (Array.replicate ops.size false).getD j false) = fun _ => false := by
      funext j
      rw [Array.getD_eq_getD_getElem?]
      simp [Array.getElem?_replicate]
      split <;> rfl
    have er : List.range (planOf ops.toList).ch.length = List.range' 0 ((planOf ops.toList).ch.length - 0) := by rw [List.range_eq_range', Nat.sub_zero]
    rw [er] at g2
    have hf : ∀ j, (Array.replicate ops.size false).getD j false = false := fun j => congrFun eL j
    refine draw_main hz hc hct D rfl hth hQ ops.size (Array.replicate ops.size false) 0 s' al' r a _ N (by simp) (fun i o ho hl => by rw [hf i] at hl; cases hl) (by simp) (fun c hcc => by simp at hcc) (fun c _ => hf c) (Nat.zero_le _) (by rw [eL]; exact R2) I2 (fun i o ho hk hdu => g1 _ (fl_floats 0 ho hk hdu)) g2
end
end Go.Proofs.YtekhnmfmdkfidaaGreat.EX
/- The executor, whole. -/
namespace Go.Proofs.YtekhnmfmdkfidaaGreat.EX
open Go
section
variable {P : Program}
def stepK (P : Program) (ih : Code → St → (Exit → St → An) → An) (c : Code) (s : St) (q : Exit → St → An) : An :=
  match c with
  | .skip => q .normal s
  | .label _ => q .normal s
  | .seq a b => ih a s fun e s1 => match e with
    | .normal => ih b s1 q
    | e => q e s1
  | .cond x a b => bif opdOK x then evK s x fun v => match v with
      | .bool t => Bool.rec (ih b s q) (ih a s q) t
      | _ => FF
    else FF
  | .block id b => ih b s fun e s1 => match e with
    | .exit i => bif Nat.beq i id then q .normal s1 else q (.exit i) s1
    | e => q e s1
  | .loop b => ih b s fun e s1 => match e with
    | .normal => ih (.loop b) s1 q
    | e => q e s1
  | .exit id => q (.exit id) s
  | .ret => q .ret s
  | .region _ ops d => bif d then drawK P (callK P ih) ops s fun s1 => q .normal s1 else opsK P (callK P ih) ops.toList ops.toList s fun s1 => q .normal s1
  | _ => FF
def execK (P : Program) (n : Nat) : Code → St → (Exit → St → An) → An :=
  Nat.rec (motive := fun _ => Code → St → (Exit → St → An) → An) (fun _ _ _ => FF) (fun _ ih c s q => stepK P ih c s q) n
theorem execK_th (hz : Zc P) (n : Nat) : RunTh (execK P n) := by
  induction n with
  | zero => intro c s q N _ h; exact h.elim
  | succ n ih =>
    intro c s q N hq h
    have h' : stepK P (execK P n) c s q N := h
    cases c with
    | skip => exact hq _ _ _ h'
    | label l => exact hq _ _ _ h'
    | exit id => exact hq _ _ _ h'
    | ret => exact hq _ _ _ h'
    | seq x y =>
      refine ih x s _ N (fun e s1 N h => ?_) h'
      cases e with
      | normal => exact ih y s1 q N hq h
      | _ => exact hq _ _ _ h
    | cond x t f =>
      simp only [stepK] at h'
      cases ho : opdOK x with
      | false => rw [ho] at h'; exact h'.elim
      | true =>
        rw [ho] at h'
        dsimp only [cond] at h'
        rw [evK_eq _ _ _ ho] at h'
        cases hb : s.ev x with
        | bool b =>
          rw [hb] at h'
          cases b with
          | true => exact ih t s q N hq h'
          | false => exact ih f s q N hq h'
        | _ => rw [hb] at h'; exact h'.elim
    | block id b =>
      refine ih b s _ N (fun e s1 N h => ?_) h'
      cases e with
      | exit i =>
        dsimp only at h
        cases hb : Nat.beq i id with
        | true => rw [hb] at h; exact hq _ _ _ h
        | false => rw [hb] at h; exact hq _ _ _ h
      | _ => exact hq _ _ _ h
    | loop b =>
      refine ih b s _ N (fun e s1 N h => ?_) h'
      cases e with
      | normal => exact ih (.loop b) s1 q N hq h
      | _ => exact hq _ _ _ h
    | region id ops d =>
      cases d with
      | true => exact drawK_th hz (callK_th hz ih) (q := fun s1 => q .normal s1) (fun s1 N h => hq _ _ _ h) h'
      | false => exact opsK_th hz (callK_th hz ih) (q := fun s1 => q .normal s1) (fun s1 N h => hq _ _ _ h) _ s N h'
    | _ => exact h'.elim
/-- What the executor goes on with, every world and every tape comes to. -/
theorem execK_sound (hz : Zc P) (hmix : P.follows .mixedOrders = true) : ∀ (n : Nat) (c : Code) (s : St) (q : Exit → St → An) (N : Prop), Th2 q → execK P n c s q N → ∀ (r : Env) (a : Act) (w : World), SL r s a w →
    c.wp P (PostK r s.h w q) a w ∧ ∀ b, c = .loop b → Lp P b (PostK r s.h w q) a w := by
  intro n
  induction n with
  | zero => intro c s q N _ h; exact h.elim
  | succ n ih =>
    intro c s q N hq h r a w S
    have h' : stepK P (execK P n) c s q N := h
    have other : (∀ b, c ≠ .loop b) → c.wp P (PostK r s.h w q) a w → c.wp P (PostK r s.h w q) a w ∧ ∀ b, c = .loop b → Lp P b (PostK r s.h w q) a w := fun hn k => ⟨k, fun b q => absurd q (hn b)⟩
    have here : ∀ e, q e s N → PostK r s.h w q e a w := fun e k => ⟨s, N, k, r, S, .refl S.h⟩
    cases c with
    | skip => exact other (fun _ q => by cases q) (wp_skip (here _ h'))
    | label l => exact other (fun _ q => by cases q) (wp_label (here _ h'))
    | exit id => exact other (fun _ q => by cases q) (wp_exit (here _ h'))
    | ret => exact other (fun _ q => by cases q) (wp_ret (here _ h'))
    | seq x y =>
      refine other (fun _ q => by cases q) (wp_seq ?_)
      refine wp_mono (ih x s _ N (fun e s1 N h => by
        cases e with
        | normal => exact execK_th hz n y s1 q N hq h
        | _ => exact hq _ _ _ h) h' r a w S).1 fun e' a' w' k => ?_
      obtain ⟨s2, N2, hk, r', S', F'⟩ := k
      cases e' with
      | normal => exact wp_mono (ih y s2 q N2 hq hk r' a' w' S').1 fun _ _ _ q => PostK.at F' q
      | _ => exact ⟨s2, N2, hk, r', S', F'⟩
    | cond x t f =>
      refine other (fun _ q => by cases q) ?_
      simp only [stepK] at h'
      cases ho : opdOK x with
      | false => rw [ho] at h'; exact h'.elim
      | true =>
        rw [ho] at h'
        dsimp only [cond] at h'
        rw [evK_eq _ _ _ ho] at h'
        have hv := S.ev x ho
        cases hb : s.ev x with
        | bool b =>
          rw [hb] at h' hv
          cases b with
          | true => exact wp_cond_true hv (ih t s q N hq h' r a w S).1
          | false => exact wp_cond_false hv (ih f s q N hq h' r a w S).1
        | _ => rw [hb] at h'; exact h'.elim
    | block id b =>
      refine other (fun _ q => by cases q) (wp_block ?_)
      refine wp_mono (ih b s _ N (fun e s1 N h => by
        cases e with
        | exit i =>
          dsimp only at h
          cases hb : Nat.beq i id with
          | true => rw [hb] at h; exact hq _ _ _ h
          | false => rw [hb] at h; exact hq _ _ _ h
        | _ => exact hq _ _ _ h) h' r a w S).1 fun e' a' w' k => ?_
      obtain ⟨s2, N2, hk, r', S', F'⟩ := k
      cases e' with
      | exit i =>
        dsimp only at hk
        by_cases hi : i = id
        · subst hi
          have e : Nat.beq i i = true := Nat.beq_refl i
          rw [e] at hk
          simp only [Exit.inBlock, if_true]
          exact ⟨s2, N2, hk, r', S', F'⟩
        · have e : Nat.beq i id = false := Bool.eq_false_iff.2 fun k => hi (Nat.eq_of_beq_eq_true k)
          rw [e] at hk
          simp only [Exit.inBlock, if_neg hi]
          exact ⟨s2, N2, hk, r', S', F'⟩
      | _ => exact ⟨s2, N2, hk, r', S', F'⟩
    | loop b =>
      have key : Lp P b (PostK r s.h w q) a w := by
        refine Lp.step ?_
        refine wp_mono (ih b s _ N (fun e s1 N h => by
          cases e with
          | normal => exact execK_th hz n (.loop b) s1 q N hq h
          | _ => exact hq _ _ _ h) h' r a w S).1 fun e' a' w' k => ?_
        obtain ⟨s2, N2, hk, r', S', F'⟩ := k
        cases e' with
        | normal =>
          have k2 := (ih (.loop b) s2 q N2 hq hk r' a' w' S').2 b rfl
          intro bb kk cs
          obtain ⟨e2, a2, w2, q2, har⟩ := k2 bb kk cs
          exact ⟨e2, a2, w2, PostK.at F' q2, har⟩
        | _ => exact ⟨s2, N2, hk, r', S', F'⟩
      exact ⟨Lp.loop key, fun b' q => by cases q; exact key⟩
    | region id ops d =>
      refine other (fun _ q => by cases q) ?_
      cases d with
      | true => exact drawK_sound hz hmix (callK_sound hz _ (execK_th hz n) fun c s q n hq hr r a w S => (ih c s q n hq hr r a w S).1) (callK_th hz (execK_th hz n)) id (q := fun s1 => q .normal s1) (fun s1 N h => hq _ _ _ h) h' S fun s1 n' r' a' w' hq S' F' => ⟨s1, n', hq, r', S', F'⟩
      | false =>
        refine wp_region ?_
        have e1 : List.range ops.size = List.range' 0 ops.toList.length := by simp [List.range_eq_range']
        rw [e1, wpOps_eq_wpList ops.toList 0 (fun j => by simp)]
        exact opsK_sound hz (callK_sound hz _ (execK_th hz n) fun c s q n hq hr r a w S => (ih c s q n hq hr r a w S).1) (callK_th hz (execK_th hz n)) ops (fun s1 => q .normal s1) (fun s1 N h => hq _ _ _ h) (fun s1 n' r' a' w' hq S' F' => ⟨s1, n', hq, r', S', F'⟩) ops.toList s r a w N S (.refl S.h) h'
    | _ => exact h'.elim
end
end Go.Proofs.YtekhnmfmdkfidaaGreat.EX
/- Zero values of made types bear no blocks. -/
namespace Go.Proofs.YtekhnmfmdkfidaaGreat.EX
open Go
/-- Each cell without blocks. -/
def GZ (v : Value) : Prop := ∀ x ∈ v.cells.toList, closed 63 x = true
theorem closed_mono : ∀ (n : Nat) (v : Value), closed n v = true → closed (n + 1) v = true := by
  intro n
  induction n with
  | zero => intro v h; cases h
  | succ n ih =>
    intro v h
    cases v with
    | func f a b =>
      simp only [closed, Bool.and_eq_true, List.all_eq_true] at h ⊢
      exact ⟨fun x hx => ih x (h.1 x hx), fun x hx => ih x (h.2 x hx)⟩
    | iface t x => exact ih x h
    | agg cs =>
      simp only [closed, List.all_eq_true] at h ⊢
      exact fun x hx => ih x (h x hx)
    | tuple cs =>
      simp only [closed, List.all_eq_true] at h ⊢
      exact fun x hx => ih x (h x hx)
    | pointer a => cases a <;> first | rfl | cases h
    | slice a _ _ => cases a <;> first | rfl | cases h
    | map a => cases a <;> first | rfl | cases h
    | chan a => cases a <;> first | rfl | cases h
    | _ => first | rfl | cases h
theorem GZ.closed {v : Value} (h : GZ v) : closed 64 v = true := by
  cases v with
  | agg cs =>
    simp only [EX.closed, List.all_eq_true]
    exact h
  | _ => exact closed_mono 63 _ (h _ (by simp [Value.cells]))
theorem forIn_keeps {α β : Type} (f : α → β → Option (ForInStep β)) (I : β → Prop) (h : ∀ a b r, I b → f a b = some r → I (match r with | .yield b' => b' | .done b' => b')) : ∀ (l : List α) (b : β), I b → ∀ r, forIn l b f = some r → I r
  | [], b, hb, r, e => by cases e; exact hb
  | a :: l, b, hb, r, e => by
    rw [List.forIn_cons] at e
    cases hf : f a b with
    | none => rw [hf] at e; cases e
    | some x =>
      rw [hf] at e
      have hx := h a b x hb hf
      cases x with
      | yield b' => exact forIn_keeps f I h l b' hx r e
      | done b' => cases e; exact hx
theorem reckon_zero {info : TypeId → Option TypeInfo} (hi : ∀ t i v, info t = some i → i.zero = some v → GZ v) {d : TypeDesc} {i : TypeInfo} {v : Value} (h : Made.reckon info d = some i) (hz : i.zero = some v) : GZ v := by
  have one : ∀ v : Value, v.cells = #[v] → EX.closed 63 v = true → GZ v := fun v h1 h2 x hx => by
    rw [h1] at hx
    simp at hx
    rw [hx]
    exact h2
  cases d with
  | pointer e =>
    simp only [Made.reckon] at h
    obtain ⟨j, hj, h⟩ := Option.bind_eq_some_iff.1 h
    split at h
    · cases h
    · split at h
      · cases h
      · obtain ⟨s, hs, h⟩ := Option.bind_eq_some_iff.1 h
        cases h; cases hz
        exact one _ rfl rfl
    · obtain ⟨s, hs, h⟩ := Option.bind_eq_some_iff.1 h
      cases h; cases hz
      exact one _ rfl rfl
  | slice e =>
    simp only [Made.reckon] at h
    obtain ⟨j, hj, h⟩ := Option.bind_eq_some_iff.1 h
    obtain ⟨s, hs, h⟩ := Option.bind_eq_some_iff.1 h
    cases h; cases hz
    exact one _ rfl rfl
  | map k e =>
    simp only [Made.reckon] at h
    obtain ⟨j, hj, h⟩ := Option.bind_eq_some_iff.1 h
    obtain ⟨s, hs, h⟩ := Option.bind_eq_some_iff.1 h
    obtain ⟨j2, hj2, h⟩ := Option.bind_eq_some_iff.1 h
    obtain ⟨s2, hs2, h⟩ := Option.bind_eq_some_iff.1 h
    cases h; cases hz
    exact one _ rfl rfl
  | chan dir e =>
    simp only [Made.reckon] at h
    obtain ⟨j, hj, h⟩ := Option.bind_eq_some_iff.1 h
    obtain ⟨s, hs, h⟩ := Option.bind_eq_some_iff.1 h
    cases h; cases hz
    exact one _ rfl rfl
  | func ps rs va =>
    simp only [Made.reckon] at h
    obtain ⟨s, hs, h⟩ := Option.bind_eq_some_iff.1 h
    cases h; cases hz
    exact one _ rfl rfl
  | array n e =>
    simp only [Made.reckon] at h
    obtain ⟨j, hj, h⟩ := Option.bind_eq_some_iff.1 h
    obtain ⟨s, hs, h⟩ := Option.bind_eq_some_iff.1 h
    cases h
    dsimp only at hz
    split at hz
    · cases hz
    · split at hz
      · cases hz
        intro x hx
        simp [Value.cells] at hx
      · cases hj2 : j.zero with
        | none => rw [hj2] at hz; cases hz
        | some z =>
          rw [hj2] at hz
          cases hz
          intro x hx
          have hx : x ∈ ((Array.replicate n z.cells).flatten).toList := hx
          generalize hc : z.cells = c at hx
          simp at hx
          obtain ⟨_, ⟨_, rfl⟩, hx⟩ := hx
          exact hi _ _ _ hj hj2 x (by rw [hc]; exact hx)
  | struct fs =>
    simp only [Made.reckon] at h
    unfold Made.reckonStruct at h
    obtain ⟨p, hp, h⟩ := Option.bind_eq_some_iff.1 h
    have fin : ∀ arr, p.2.2.2.2.2.2.2.1 = some arr → ∀ x ∈ arr.toList, EX.closed 63 x = true := by
      rw [← Array.forIn_toList] at hp
      refine forIn_keeps _ (fun s => ∀ arr, s.2.2.2.2.2.2.2.1 = some arr → ∀ x ∈ arr.toList, EX.closed 63 x = true) (fun a b r hb hf => ?_) fs.toList _ (fun arr ha x hx => ?_) p hp
      · obtain ⟨j, hj, hf⟩ := Option.bind_eq_some_iff.1 hf
        dsimp only at hf
        have key : ∀ z : Option (Array Value), (z = if b.2.1 + j.size > Made.mostCells then none else (b.2.2.2.2.2.2.2.1.bind fun u => j.zero.bind fun t => some (u ++ t.cells))) → ∀ arr, z = some arr → ∀ x ∈ arr.toList, EX.closed 63 x = true := fun z e arr ha x hx => by
          rw [ha] at e
          split at e
          · cases e
          · obtain ⟨u, hu, e⟩ := Option.bind_eq_some_iff.1 e.symm
            obtain ⟨t, ht, e⟩ := Option.bind_eq_some_iff.1 e
            cases e
            rw [Array.toList_append, List.mem_append] at hx
            rcases hx with hx | hx
            · exact hb u hu x hx
            · exact hi _ _ _ hj ht x hx
        split at hf
        · cases hf
        · split at hf
          · cases hf
          · split at hf
            · obtain ⟨tag, htag, hf⟩ := Option.bind_eq_some_iff.1 hf
              split at hf <;> (cases hf; exact key _ rfl)
            · obtain ⟨tag, htag, hf⟩ := Option.bind_eq_some_iff.1 hf
              split at hf <;> (cases hf; exact key _ rfl)
      · cases ha
        simp at hx
    dsimp only at h
    have hv : ∀ z : Option (Array Value), z = p.2.2.2.2.2.2.2.1 → (z.map Value.agg) = some v → GZ v := fun z e k => by
      cases z with
      | none => cases k
      | some arr => cases k; exact fun x hx => fin arr e.symm x hx
    split at h <;> (cases h; exact hv _ rfl hz)
  | _ => cases h
theorem made_zero {T : Tables} (hT : ∀ (t : Nat) i v, T.types[t]? = some i → i.zero = some v → GZ v) : ∀ (f : Nat) (t : TypeId) (i : TypeInfo) (v : Value), Made.infoAt T f t = some i → i.zero = some v → GZ v
  | 0, _, _, _, h, _ => by cases h
  | f + 1, t, i, v, h, hz => by
    unfold Made.infoAt at h
    split at h
    · exact hT t i v h hz
    · obtain ⟨d, _, h⟩ := Option.bind_eq_some_iff.1 h
      exact reckon_zero (made_zero hT f) h hz
theorem zeros_of {T : Tables} (hT : ∀ (t : Nat) i v, T.types[t]? = some i → i.zero = some v → GZ v) {t : TypeId} {i : TypeInfo} {v : Value} (h : T.info? t = some i) (hz : i.zero = some v) : EX.closed 64 v = true := by
  unfold Tables.info? at h
  split at h
  · exact (hT t i v h hz).closed
  · exact (made_zero hT _ t i v h hz).closed
end Go.Proofs.YtekhnmfmdkfidaaGreat.EX
