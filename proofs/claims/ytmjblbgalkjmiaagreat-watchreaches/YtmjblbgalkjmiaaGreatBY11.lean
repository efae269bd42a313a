/- Regions in whatever order: the whole. -/
import Derived.Test.YtmjblbgalkjmiaaGreatBY10
namespace Go.Proofs.YtmjblbgalkjmiaaGreat.EX
open Go
section
variable {P : Program} {p : Plan} {ops : Array Oper} {n0 k : Nat} {r0 : Env} {h0 : Hp} {w0 : World} {L : Nat → Bool} {s : St} {al : T Obj} {r : Env} {a : Act} {w : World}
theorem kindC_lt (o : Oper) : kindC o < 3 := by
  unfold kindC
  repeat' split
  all_goals omega
theorem settled (D : DrOK p ops) {s' : St} {al' : T Obj} (C : Chg (p.floats ops.toList k) s s' al al') (hL : ∀ x ∈ p.floats ops.toList k, x.1 = true → L x.2.1 = false) (R : DRel p ops n0 k r0 h0 w0 L s al r a w) (I : DI p ops n0 k s al) :
    DRel p ops n0 k r0 h0 w0 L s' al' r a w ∧ DI p ops n0 k s' al' := by
  refine ⟨⟨by rw [C.ds]; exact R.defers, R.size.trans C.nt.symm, fun t => ?_, ?_, fun b c h => by rw [C.h]; exact R.lt b c h, fun b c h ho1 => by rw [C.h]; exact R.odd b c h ho1, R.rsv, by rw [C.h]; exact R.fr⟩, ⟨by rw [C.h]; exact I.nm, by rw [C.h]; exact I.lt, by rw [C.h]; exact I.rs, fun c hc => ?_⟩⟩
  · by_cases e : ∃ x ∈ p.floats ops.toList k, x.1 = true ∧ x.2.2.dst = some t
    · obtain ⟨x, h1, h2, h3⟩ := e
      exact .inl ⟨x.2.1, x.2.2, (floats_fl p ops k x h1).at_, hL x h1 h2, h3⟩
    · rw [C.tm t fun x hx hb hd => e ⟨x, hx, hb, hd⟩]
      exact R.slots t
  · have e : Kf n0 ops.size (p.mm k) L al' s'.h.t = Kf n0 ops.size (p.mm k) L al s.h.t := by
      funext b
      rw [C.h]
      unfold Kf
      by_cases q : L (b / 2 - n0) = true
      · rw [C.al (b / 2 - n0) fun x hx hb hd => by
          have := hL x hx hb
          rw [hd, q] at this
          cases this]
      · have q' : L (b / 2 - n0) = false := by simpa using q
        rw [q']
        simp
    rw [e]
    exact R.kr
  · rw [C.al c fun x hx _ hd => ?_]
    · exact I.al c hc
    · have f := floats_fl p ops k x hx
      exact f.kind ((D.kind c x.2.2 (by rw [← hd]; exact f.at_)).2 hc)
theorem getD_set' {listed : Array Bool} {i : Nat} (hi : i < listed.size) (j : Nat) : (listed.setIfInBounds i true).getD j false = (j == i || listed.getD j false) := by
  by_cases e : j = i
  · subst e
    simp [Array.getD, hi]
  · have h1 : (j == i) = false := by simpa using e
    rw [h1, Bool.false_or]
    simp only [Array.getD_eq_getD_getElem?]
    rw [Array.getElem?_setIfInBounds_ne (Ne.symm e)]
theorem closed_mask (D : DrOK p ops) (hcl : ∀ (i : Nat) (o : Oper), ops[i]? = some o → L i = true → ∀ e ∈ edg o, L e = true) : ∀ (n i : Nat) (o : Oper), i ≤ n → ops[i]? = some o → (∀ e ∈ edg o, L e = true) → ∀ j, bt (p.mask i) j = true → L j = true := by
  intro n
  induction n with
  | zero =>
    intro i o hi ho _ j hj
    have := D.mask_lt i i o (Nat.le_refl _) ho j hj
    omega
  | succ n ih =>
    intro i o hi ho he j hj
    obtain ⟨e, h1, h2⟩ := (D.mask_iff ho j).1 hj
    rcases h2 with h2 | h2
    · have hlt := D.back i o ho e h1
      obtain ⟨oe, hoe⟩ := at_lt (ops := ops) (i := e) (by have := lt_at ho; omega)
      exact ih e oe (by omega) hoe (hcl e oe hoe (he e h1)) j h2
    · subst h2; exact he _ h1
theorem chain_at (D : DrOK p ops) {i : Nat} (hi : i ∈ p.ch) (hL : L i = false) (hm : ∀ j, bt (p.mask i) j = true → L j = true) (h1 : ∀ c ∈ p.ch.take k, L c = true) (h2 : ∀ c ∈ p.ch.drop k, L c = false) : k < p.ch.length ∧ p.ch.getD k 0 = i := by
  obtain ⟨j, hj, he⟩ := List.getElem_of_mem hi
  have hjk : k ≤ j := by
    apply Classical.byContradiction
    intro h
    have := h1 i (by rw [← he, List.mem_take_iff_getElem]; exact ⟨j, by omega, rfl⟩)
    rw [hL] at this
    cases this
  have hjk2 : j = k := by
    apply Classical.byContradiction
    intro h
    obtain ⟨j', rfl⟩ : ∃ j', j = j' + 1 := ⟨j - 1, by omega⟩
    have hc := D.chain j' hj
    have e1 : p.ch.getD (j' + 1) 0 = i := by rw [List.getD_eq_getElem?_getD, List.getElem?_eq_getElem hj]; exact he
    rw [e1] at hc
    have h3 := hm _ hc
    have h4 : p.ch.getD j' 0 ∈ p.ch.drop k := by
      rw [List.getD_eq_getElem?_getD, List.getElem?_eq_getElem (by omega : j' < p.ch.length)]
      rw [List.mem_drop_iff_getElem]
      exact ⟨j' - k, by omega, by simp [show k + (j' - k) = j' by omega]⟩
    rw [h2 _ h4] at h3
    cases h3
  subst hjk2
  exact ⟨hj, by rw [List.getD_eq_getElem?_getD, List.getElem?_eq_getElem hj]; exact he⟩
theorem draw_main (hz : Zc P) {call : FuncId → Array Value → Hp → (Value → Hp → An) → An} (hc : CallK P call) (hct : CallTh call) (D : DrOK p ops) (hn : h0.n = n0) {Q : Exit → Act → World → Prop} {q : St → An} (hth : Th1 q)
    (hQ : ∀ s1 N' r' a' w', q s1 N' → SL r' s1 a' w' → Fr r0 r' h0 s1.h w0 w' → Q .normal a' w') :
    ∀ (fuel : Nat) (listed : Array Bool) (k : Nat) (s : St) (al : T Obj) (r : Env) (a : Act) (w : World) (N : Prop), listed.size = ops.size →
      (∀ (i : Nat) (o : Oper), ops[i]? = some o → listed.getD i false = true → ∀ e ∈ edg o, listed.getD e false = true) → listed.toList.count false = fuel →
      (∀ c ∈ p.ch.take k, listed.getD c false = true) → (∀ c ∈ p.ch.drop k, listed.getD c false = false) → k ≤ p.ch.length →
      DRel p ops n0 k r0 h0 w0 (fun j => listed.getD j false) s al r a w → DI p ops n0 k s al →
      (∀ (i : Nat) (o : Oper), ops[i]? = some o → kindC o ≠ 2 → p.due k i = true → PreOK P n0 ops.toList s al i o ∧ ReadOK P n0 ops.size ops.toList p k s al i o) →
      restK P call n0 ops.size ops.toList p (List.range' k (p.ch.length - k)) s al q N → wpAny P .any ops Q fuel listed a w := by
  intro fuel
  have final : ∀ (listed : Array Bool) (k : Nat) (s : St) (al : T Obj) (r : Env) (a : Act) (w : World) (N : Prop), (∀ i, i < ops.size → listed.getD i false = true) → (∀ c ∈ p.ch.drop k, listed.getD c false = false) → k ≤ p.ch.length →
      DRel p ops n0 k r0 h0 w0 (fun j => listed.getD j false) s al r a w → DI p ops n0 k s al → restK P call n0 ops.size ops.toList p (List.range' k (p.ch.length - k)) s al q N → Q .normal a w := by
    intro listed k s al r a w N hall hdrop hk R I h
    have hkk : k = p.ch.length := by
      apply Classical.byContradiction
      intro hne
      have hlt : k < p.ch.length := by omega
      have hmem : p.ch.getD k 0 ∈ p.ch.drop k := by
        rw [List.getD_eq_getElem?_getD, List.getElem?_eq_getElem hlt, List.mem_drop_iff_getElem]
        exact ⟨0, by omega, by simp⟩
      have h1 := hdrop _ hmem
      rw [hall _ (D.lt _ (List.mem_of_mem_drop hmem))] at h1
      cases h1
    subst hkk
    rw [Nat.sub_self] at h
    have h' : heapK n0 al (p.left ops.size p.ch.length) s.h.t (fun X => q ⟨s.tm, s.nt, s.ds, ⟨X, s.h.n⟩⟩) N := h
    rw [heapK_eq] at h'
    have hleft : ∀ j ∈ p.left ops.size p.ch.length, j < ops.size ∧ listed.getD j false = true ∧ bt (p.mm p.ch.length) j = false := fun j hj => by
      unfold Plan.left at hj
      obtain ⟨h1, h2⟩ := List.mem_filter.1 hj
      have := List.mem_range.1 h1
      exact ⟨this, hall j this, by simpa using h2⟩
    refine hQ _ N r a w h' ⟨R.defers, R.size, fun t => ?_, R.kr.sub ⟨heapF n0 al (p.left ops.size p.ch.length) s.h.t, s.h.n⟩ (heapF_sub hleft I.rs) R.lt (R.oddN I), part_tidy I fun j hj => (hleft j hj).1⟩ (fr_part R.fr hn)
    rcases R.slots t with ⟨i, o, h1, h2, _⟩ | h1
    · rw [hall i (lt_at h1)] at h2
      cases h2
    · exact h1
  have rdy : ∀ (listed : Array Bool), listed.size = ops.size → Region.ready .any ops listed = [] → ∀ i, i < ops.size → listed.getD i false = true := by
    intro listed hs hr
    have key : ∀ n i, i ≤ n → i < ops.size → listed.getD i false = true := by
      intro n
      induction n with
      | zero =>
        intro i hi hlt
        cases e : listed.getD i false with
        | true => rfl
        | false =>
          obtain ⟨o, ho⟩ := at_lt hlt
          have : i ∈ Region.ready .any ops listed := ready_iff.2 ⟨by rw [Array.getD_eq_getD_getElem?] at e ⊢; rw [Array.getElem?_eq_getElem (by omega)] at e ⊢; exact e, o, ho, fun e he => by have := D.back i o ho e he; omega⟩
          rw [hr] at this
          cases this
      | succ n ih =>
        intro i hi hlt
        cases e : listed.getD i false with
        | true => rfl
        | false =>
          obtain ⟨o, ho⟩ := at_lt hlt
          have : i ∈ Region.ready .any ops listed := ready_iff.2 ⟨by rw [Array.getD_eq_getD_getElem?] at e ⊢; rw [Array.getElem?_eq_getElem (by omega)] at e ⊢; exact e, o, ho, fun e he => by have := D.back i o ho e he; exact ih e (by omega) (by omega)⟩
          rw [hr] at this
          cases this
    exact fun i hi => key i i (Nat.le_refl _) hi
  induction fuel with
  | zero =>
    intro listed k s al r a w N hs hcl hcnt htk hdr hk R I Rd h
    have hall : ∀ i, i < ops.size → listed.getD i false = true := fun i hi => by
      rw [List.count_eq_zero] at hcnt
      cases e : listed.getD i false with
      | true => rfl
      | false =>
        exfalso
        apply hcnt
        rw [Array.getD_eq_getD_getElem?, Array.getElem?_eq_getElem (by omega)] at e
        simp only [Option.getD_some] at e
        rw [← e]
        simp
    refine ⟨?_, final listed k s al r a w N hall hdr hk R I h⟩
    apply List.eq_nil_iff_forall_not_mem.2
    intro i hi
    obtain ⟨h1, o, ho, _⟩ := ready_iff.1 hi
    have := hall i (lt_at ho)
    have hlt := lt_at ho
    rw [Array.getD_eq_getD_getElem?, Array.getElem?_eq_getElem (by omega)] at h1 this
    rw [Option.getD_some] at h1 this
    rw [h1] at this
    cases this
  | succ fuel ih =>
    intro listed k s al r a w N hs hcl hcnt htk hdr hk R I Rd h
    refine ⟨fun hr => final listed k s al r a w N (rdy listed hs hr) hdr hk R I h, fun i hi => ?_⟩
    obtain ⟨hun, o, ho, hed⟩ := ready_iff.1 hi
    have hlt := lt_at ho
    have hun' : listed.getD i false = false := by
      rw [Array.getD_eq_getD_getElem?, Array.getElem?_eq_getElem (by omega)] at hun ⊢
      exact hun
    have hm := closed_mask D (L := fun j => listed.getD j false) hcl i i o (Nat.le_refl _) ho hed
    have hset := getD_set' (listed := listed) (i := i) (by omega)
    have eL : (fun j => (listed.setIfInBounds i true).getD j false) = upd (fun j => listed.getD j false) i := by
      funext j
      rw [hset j]
      rfl
    have hsz : (listed.setIfInBounds i true).size = ops.size := by simpa using hs
    have hcl' : ∀ (j : Nat) (oj : Oper), ops[j]? = some oj → (listed.setIfInBounds i true).getD j false = true → ∀ e ∈ edg oj, (listed.setIfInBounds i true).getD e false = true := by
      intro j oj hoj hj e he
      rw [hset] at hj ⊢
      by_cases q : j = i
      · subst q
        rw [ho] at hoj
        cases hoj
        rw [hed e he, Bool.or_true]
      · have q1 : (j == i) = false := by simpa using q
        rw [q1, Bool.false_or] at hj
        rw [hcl j oj hoj hj e he, Bool.or_true]
    have hcnt' : (listed.setIfInBounds i true).toList.count false = fuel := by
      rw [Array.toList_setIfInBounds, List.count_set (by simpa using (by omega : i < listed.size))]
      have : listed.toList[i]'(by simpa using (by omega : i < listed.size)) = false := by
        rw [Array.getD_eq_getD_getElem?, Array.getElem?_eq_getElem (by omega)] at hun'
        simpa using hun'
      rw [this, hcnt]
      simp
    unfold wpOp
    rw [ho]
    dsimp only
    have goal : (if Region.wanted o (yielded ops a.tmps) = true then o.wp P a w (wpAny P .any ops Q fuel (listed.setIfInBounds i true)) Q else wpAny P .any ops Q fuel (listed.setIfInBounds i true) (a.put o.dst undef) w) → (if Region.wanted o (yielded ops a.tmps) = true then o.wp P a w (wpAny P .any ops Q fuel (listed.setIfInBounds i true)) Q ∨ o.asks P a w ∧ LetsOut Q else wpAny P .any ops Q fuel (listed.setIfInBounds i true) (a.put o.dst undef) w) := fun g => by
      split
      · rename_i e; rw [if_pos e] at g; exact .inl g
      · rename_i e; rw [if_neg e] at g; exact g
    apply goal
    by_cases hkd : kindC o = 2
    · -- an operation of the chain
      have hich := (D.kind i o ho).1 hkd
      obtain ⟨hkl, hki⟩ := chain_at D hich hun' hm htk hdr
      have er : List.range' k (p.ch.length - k) = k :: List.range' (k + 1) (p.ch.length - (k + 1)) := by
        rw [show p.ch.length - k = (p.ch.length - (k + 1)) + 1 by omega, List.range'_succ]
      rw [er] at h
      have h' : chK P call n0 ops.size ops.toList p k s al (fun s1 => settleK P n0 ops.size ops.toList p (k + 1) (p.floats ops.toList (k + 1)) s1 al fun s2 al2 => restK P call n0 ops.size ops.toList p (List.range' (k + 1) (p.ch.length - (k + 1))) s2 al2 q) N := h
      have ho' : ops[p.ch.getD k 0]? = some o := by rw [hki]; exact ho
      refine chain_step hz hc D hn R I hkl ho' (by rw [hki]; exact hm) (fun s1 N h => settleK_th (fun s2 al2 N h => restK_th hz hct hth _ s2 al2 N h) _ _ _ _ h) h' fun s1 N' r' a' w' hq R' I' hnt htm => ?_
      have hch : i ∈ p.ch.drop k := by
        rw [← hki, List.getD_eq_getElem?_getD, List.getElem?_eq_getElem hkl, List.mem_drop_iff_getElem]
        exact ⟨0, by omega, by simp⟩
      obtain ⟨s', al', g1, g2, g3⟩ := settle_ok D (p.floats ops.toList (k + 1)) [] rfl s1 al (fun x hx => by cases hx) (fun x hx hb => by
        have f := floats_fl p ops (k + 1) x hx
        have f1 := f.new
        rw [hb] at f1
        have hdue : p.due k x.2.1 = true := by simpa [Plan.isNew] using f1.symm
        obtain ⟨v, ob, q1, q2, q3⟩ := (Rd x.2.1 x.2.2 f.at_ f.kind hdue).1
        have hnl : ∀ t ∈ x.2.2.looksAt ops, o.dst ≠ some t := fun t ht e => by
          have h1 := D.edge_mask f.at_ (D.looks x.2.1 x.2.2 i o t f.at_ ho e ht)
          have h2 := ((due_iff p k x.2.1).1 hdue).1 i hch
          rw [h1] at h2
          cases h2
        have hsm : Same ops.toList x.2.2 s s1 := ⟨hnt, fun t ht => htm t (hnl t (by simpa using ht))⟩
        refine ⟨v, ob, q1.same hsm, fun d hd => ?_, q3⟩
        have hne : o.dst ≠ some d := fun e => by
          have := D.dst x.2.1 x.2.2 i o d f.at_ ho e hd
          have f2 := f.at_
          rw [this, ho] at f2
          cases f2
          exact f.kind hkd
        rw [htm d hne, hnt]
        exact q2 d hd) hq
      have hnewL : ∀ x ∈ p.floats ops.toList (k + 1), x.1 = true → upd (fun j => listed.getD j false) (p.ch.getD k 0) x.2.1 = false := by
        intro x hx hb
        have f := floats_fl p ops (k + 1) x hx
        have f1 := f.new
        rw [hb] at f1
        have hdue : p.due k x.2.1 = false := by simpa [Plan.isNew] using f1.symm
        have hxi : x.2.1 ≠ p.ch.getD k 0 := fun e => by
          rw [hki] at e
          have f2 := f.at_
          rw [e, ho] at f2
          have : x.2.2 = o := by cases f2; rfl
          exact f.kind (by rw [this]; exact hkd)
        rw [upd_ne hxi]
        cases e : listed.getD x.2.1 false with
        | false => rfl
        | true =>
          exfalso
          have hmx := closed_mask D (L := fun j => listed.getD j false) hcl x.2.1 x.2.1 x.2.2 (Nat.le_refl _) f.at_ (hcl _ _ f.at_ e)
          have : p.due k x.2.1 = true := by
            rw [due_iff]
            refine ⟨fun c hcc => ?_, fun c hcc => ((due_iff p (k + 1) x.2.1).1 f.due).2 c ((List.take_subset_take_left p.ch (Nat.le_succ k)) hcc)⟩
            cases e2 : bt (p.mask x.2.1) c with
            | false => rfl
            | true =>
              have := hmx c e2
              rw [hdr c hcc] at this
              cases this
          rw [hdue] at this
          cases this
      obtain ⟨R2, I2⟩ := settled D g3 hnewL R' I'
      rw [hki] at R2
      rw [← eL] at R2
      refine ih (listed.setIfInBounds i true) (k + 1) s' al' r' a' w' N' hsz hcl' hcnt' (fun c hcc => ?_) (fun c hcc => ?_) (by omega) R2 I2 (fun j oj hoj hkj hdj => g1 _ (fl_floats (k + 1) hoj hkj hdj)) g2
      · rw [hset]
        rw [List.take_add_one] at hcc
        rcases List.mem_append.1 hcc with hcc | hcc
        · rw [htk c hcc, Bool.or_true]
        · rw [List.getElem?_eq_getElem hkl] at hcc
          simp at hcc
          have : c = i := by rw [hcc, ← hki, List.getD_eq_getElem?_getD, List.getElem?_eq_getElem hkl]; rfl
          rw [this]
          simp
      · rw [hset]
        have hcd : c ∈ p.ch.drop k := by
          rw [← List.drop_drop] at hcc
          exact List.mem_of_mem_drop hcc
        rw [hdr c hcd, Bool.or_false]
        cases e : c == i with
        | false => rfl
        | true =>
          exfalso
          have e' : c = i := by simpa using e
          -- an operation stands in the chain once
          obtain ⟨j, hj, hje⟩ := List.getElem_of_mem hcc
          have hj' : k + 1 + j < p.ch.length := by simpa using hj |> fun h => by simp at h; omega
          have h1 : p.ch.getD (k + 1 + j) 0 = c := by
            rw [List.getD_eq_getElem?_getD, List.getElem?_eq_getElem hj']
            rw [← hje]
            simp
          -- masks of the chain grow
          have grow : ∀ d, k + 1 + d < p.ch.length → bt (p.mask (p.ch.getD (k + 1 + d) 0)) (p.ch.getD k 0) = true := by
            intro d
            induction d with
            | zero => intro hd; exact D.chain k hd
            | succ d ihd =>
              intro hd
              have h2 := D.chain (k + 1 + d) (by omega)
              obtain ⟨od, hod⟩ := at_lt (D.lt _ (getD_mem (l := p.ch) (k := k + 1 + d + 1) (by omega)))
              exact D.mask_trans _ _ od (Nat.le_refl _) hod _ _ h2 (ihd (by omega))
          have h3 := grow j hj'
          rw [h1, hki, e'] at h3
          have := D.mask_lt i i o (Nat.le_refl _) ho i h3
          omega
    · -- a floating operation
      have hdue : p.due k i = true := by
        rw [due_iff]
        refine ⟨fun c hcc => ?_, fun c hcc => ?_⟩
        · cases e : bt (p.mask i) c with
          | false => rfl
          | true =>
            have := hm c e
            rw [hdr c hcc] at this
            cases this
        · cases e : bt (p.mask c) i with
          | false => rfl
          | true =>
            exfalso
            obtain ⟨oc, hoc⟩ := at_lt (D.lt c (List.mem_of_mem_take hcc))
            have := closed_mask D (L := fun j => listed.getD j false) hcl c c oc (Nat.le_refl _) hoc (hcl c oc hoc (htk c hcc)) i e
            rw [hun'] at this
            cases this
      have hmm : bt (p.mm k) i = false := by
        cases k with
        | zero => exact bt_zero i
        | succ k =>
          refine ((due_iff p (k + 1) i).1 hdue).2 _ ?_
          have hkl : k < p.ch.length := by omega
          rw [List.getD_eq_getElem?_getD, List.getElem?_eq_getElem hkl, List.mem_take_iff_getElem]
          exact ⟨k, by omega, rfl⟩
      have hne : ∀ c ∈ p.ch, c ≠ i := fun c hcc e => hkd ((D.kind i o ho).2 (e ▸ hcc))
      obtain ⟨hp, hr⟩ := Rd i o ho hkd hdue
      refine float_step hz D hn R I ho hun' hm hmm hkd (kindC_lt o) hp hr fun r' a' w' R' => ?_
      rw [← eL] at R'
      refine ih (listed.setIfInBounds i true) k s al r' a' w' N hsz hcl' hcnt' (fun c hcc => ?_) (fun c hcc => ?_) hk R' I Rd h
      · rw [hset, htk c hcc, Bool.or_true]
      · rw [hset, hdr c hcc, Bool.or_false]
        simpa using hne c (List.mem_of_mem_drop hcc)
/-- A region in whatever order. -/
theorem drawK_sound (hz : Zc P) (hmix : P.follows .mixedOrders = true) {call : FuncId → Array Value → Hp → (Value → Hp → An) → An} (hc : CallK P call) (hct : CallTh call) (id : Nat) {s : St} {q : St → An} (hth : Th1 q) {N : Prop} (h : drawK P call ops s q N) {r : Env} {a : Act} {w : World} (S : SL r s a w) {Q : Exit → Act → World → Prop}
    (hQ : ∀ s1 N' r' a' w', q s1 N' → SL r' s1 a' w' → Fr r r' s.h s1.h w w' → Q .normal a' w') : (Code.region id ops true).wp P Q a w := by
  unfold drawK at h
  cases hd : drOK (planOf ops.toList) ops with
  | false => rw [hd] at h; exact h.elim
  | true =>
    rw [hd] at h
    dsimp only [cond] at h
    rw [getH_eq, fN_eq, fN_eq, withH_eq] at h
    have D := drOK_ok hd
    refine wp_region_any hmix ?_
    have R0 : DRel (planOf ops.toList) ops s.h.n 0 r s.h w (fun _ => false) ⟨s.tm, s.nt, s.ds, ⟨s.h.t, Nat.add s.h.n ops.size⟩⟩ .leaf r a { w with drawn := w.drawn + 1 } := by
      have e : Kf s.h.n ops.size ((planOf ops.toList).mm 0) (fun _ => false) .leaf s.h.t = fun b => s.h.t.get b := by
        funext b
        unfold Kf
        simp
      refine ⟨S.defers, S.size, fun t => .inr (S.tm t), ?_, fun b c hb => ?_, fun b c hb ho1 => .inl (S.h.odd b c hb ho1), fun j c hj hr => ?_, ⟨Le.refl r, fun b c hb => S.h.lt b c hb, Nat.le_refl _, Nat.le_add_right _ _, fun _ _ h _ => .inl h, fun _ _ h => h, fun _ _ _ => rfl, rfl, rfl, rfl⟩⟩
      · rw [e]
        exact ⟨S.h.live, S.h.fn, S.h.inj, S.h.caps⟩
      · have := S.h.lt b c hb
        show b < 2 * (s.h.n + ops.size)
        omega
      · have := S.h.lt _ c hr
        omega
    have live : ∀ b, (s.h.t.get b).isSome → b < 2 * s.h.n := fun b hb => by
      obtain ⟨o, ho⟩ := Option.isSome_iff_exists.1 hb
      obtain ⟨c, _, hr, _⟩ := S.h.live b o ho
      exact S.h.lt b c hr
    have I0 : DI (planOf ops.toList) ops s.h.n 0 ⟨s.tm, s.nt, s.ds, ⟨s.h.t, Nat.add s.h.n ops.size⟩⟩ .leaf := ⟨Nat.le_refl _, fun b hb => by
        have := live b hb
        show b < 2 * (s.h.n + ops.size)
        omega, fun j hj hb => by have := live _ hb; omega, fun c _ => rfl⟩
    obtain ⟨s', al', g1, g2, g3⟩ := settle_ok D ((planOf ops.toList).floats ops.toList 0) [] rfl _ _ (fun x hx => by cases hx) (fun x hx hb => by
      have f := (floats_fl (planOf ops.toList) ops 0 x hx).new
      rw [hb] at f
      cases f) h
    obtain ⟨R2, I2⟩ := settled D g3 (fun _ _ _ => rfl) R0 I0
    have eL : (fun j => (Array.replicate ops.size false).getD j false) = fun _ => false := by
      funext j
      rw [Array.getD_eq_getD_getElem?]
      simp [Array.getElem?_replicate]
      split <;> rfl
    have er : List.range (planOf ops.toList).ch.length = List.range' 0 ((planOf ops.toList).ch.length - 0) := by rw [List.range_eq_range', Nat.sub_zero]
    rw [er] at g2
    have hf : ∀ j, (Array.replicate ops.size false).getD j false = false := fun j => congrFun eL j
    refine draw_main hz hc hct D rfl hth hQ ops.size (Array.replicate ops.size false) 0 s' al' r a _ N (by simp) (fun i o ho hl => by rw [hf i] at hl; cases hl) (by simp) (fun c hcc => by simp at hcc) (fun c _ => hf c) (Nat.zero_le _) (by rw [eL]; exact R2) I2 (fun i o ho hk hdu => g1 _ (fl_floats 0 ho hk hdu)) g2
end
end Go.Proofs.YtmjblbgalkjmiaaGreat.EX
/- Calls whose answers are known; heaps laid over one another. -/
namespace Go.Proofs.YtmjblbgalkjmiaaGreat.EX
open Go
section
variable {P : Program}
/-- A call that answers: what holds of the memory behind it. -/
def Ret (P : Program) (f : FuncId) (args' : Array Value) (r : Env) (w : World) (h : Hp) (v : Value) (h2 : Hp) : Prop :=
  Calls P f args' w fun e w' => ∃ r' v', e = .returned v' ∧ VR r' v v' ∧ HR r' h2 w' ∧ Tidy h2 ∧ Fr r r' h h2 w w'
/-- What is known of a call; or what else goes on. -/
abbrev CallM := FuncId → Array Value → Hp → (Value → Hp → An) → An → An
def MemoOK (P : Program) (M : CallM) : Prop := ∀ f args h q d n, M f args h q d n → d n ∨ ∃ v h2, q v h2 n ∧ ∀ r w args', HR r h w → Tidy h → AVs r args args' → Ret P f args' r w h v h2
def knownK (M : CallM) (call : FuncId → Array Value → Hp → (Value → Hp → An) → An) : FuncId → Array Value → Hp → (Value → Hp → An) → An := fun f args h q => M f args h q (call f args h q)
theorem knownK_th {M : CallM} (hM : MemoOK P M) {call : FuncId → Array Value → Hp → (Value → Hp → An) → An} (hc : CallTh call) : CallTh (knownK M call) := fun f args h q n hq k => by
  rcases hM _ _ _ _ _ _ k with k | ⟨v, h2, k, _⟩
  · exact hc _ _ _ _ _ hq k
  · exact hq _ _ _ k
theorem knownK_ok {M : CallM} (hM : MemoOK P M) {call : FuncId → Array Value → Hp → (Value → Hp → An) → An} (hc : CallK P call) : CallK P (knownK M call) := fun f args h q n hq k r w args' H hT ha => by
  rcases hM _ _ _ _ _ _ k with k | ⟨v, h2, k, hr⟩
  · exact hc _ _ _ _ _ hq k r w args' H hT ha
  · exact (hr r w args' H hT ha).mono fun e w' k2 => ⟨v, h2, n, k, k2⟩
def noM : CallM := fun _ _ _ _ d => d
theorem noM_ok : MemoOK P noM := fun _ _ _ _ _ _ h => .inl h
def orM (A B : CallM) : CallM := fun f args h q d => A f args h q (B f args h q d)
theorem orM_ok {A B : CallM} (ha : MemoOK P A) (hb : MemoOK P B) : MemoOK P (orM A B) := fun f args h q d n k => by
  rcases ha _ _ _ _ _ _ k with k | k
  · exact hb _ _ _ _ _ _ k
  · exact .inr k
/-- Two rows of values, two objects that are the same. -/
def eqFs (l : List Value) : List Value → An → An :=
  List.rec (motive := fun _ => List Value → An → An) (fun w y => match w with
    | [] => y
    | _ => FF) (fun x _ ih w y => match w with
    | u :: s => eqF x u (ih s y)
    | [] => FF) l
theorem eqFs_ok : ∀ {l w : List Value} {y : An} {n : Prop}, eqFs l w y n → l = w ∧ y n
  | [], [], _, _, h => ⟨rfl, h⟩
  | [], _ :: _, _, _, h => h.elim
  | _ :: _, [], _, _, h => h.elim
  | x :: l, u :: w, y, n, h => by
    obtain ⟨rfl, h1⟩ := eqF_ok (show eqF x u (eqFs l w y) n from h)
    obtain ⟨rfl, h2⟩ := eqFs_ok h1
    exact ⟨rfl, h2⟩
def eqE (l : List MapEntry) : List MapEntry → An → An :=
  List.rec (motive := fun _ => List MapEntry → An → An) (fun w y => match w with
    | [] => y
    | _ => FF) (fun x _ ih w y => match w with
    | u :: s => Bool.rec FF (eqF x.key u.key (eqF x.val u.val (ih s y))) (Nat.beq x.born u.born)
    | [] => FF) l
theorem eqE_ok : ∀ {l w : List MapEntry} {y : An} {n : Prop}, eqE l w y n → l = w ∧ y n
  | [], [], _, _, h => ⟨rfl, h⟩
  | [], _ :: _, _, _, h => h.elim
  | _ :: _, [], _, _, h => h.elim
  | x :: l, u :: w, y, n, h => by
    have h1 : (Bool.rec (motive := fun _ => An) FF (eqF x.key u.key (eqF x.val u.val (eqE l w y))) (Nat.beq x.born u.born)) n := h
    cases e : Nat.beq x.born u.born with
    | false => rw [e] at h1; exact h1.elim
    | true =>
      rw [e] at h1
      obtain ⟨k1, h2⟩ := eqF_ok h1
      obtain ⟨k2, h3⟩ := eqF_ok h2
      obtain ⟨rfl, h4⟩ := eqE_ok h3
      have k3 := Nat.eq_of_beq_eq_true e
      obtain ⟨a, b, c⟩ := x
      obtain ⟨a', b', c'⟩ := u
      cases k1; cases k2; cases k3
      exact ⟨rfl, h4⟩
def eqO (o u : Obj) (y : An) : An :=
  match o with
  | .cells ⟨l⟩ t z => match u with
    | .cells ⟨w⟩ t' z' => Bool.rec FF (Bool.rec FF (Bool.rec FF (eqFs l w y) (Nat.beq z.2 z'.2)) (Nat.beq z.1 z'.1)) (Nat.beq t t')
    | _ => FF
  | .map ⟨l⟩ c => match u with
    | .map ⟨w⟩ c' => Bool.rec FF (eqE l w y) (Nat.beq c c')
    | _ => FF
  | _ => FF
theorem eqO_ok {o u : Obj} {y : An} {n : Prop} (h : eqO o u y n) : o = u ∧ y n := by
  cases o with
  | cells c t z =>
    obtain ⟨l⟩ := c
    obtain ⟨z1, z2⟩ := z
    cases u with
    | cells c' t' z' =>
      obtain ⟨w⟩ := c'
      obtain ⟨z1', z2'⟩ := z'
      have h1 : (Bool.rec (motive := fun _ => An) FF (Bool.rec (motive := fun _ => An) FF (Bool.rec (motive := fun _ => An) FF (eqFs l w y) (Nat.beq z2 z2')) (Nat.beq z1 z1')) (Nat.beq t t')) n := h
      cases e1 : Nat.beq t t' with
      | false => rw [e1] at h1; exact h1.elim
      | true =>
        rw [e1] at h1
        cases e2 : Nat.beq z1 z1' with
        | false => rw [e2] at h1; exact h1.elim
        | true =>
          rw [e2] at h1
          cases e3 : Nat.beq z2 z2' with
          | false => rw [e3] at h1; exact h1.elim
          | true =>
            rw [e3] at h1
            obtain ⟨rfl, h2⟩ := eqFs_ok h1
            cases Nat.eq_of_beq_eq_true e1
            cases Nat.eq_of_beq_eq_true e2
            cases Nat.eq_of_beq_eq_true e3
            exact ⟨rfl, h2⟩
    | _ => exact h.elim
  | map m c =>
    obtain ⟨l⟩ := m
    cases u with
    | map m' c' =>
      obtain ⟨w⟩ := m'
      have h1 : (Bool.rec (motive := fun _ => An) FF (eqE l w y) (Nat.beq c c')) n := h
      cases e1 : Nat.beq c c' with
      | false => rw [e1] at h1; exact h1.elim
      | true =>
        rw [e1] at h1
        obtain ⟨rfl, h2⟩ := eqE_ok h1
        cases Nat.eq_of_beq_eq_true e1
        exact ⟨rfl, h2⟩
    | _ => exact h.elim
  | _ => exact h.elim
/-- Blocks and what they hold: laid on a tree, taken out of it, looked for in it. -/
abbrev BL := List (Nat × Obj)
def lays : BL → T Obj → T Obj
  | [], t => t
  | p :: l, t => lays l (t.set p.1 (some p.2))
def outs : BL → T Obj → T Obj
  | [], t => t
  | p :: l, t => outs l (t.set p.1 none)
def laysK (L : BL) : T Obj → (T Obj → An) → An :=
  List.rec (motive := fun _ => T Obj → (T Obj → An) → An) (fun t q => q t) (fun p _ ih t q => setK (path p.1) (some p.2) t fun t => ih t q) L
theorem laysK_eq (q : T Obj → An) : ∀ (L : BL) (t : T Obj), laysK L t q = q (lays L t)
  | [], _ => rfl
  | _p :: l, _t => (setK_eq _ _ _ _).trans (laysK_eq q l _)
def outsK (L : BL) : T Obj → (T Obj → An) → An :=
  List.rec (motive := fun _ => T Obj → (T Obj → An) → An) (fun t q => q t) (fun p _ ih t q => setK (path p.1) none t fun t => ih t q) L
theorem outsK_eq (q : T Obj → An) : ∀ (L : BL) (t : T Obj), outsK L t q = q (outs L t)
  | [], _ => rfl
  | _p :: l, _t => (setK_eq _ _ _ _).trans (outsK_eq q l _)
def hasK (L : BL) (t : T Obj) (y : An) : An :=
  List.rec (motive := fun _ => An) y (fun p _ ih => getK (path p.1) t fun o => Option.rec (motive := fun _ => An) FF (fun o => eqO p.2 o ih) o) L
theorem hasK_ok {t : T Obj} {y : An} {n : Prop} : ∀ {L : BL}, hasK L t y n → (∀ p ∈ L, t.get p.1 = some p.2) ∧ y n
  | [], h => ⟨fun _ hp => (List.not_mem_nil hp).elim, h⟩
  | p :: l, h => by
    have h1 : getK (path p.1) t (fun o => Option.rec (motive := fun _ => An) FF (fun o => eqO p.2 o (hasK l t y)) o) n := h
    rw [getK_eq] at h1
    cases e : t.get p.1 with
    | none => rw [e] at h1; exact h1.elim
    | some o =>
      rw [e] at h1
      obtain ⟨h2, h3⟩ := eqO_ok h1
      obtain ⟨h4, h5⟩ := hasK_ok h3
      refine ⟨fun p' hp => ?_, h5⟩
      rcases List.mem_cons.1 hp with rfl | hp
      · rw [e, h2]
      · exact h4 p' hp
theorem lays_mem {b : Nat} {o : Obj} : ∀ {L : BL} {t : T Obj}, (lays L t).get b = some o → (b, o) ∈ L ∨ t.get b = some o
  | [], _, h => .inr h
  | p :: l, t, h => by
    rcases lays_mem (L := l) h with h | h
    · exact .inl (List.mem_cons_of_mem _ h)
    · rw [T.get_set] at h
      split at h
      · rename_i e
        cases h
        left
        rw [e]
        exact List.mem_cons_self ..
      · exact .inr h
theorem lays_out {b : Nat} : ∀ {L : BL} {t : T Obj}, (∀ p ∈ L, p.1 ≠ b) → (lays L t).get b = t.get b
  | [], _, _ => rfl
  | p :: l, t, h => by
    refine (lays_out (L := l) fun p' hp => h p' (List.mem_cons_of_mem _ hp)).trans ?_
    rw [T.get_set, if_neg fun e => h p (List.mem_cons_self ..) e.symm]
theorem lays_in {b : Nat} : ∀ {L : BL} {t t' : T Obj}, (∃ p ∈ L, p.1 = b) ∨ t.get b = t'.get b → (lays L t).get b = (lays L t').get b
  | [], t, t', h => by
    rcases h with ⟨p, hp, _⟩ | h
    · cases hp
    · exact h
  | p :: l, t, t', h => by
    refine lays_in (L := l) ?_
    by_cases e : b = p.1
    · right
      rw [T.get_set, T.get_set, if_pos e, if_pos e]
    · rcases h with ⟨p', hp, he⟩ | h
      · rcases List.mem_cons.1 hp with rfl | hp
        · exact absurd he.symm e
        · exact .inl ⟨p', hp, he⟩
      · right
        rw [T.get_set, T.get_set, if_neg e, if_neg e]
        exact h
theorem outs_get {b : Nat} {o : Obj} : ∀ {L : BL} {t : T Obj}, (outs L t).get b = some o → (∀ p ∈ L, p.1 ≠ b) ∧ t.get b = some o
  | [], _, h => ⟨fun _ hp => (List.not_mem_nil hp).elim, h⟩
  | p :: l, t, h => by
    obtain ⟨h1, h2⟩ := outs_get (L := l) h
    rw [T.get_set] at h2
    split at h2
    · cases h2
    · rename_i e
      refine ⟨fun p' hp => ?_, h2⟩
      rcases List.mem_cons.1 hp with rfl | hp
      · exact fun k => e k.symm
      · exact h1 p' hp
theorem leaf_none (b : Nat) : T.get (.leaf : T Obj) b = none := by unfold T.get; rfl
/-- Blocks may be forgotten, and numbers left out. -/
theorem HR.drop {r : Env} {h k : Hp} {w : World} (H : HR r h w) (hk : ∀ b o, k.t.get b = some o → h.t.get b = some o) (hn : h.n ≤ k.n) : HR r k w := by
  have up : ∀ b, (k.t.get b).isSome → (h.t.get b).isSome := fun b hb => by
    obtain ⟨o, ho⟩ := Option.isSome_iff_exists.1 hb
    rw [hk b o ho]; rfl
  exact ⟨fun b o e => H.live b o (hk b o e), H.fn, fun b b' c h1 h2 => H.inj b b' c (up b h1) (up b' h2), fun b c e => Nat.lt_of_lt_of_le (H.lt b c e) (Nat.mul_le_mul_left 2 hn), fun b c e ho => Nat.le_trans (H.odd b c e ho) (Nat.mul_le_mul_left 2 hn), fun b c k' c0 d e cs t z h1 h2 h3 h6 => H.caps b c k' c0 d e cs t z h1 h2 h3 (hk _ _ h6)⟩
theorem Tidy.drop {h k : Hp} (H : Tidy h) (hk : ∀ b o, k.t.get b = some o → h.t.get b = some o) (hn : h.n ≤ k.n) : Tidy k := fun b hb => by
  cases e : k.t.get b with
  | none => rfl
  | some o => have := hk b o e; rw [H b (Nat.le_trans (Nat.mul_le_mul_left 2 hn) hb)] at this; cases this
theorem Fr.drop {r r' : Env} {h h2 k : Hp} {w w' : World} (F : Fr r r' h h2 w w') (hk : ∀ b o, k.t.get b = some o → h2.t.get b = some o) (hn : h2.n ≤ k.n) : Fr r r' h k w w' :=
  ⟨F.le, F.lt, F.size, Nat.le_trans F.n hn, F.new, fun b hb hx => F.old b hb (by obtain ⟨o, ho⟩ := Option.isSome_iff_exists.1 hx; rw [hk b o ho]; rfl), F.heap, F.os, F.tape, F.output⟩
/-- Blocks, forced. -/
def fM (o : Obj) (q : Obj → An) : An :=
  match o with
  | .map ⟨l⟩ c => fE l fun l => q (.map ⟨l⟩ c)
  | o => fO o q
theorem fM_eq (o : Obj) (q : Obj → An) : fM o q = q o := by
  cases o with
  | map m c => exact fE_eq m.toList fun l => q (.map ⟨l⟩ c)
  | _ => unfold fM; exact fO_eq _ q
def fB (L : BL) : (BL → An) → An :=
  List.rec (motive := fun _ => (BL → An) → An) (fun q => q []) (fun p _ ih q => fN p.1 fun b => fM p.2 fun o => ih fun l => q ((b, o) :: l)) L
theorem fB_eq : ∀ (L : BL) (q : BL → An), fB L q = q L
  | [], _ => rfl
  | p :: l, q => by
    have e : fB (p :: l) q = fN p.1 fun b => fM p.2 fun o => fB l fun l => q ((b, o) :: l) := rfl
    rw [e, fN_eq, fM_eq, fB_eq]
/-- Values in few signs. -/
def iv (k : IntKind) (n : Nat) : Value := .int k (.ofNat n)
def pv (b o : Nat) : Value := .pointer (some ⟨b, o, none⟩)
def sv (b o n c : Nat) : Value := .slice (some ⟨b, o, none⟩) n c
def zs (n : Nat) (l : List Value) : List Value := Nat.rec l (fun _ l => .int .u8 (.ofNat 0) :: l) n
/-- A call that is known at a heap, is known where there is more. -/
theorem HR.over {r r' : Env} {h k : Hp} {w w' : World} {HL DL : BL} {n2 : Nat} (H : HR r h w) (hk : k.t = lays HL .leaf) (hs : ∀ p ∈ HL, h.t.get p.1 = some p.2) (hn : h.n ≤ k.n) (H2 : HR r' ⟨lays DL .leaf, n2⟩ w') (F : Fr r r' k ⟨lays DL .leaf, n2⟩ w w') :
    HR r' ⟨lays DL (outs HL h.t), n2⟩ w' ∧ Fr r r' h ⟨lays DL (outs HL h.t), n2⟩ w w' := by
  have sub : ∀ b, (k.t.get b).isSome → (h.t.get b).isSome := fun b hb => by
    obtain ⟨o, ho⟩ := Option.isSome_iff_exists.1 hb
    rw [hk] at ho
    rcases lays_mem ho with ho | ho
    · rw [hs _ ho]; rfl
    · rw [leaf_none] at ho; cases ho
  have cases2 : ∀ b u, (lays DL (outs HL h.t)).get b = some u → (lays DL .leaf).get b = some u ∨ (h.t.get b = some u ∧ k.t.get b = none) := fun b u e => by
    by_cases hb : ∃ p ∈ DL, p.1 = b
    · left; rw [← e]; exact lays_in (.inl hb)
    · right
      rw [lays_out fun p hp q => hb ⟨p, hp, q⟩] at e
      obtain ⟨h1, h2⟩ := outs_get e
      exact ⟨h2, by rw [hk, lays_out h1]; exact leaf_none b⟩
  have far : ∀ b c, (h.t.get b).isSome → k.t.get b = none → r b c → w'.heap[c]? = w.heap[c]? := fun b c hb hkb hr => F.heap c (H.size hb hr) fun b' hb' hr' => by
    cases H.inj b b' c hb (sub b' hb') hr hr'
    rw [hkb] at hb'; cases hb'
  have apart : ∀ b b' c, (h.t.get b).isSome → k.t.get b = none → r b c → ((lays DL .leaf).get b').isSome → r' b' c → False := fun b b' c hb hkb hr hb' hr' => by
    have key : ∀ b0, (k.t.get b0).isSome → r b0 c → False := fun b0 h0 r0 => by
      cases H.inj b b0 c hb (sub b0 h0) hr r0
      rw [hkb] at h0; cases h0
    rcases F.new b' c hr' (.inl (H.size hb hr)) with q | ⟨_, b0, h0, r0⟩
    · exact key b' (F.old b' (F.lt b' c q) hb') q
    · exact key b0 h0 r0
  refine ⟨⟨fun b u e => ?_, H2.fn, fun b b' c hb hb' hr hr' => ?_, H2.lt, H2.odd, fun b c k' c0 d e' cs t z h1 h2 h3 h6 => ?_⟩, ⟨F.le, H.lt, F.size, Nat.le_trans hn F.n, fun b c hr hc => ?_, fun b hb hx => ?_, fun c hc hx => F.heap c hc fun b hb => hx b (sub b hb), F.os, F.tape, F.output⟩⟩
  · rcases cases2 b u e with e | ⟨e, hkb⟩
    · exact H2.live b u e
    · obtain ⟨c, o', h1, h2, h3⟩ := H.live b u e
      refine ⟨c, o', F.le _ _ h1, ?_, h3.mono F.le⟩
      rw [far b c (by rw [e]; rfl) hkb h1]; exact h2
  · obtain ⟨u, hu⟩ := Option.isSome_iff_exists.1 hb
    obtain ⟨u', hu'⟩ := Option.isSome_iff_exists.1 hb'
    rcases cases2 b u hu with e | ⟨e, hkb⟩
    · rcases cases2 b' u' hu' with e' | ⟨e', hkb'⟩
      · exact H2.inj b b' c (by rw [show (lays DL .leaf).get b = some u from e]; rfl) (by rw [show (lays DL .leaf).get b' = some u' from e']; rfl) hr hr'
      · obtain ⟨c1, o1, k1, _⟩ := H.live b' u' e'
        cases H2.fn _ _ _ hr' (F.le _ _ k1)
        exact (apart b' b c (by rw [e']; rfl) hkb' k1 (by rw [e]; rfl) hr).elim
    · obtain ⟨c1, o1, k1, _⟩ := H.live b u e
      cases H2.fn _ _ _ hr (F.le _ _ k1)
      rcases cases2 b' u' hu' with e' | ⟨e', hkb'⟩
      · exact (apart b b' c (by rw [e]; rfl) hkb k1 (by rw [e']; rfl) hr').elim
      · obtain ⟨c2, o2, k2, _⟩ := H.live b' u' e'
        cases H2.fn _ _ _ hr' (F.le _ _ k2)
        exact H.inj b b' c (by rw [e]; rfl) (by rw [e']; rfl) k1 k2
  · rcases cases2 b _ h6 with e | ⟨e, hkb⟩
    · exact H2.caps b c k' c0 d e' cs t z h1 h2 h3 e
    · obtain ⟨c1, o1, k1, k2, k3⟩ := H.live b _ e
      cases H2.fn _ _ _ h2 (F.le _ _ k1)
      have hb := H.odd _ _ k1 h1
      have old : ∀ x y, x < 2 * h.n → r' x y → r x y := fun x y hx q => by
        rcases F.new x y q (.inr (Nat.lt_of_lt_of_le hx (Nat.mul_le_mul_left 2 hn))) with q | ⟨q, _⟩
        · exact q
        · omega
      obtain ⟨g0, cw, zw, g1, g2⟩ := H.caps b c k' c0 d e' cs t z h1 k1 (h3.old old (by omega)) e
      exact ⟨g0, cw, zw, by rw [far b c (by rw [e]; rfl) hkb k1]; exact g1, g2⟩
  · rcases F.new b c hr (hc.imp id fun q => Nat.lt_of_lt_of_le q (Nat.mul_le_mul_left 2 hn)) with q | ⟨q, b0, q1, q2⟩
    · exact .inl q
    · exact .inr ⟨Nat.le_trans (Nat.mul_le_mul_left 2 hn) q, b0, sub b0 q1, q2⟩
  · obtain ⟨u, hu⟩ := Option.isSome_iff_exists.1 hx
    rcases cases2 b u hu with e | ⟨e, _⟩
    · exact sub b (F.old b (Nat.lt_of_lt_of_le hb (Nat.mul_le_mul_left 2 hn)) (by rw [show (lays DL .leaf).get b = some u from e]; rfl))
    · rw [e]; rfl
/-- A call at a heap that is told, whatever the world. -/
def CallEq (P : Program) (f : FuncId) (args : Array Value) (HL : BL) (n0 : Nat) (v : Value) (DL : BL) (n2 : Nat) : Prop :=
  ∀ r w args', HR r ⟨lays HL .leaf, n0⟩ w → Tidy ⟨lays HL .leaf, n0⟩ → AVs r args args' → Ret P f args' r w ⟨lays HL .leaf, n0⟩ v ⟨lays DL .leaf, n2⟩
/-- Such a call, where its number and its memory's are met. -/
def memoA (f0 : FuncId) (lo n0 : Nat) (args0 : List Value) (HLk DLk : (BL → An) → An) (v0 : Value) (n2 : Nat) : CallM := fun f args h q d =>
  Bool.rec (motive := fun _ => An) d (Bool.rec (motive := fun _ => An) d (Bool.rec (motive := fun _ => An) d (eqFs args.toList args0 (HLk fun HL => hasK HL h.t (outsK HL h.t fun t => DLk fun DL => laysK DL t fun t => q v0 ⟨t, n2⟩))) (Nat.ble h.n n0)) (Nat.ble lo h.n)) (Nat.beq f f0)
theorem memoA_ok {f0 : FuncId} {lo n0 : Nat} {args0 : List Value} {HLk DLk : (BL → An) → An} {HL DL : BL} {v0 : Value} {n2 : Nat} (hH : ∀ q, HLk q = q HL) (hD : ∀ q, DLk q = q DL) (hc : CallEq P f0 ⟨args0⟩ HL n0 v0 DL n2) : MemoOK P (memoA f0 lo n0 args0 HLk DLk v0 n2) := by
  intro f args h q d n k
  unfold memoA at k
  cases e1 : Nat.beq f f0 with
  | false => rw [e1] at k; exact .inl k
  | true =>
    rw [e1] at k
    cases e2 : Nat.ble lo h.n with
    | false => rw [e2] at k; exact .inl k
    | true =>
      rw [e2] at k
      cases e3 : Nat.ble h.n n0 with
      | false => rw [e3] at k; exact .inl k
      | true =>
        rw [e3] at k
        obtain ⟨ea, k1⟩ := eqFs_ok k
        rw [hH] at k1
        obtain ⟨hs, k2⟩ := hasK_ok k1
        rw [outsK_eq, hD, laysK_eq] at k2
        cases Nat.eq_of_beq_eq_true e1
        have hn := Nat.le_of_ble_eq_true e3
        refine .inr ⟨_, _, k2, fun r w args' H hT ha => ?_⟩
        have hd : ∀ b o, (lays HL .leaf).get b = some o → h.t.get b = some o := fun b o e => by
          rcases lays_mem e with e | e
          · exact hs _ e
          · rw [leaf_none] at e; cases e
        have ha' : AVs r ⟨args0⟩ args' := by rw [← ea]; exact ha
        refine (hc r w args' (H.drop (k := ⟨lays HL .leaf, n0⟩) hd hn) (hT.drop (k := ⟨lays HL .leaf, n0⟩) hd hn) ha').mono fun e w' k3 => ?_
        obtain ⟨r', v', g1, g2, g3, g4, g5⟩ := k3
        obtain ⟨H', F'⟩ := H.over (k := ⟨lays HL .leaf, n0⟩) rfl hs hn g3 g5
        refine ⟨r', v', g1, g2, H', fun b hb => ?_, F'⟩
        have hb0 : (lays DL .leaf).get b = none := g4 b hb
        by_cases hm : ∃ p ∈ DL, p.1 = b
        · show (lays DL (outs HL h.t)).get b = none
          rw [← hb0]
          exact lays_in (.inl hm)
        · show (lays DL (outs HL h.t)).get b = none
          rw [lays_out fun p hp q => hm ⟨p, hp, q⟩]
          cases e : (outs HL h.t).get b with
          | none => rfl
          | some u =>
            have h1 := (outs_get e).2
            have h2 : 2 * h.n ≤ b := Nat.le_trans (Nat.mul_le_mul_left 2 (Nat.le_trans hn g5.n)) hb
            rw [hT b h2] at h1
            cases h1
/-- What is to hold of a call that is run so that it may be told. -/
def tellK (v0 : Value) (DL : BL) (n2 : Nat) (v : Value) (h : Hp) : An := eqF v v0 (Bool.rec FF (hasK DL h.t fun N => N) (Nat.ble h.n n2))
theorem tellK_th (v0 : Value) (DL : BL) (n2 : Nat) : ThV (tellK v0 DL n2) := fun v h N k => by
  unfold tellK at k
  obtain ⟨_, k1⟩ := eqF_ok k
  cases e : Nat.ble h.n n2 with
  | false => rw [e] at k1; exact k1.elim
  | true => rw [e] at k1; exact (hasK_ok k1).2
theorem callEq_of {call : FuncId → Array Value → Hp → (Value → Hp → An) → An} (hc : CallK P call) {f : FuncId} {args : List Value} {n0 : Nat} {v0 : Value} {n2 : Nat} {HLk DLk : (BL → An) → An} {HL DL : BL} (hH : ∀ q, HLk q = q HL) (hD : ∀ q, DLk q = q DL)
    (h : (HLk fun HL => laysK HL .leaf fun t => DLk fun DL => call f ⟨args⟩ ⟨t, n0⟩ (tellK v0 DL n2)) True) : CallEq P f ⟨args⟩ HL n0 v0 DL n2 := by
  rw [hH, laysK_eq, hD] at h
  intro r w args' H hT ha
  refine (hc f ⟨args⟩ _ _ True (tellK_th v0 DL n2) h r w args' H hT ha).mono fun e w' k => ?_
  obtain ⟨v, h2, N, k1, r', v', g1, g2, g3, g4, g5⟩ := k
  unfold tellK at k1
  obtain ⟨rfl, k2⟩ := eqF_ok k1
  cases e3 : Nat.ble h2.n n2 with
  | false => rw [e3] at k2; exact k2.elim
  | true =>
    rw [e3] at k2
    have hn := Nat.le_of_ble_eq_true e3
    have hd : ∀ b o, (lays DL .leaf).get b = some o → h2.t.get b = some o := fun b o e => by
      rcases lays_mem e with e | e
      · exact (hasK_ok k2).1 _ e
      · rw [leaf_none] at e; cases e
    exact ⟨r', v', g1, g2, g3.drop (k := ⟨lays DL .leaf, n2⟩) hd hn, g4.drop (k := ⟨lays DL .leaf, n2⟩) hd hn, g5.drop (k := ⟨lays DL .leaf, n2⟩) hd hn⟩
/-- A call without arguments that answers a value without blocks and leaves all as it was. -/
def Lone (P : Program) (f : FuncId) (v : Value) : Prop := ∀ w : World, Calls P f #[] w fun e w' => e = .returned v ∧ w'.os = w.os ∧ w'.tape = w.tape ∧ w'.output = w.output ∧ w.heap.size ≤ w'.heap.size ∧ ∀ c, c < w.heap.size → w'.heap[c]? = w.heap[c]?
theorem lone_of {f : FuncId} {v : Value} {n0 n2 : Nat} {DL : BL} (hv : closed 64 v = true) (hc : CallEq P f #[] [] n0 v DL n2) : Lone P f v := by
  intro w
  have no : ∀ b, (T.get (.leaf : T Obj) b).isSome = true → False := fun b k => by rw [leaf_none] at k; cases k
  have H : HR (fun _ _ => False) ⟨lays [] .leaf, n0⟩ w := by
    refine ⟨fun b o k => ?_, fun _ _ _ k => False.elim k, fun b _ _ k => (no b k).elim, fun _ _ k => False.elim k, fun _ _ k => False.elim k, fun _ _ _ _ _ _ _ _ _ _ k => False.elim k⟩
    rw [show T.get (lays [] .leaf) b = none from leaf_none b] at k
    cases k
  refine (hc _ w #[] H (fun b _ => leaf_none b) (by simp [AVs, VRs])).mono fun e w' k => ?_
  obtain ⟨r', v', rfl, g2, g3, g4, g5⟩ := k
  cases (VR.closed 64 v v' hv).1 g2
  exact ⟨rfl, g5.os, g5.tape, g5.output, g5.size, fun c hc => g5.heap c hc fun b k => (no b k).elim⟩
end
end Go.Proofs.YtmjblbgalkjmiaaGreat.EX
/- The executor, whole. -/
namespace Go.Proofs.YtmjblbgalkjmiaaGreat.EX
open Go
section
variable {P : Program}
def stepK (P : Program) (M : CallM) (ih : Code → St → (Exit → St → An) → An) (c : Code) (s : St) (q : Exit → St → An) : An :=
  match c with
  | .skip => q .normal s
  | .label _ => q .normal s
  | .seq a b => ih a s fun e s1 => match e with
    | .normal => ih b s1 q
    | e => q e s1
  | .cond x a b => bif opdOK x then evK s x fun v => match v with
      | .bool t => Bool.rec (ih b s q) (ih a s q) t
      | _ => FF
    else FF
  | .block id b => ih b s fun e s1 => match e with
    | .exit i => bif Nat.beq i id then q .normal s1 else q (.exit i) s1
    | e => q e s1
  | .loop b => ih b s fun e s1 => match e with
    | .normal => ih (.loop b) s1 q
    | e => q e s1
  | .exit id => q (.exit id) s
  | .ret => q .ret s
  | .region _ ops d => bif d then drawK P (knownK M (callK P ih)) ops s fun s1 => q .normal s1 else opsK P (knownK M (callK P ih)) ops.toList ops.toList s fun s1 => q .normal s1
  | _ => FF
def execK (P : Program) (M : CallM) (n : Nat) : Code → St → (Exit → St → An) → An :=
  Nat.rec (motive := fun _ => Code → St → (Exit → St → An) → An) (fun _ _ _ => FF) (fun _ ih c s q => stepK P M ih c s q) n
theorem execK_th (hz : Zc P) {M : CallM} (hM : MemoOK P M) (n : Nat) : RunTh (execK P M n) := by
  induction n with
  | zero => intro c s q N _ h; exact h.elim
  | succ n ih =>
    intro c s q N hq h
    have h' : stepK P M (execK P M n) c s q N := h
    cases c with
    | skip => exact hq _ _ _ h'
    | label l => exact hq _ _ _ h'
    | exit id => exact hq _ _ _ h'
    | ret => exact hq _ _ _ h'
    | seq x y =>
      refine ih x s _ N (fun e s1 N h => ?_) h'
      cases e with
      | normal => exact ih y s1 q N hq h
      | _ => exact hq _ _ _ h
    | cond x t f =>
      simp only [stepK] at h'
      cases ho : opdOK x with
      | false => rw [ho] at h'; exact h'.elim
      | true =>
        rw [ho] at h'
        dsimp only [cond] at h'
        rw [evK_eq _ _ _ ho] at h'
        cases hb : s.ev x with
        | bool b =>
          rw [hb] at h'
          cases b with
          | true => exact ih t s q N hq h'
          | false => exact ih f s q N hq h'
        | _ => rw [hb] at h'; exact h'.elim
    | block id b =>
      refine ih b s _ N (fun e s1 N h => ?_) h'
      cases e with
      | exit i =>
        dsimp only at h
        cases hb : Nat.beq i id with
        | true => rw [hb] at h; exact hq _ _ _ h
        | false => rw [hb] at h; exact hq _ _ _ h
      | _ => exact hq _ _ _ h
    | loop b =>
      refine ih b s _ N (fun e s1 N h => ?_) h'
      cases e with
      | normal => exact ih (.loop b) s1 q N hq h
      | _ => exact hq _ _ _ h
    | region id ops d =>
      cases d with
      | true => exact drawK_th hz (knownK_th hM (callK_th hz ih)) (q := fun s1 => q .normal s1) (fun s1 N h => hq _ _ _ h) h'
      | false => exact opsK_th hz (knownK_th hM (callK_th hz ih)) (q := fun s1 => q .normal s1) (fun s1 N h => hq _ _ _ h) _ s N h'
    | _ => exact h'.elim
/-- What the executor goes on with, every world and every tape comes to. -/
theorem execK_sound (hz : Zc P) (hmix : P.follows .mixedOrders = true) {M : CallM} (hM : MemoOK P M) : ∀ (n : Nat) (c : Code) (s : St) (q : Exit → St → An) (N : Prop), Th2 q → execK P M n c s q N → ∀ (r : Env) (a : Act) (w : World), SL r s a w →
    c.wp P (PostK r s.h w q) a w ∧ ∀ b, c = .loop b → Lp P b (PostK r s.h w q) a w := by
  intro n
  induction n with
  | zero => intro c s q N _ h; exact h.elim
  | succ n ih =>
    intro c s q N hq h r a w S
    have h' : stepK P M (execK P M n) c s q N := h
    have other : (∀ b, c ≠ .loop b) → c.wp P (PostK r s.h w q) a w → c.wp P (PostK r s.h w q) a w ∧ ∀ b, c = .loop b → Lp P b (PostK r s.h w q) a w := fun hn k => ⟨k, fun b q => absurd q (hn b)⟩
    have here : ∀ e, q e s N → PostK r s.h w q e a w := fun e k => ⟨s, N, k, r, S, .refl S.h⟩
    cases c with
    | skip => exact other (fun _ q => by cases q) (wp_skip (here _ h'))
    | label l => exact other (fun _ q => by cases q) (wp_label (here _ h'))
    | exit id => exact other (fun _ q => by cases q) (wp_exit (here _ h'))
    | ret => exact other (fun _ q => by cases q) (wp_ret (here _ h'))
    | seq x y =>
      refine other (fun _ q => by cases q) (wp_seq ?_)
      refine wp_mono (ih x s _ N (fun e s1 N h => by
        cases e with
        | normal => exact execK_th hz hM n y s1 q N hq h
        | _ => exact hq _ _ _ h) h' r a w S).1 fun e' a' w' k => ?_
      obtain ⟨s2, N2, hk, r', S', F'⟩ := k
      cases e' with
      | normal => exact wp_mono (ih y s2 q N2 hq hk r' a' w' S').1 fun _ _ _ q => PostK.at F' q
      | _ => exact ⟨s2, N2, hk, r', S', F'⟩
    | cond x t f =>
      refine other (fun _ q => by cases q) ?_
      simp only [stepK] at h'
      cases ho : opdOK x with
      | false => rw [ho] at h'; exact h'.elim
      | true =>
        rw [ho] at h'
        dsimp only [cond] at h'
        rw [evK_eq _ _ _ ho] at h'
        have hv := S.ev x ho
        cases hb : s.ev x with
        | bool b =>
          rw [hb] at h' hv
          cases b with
          | true => exact wp_cond_true hv (ih t s q N hq h' r a w S).1
          | false => exact wp_cond_false hv (ih f s q N hq h' r a w S).1
        | _ => rw [hb] at h'; exact h'.elim
    | block id b =>
      refine other (fun _ q => by cases q) (wp_block ?_)
      refine wp_mono (ih b s _ N (fun e s1 N h => by
        cases e with
        | exit i =>
          dsimp only at h
          cases hb : Nat.beq i id with
          | true => rw [hb] at h; exact hq _ _ _ h
          | false => rw [hb] at h; exact hq _ _ _ h
        | _ => exact hq _ _ _ h) h' r a w S).1 fun e' a' w' k => ?_
      obtain ⟨s2, N2, hk, r', S', F'⟩ := k
      cases e' with
      | exit i =>
        dsimp only at hk
        by_cases hi : i = id
        · subst hi
          have e : Nat.beq i i = true := Nat.beq_refl i
          rw [e] at hk
          simp only [Exit.inBlock, if_true]
          exact ⟨s2, N2, hk, r', S', F'⟩
        · have e : Nat.beq i id = false := Bool.eq_false_iff.2 fun k => hi (Nat.eq_of_beq_eq_true k)
          rw [e] at hk
          simp only [Exit.inBlock, if_neg hi]
          exact ⟨s2, N2, hk, r', S', F'⟩
      | _ => exact ⟨s2, N2, hk, r', S', F'⟩
    | loop b =>
      have key : Lp P b (PostK r s.h w q) a w := by
        refine Lp.step ?_
        refine wp_mono (ih b s _ N (fun e s1 N h => by
          cases e with
          | normal => exact execK_th hz hM n (.loop b) s1 q N hq h
          | _ => exact hq _ _ _ h) h' r a w S).1 fun e' a' w' k => ?_
        obtain ⟨s2, N2, hk, r', S', F'⟩ := k
        cases e' with
        | normal =>
          have k2 := (ih (.loop b) s2 q N2 hq hk r' a' w' S').2 b rfl
          intro bb kk cs
          obtain ⟨e2, a2, w2, q2, har⟩ := k2 bb kk cs
          exact ⟨e2, a2, w2, PostK.at F' q2, har⟩
        | _ => exact ⟨s2, N2, hk, r', S', F'⟩
      exact ⟨Lp.loop key, fun b' q => by cases q; exact key⟩
    | region id ops d =>
      refine other (fun _ q => by cases q) ?_
      cases d with
      | true => exact drawK_sound hz hmix (knownK_ok hM (callK_sound hz _ (execK_th hz hM n) fun c s q n hq hr r a w S => (ih c s q n hq hr r a w S).1)) (knownK_th hM (callK_th hz (execK_th hz hM n))) id (q := fun s1 => q .normal s1) (fun s1 N h => hq _ _ _ h) h' S fun s1 n' r' a' w' hq S' F' => ⟨s1, n', hq, r', S', F'⟩
      | false =>
        refine wp_region ?_
        have e1 : List.range ops.size = List.range' 0 ops.toList.length := by simp [List.range_eq_range']
        rw [e1, wpOps_eq_wpList ops.toList 0 (fun j => by simp)]
        exact opsK_sound hz (knownK_ok hM (callK_sound hz _ (execK_th hz hM n) fun c s q n hq hr r a w S => (ih c s q n hq hr r a w S).1)) (knownK_th hM (callK_th hz (execK_th hz hM n))) ops (fun s1 => q .normal s1) (fun s1 N h => hq _ _ _ h) (fun s1 n' r' a' w' hq S' F' => ⟨s1, n', hq, r', S', F'⟩) ops.toList s r a w N S (.refl S.h) h'
    | _ => exact h'.elim
/-- Calls, run with what is known of calls. -/
theorem call_sound (hz : Zc P) (hmix : P.follows .mixedOrders = true) {M : CallM} (hM : MemoOK P M) (n : Nat) : CallK P (callK P (execK P M n)) :=
  callK_sound hz (execK P M n) (execK_th hz hM n) fun c s q m hq hr r a w S => (execK_sound hz hmix hM n c s q m hq hr r a w S).1
end
end Go.Proofs.YtmjblbgalkjmiaaGreat.EX
/- Zero values of made types bear no blocks. -/
namespace Go.Proofs.YtmjblbgalkjmiaaGreat.EX
open Go
/-- Each cell without blocks. -/
def GZ (v : Value) : Prop := ∀ x ∈ v.cells.toList, closed 63 x = true
theorem closed_mono : ∀ (n : Nat) (v : Value), closed n v = true → closed (n + 1) v = true := by
  intro n
  induction n with
  | zero => intro v h; cases h
  | succ n ih =>
    intro v h
    cases v with
    | func f a b =>
      simp only [closed, Bool.and_eq_true, List.all_eq_true] at h ⊢
      exact ⟨fun x hx => ih x (h.1 x hx), fun x hx => ih x (h.2 x hx)⟩
    | iface t x => exact ih x h
    | agg cs =>
      simp only [closed, List.all_eq_true] at h ⊢
      exact fun x hx => ih x (h x hx)
    | tuple cs =>
      simp only [closed, List.all_eq_true] at h ⊢
      exact fun x hx => ih x (h x hx)
    | pointer a => cases a <;> first | rfl | cases h
    | slice a _ _ => cases a <;> first | rfl | cases h
    | map a => cases a <;> first | rfl | cases h
    | chan a => cases a <;> first | rfl | cases h
    | _ => first | rfl | cases h
theorem GZ.closed {v : Value} (h : GZ v) : closed 64 v = true := by
  cases v with
  | agg cs =>
    simp only [EX.closed, List.all_eq_true]
    exact h
  | _ => exact closed_mono 63 _ (h _ (by simp [Value.cells]))
theorem forIn_keeps {α β : Type} (f : α → β → Option (ForInStep β)) (I : β → Prop) (h : ∀ a b r, I b → f a b = some r → I (match r with | .yield b' => b' | .done b' => b')) : ∀ (l : List α) (b : β), I b → ∀ r, forIn l b f = some r → I r
  | [], b, hb, r, e => by cases e; exact hb
  | a :: l, b, hb, r, e => by
    rw [List.forIn_cons] at e
    cases hf : f a b with
    | none => rw [hf] at e; cases e
    | some x =>
      rw [hf] at e
      have hx := h a b x hb hf
      cases x with
      | yield b' => exact forIn_keeps f I h l b' hx r e
      | done b' => cases e; exact hx
theorem reckon_zero {info : TypeId → Option TypeInfo} (hi : ∀ t i v, info t = some i → i.zero = some v → GZ v) {d : TypeDesc} {i : TypeInfo} {v : Value} (h : Made.reckon info d = some i) (hz : i.zero = some v) : GZ v := by
  have one : ∀ v : Value, v.cells = #[v] → EX.closed 63 v = true → GZ v := fun v h1 h2 x hx => by
    rw [h1] at hx
    simp at hx
    rw [hx]
    exact h2
  cases d with
  | pointer e =>
    simp only [Made.reckon] at h
    obtain ⟨j, hj, h⟩ := Option.bind_eq_some_iff.1 h
    split at h
    · cases h
    · split at h
      · cases h
      · obtain ⟨s, hs, h⟩ := Option.bind_eq_some_iff.1 h
        cases h; cases hz
        exact one _ rfl rfl
    · obtain ⟨s, hs, h⟩ := Option.bind_eq_some_iff.1 h
      cases h; cases hz
      exact one _ rfl rfl
  | slice e =>
    simp only [Made.reckon] at h
    obtain ⟨j, hj, h⟩ := Option.bind_eq_some_iff.1 h
    obtain ⟨s, hs, h⟩ := Option.bind_eq_some_iff.1 h
    cases h; cases hz
    exact one _ rfl rfl
  | map k e =>
    simp only [Made.reckon] at h
    obtain ⟨j, hj, h⟩ := Option.bind_eq_some_iff.1 h
    obtain ⟨s, hs, h⟩ := Option.bind_eq_some_iff.1 h
    obtain ⟨j2, hj2, h⟩ := Option.bind_eq_some_iff.1 h
    obtain ⟨s2, hs2, h⟩ := Option.bind_eq_some_iff.1 h
    cases h; cases hz
    exact one _ rfl rfl
  | chan dir e =>
    simp only [Made.reckon] at h
    obtain ⟨j, hj, h⟩ := Option.bind_eq_some_iff.1 h
    obtain ⟨s, hs, h⟩ := Option.bind_eq_some_iff.1 h
    cases h; cases hz
    exact one _ rfl rfl
  | func ps rs va =>
    simp only [Made.reckon] at h
    obtain ⟨s, hs, h⟩ := Option.bind_eq_some_iff.1 h
    cases h; cases hz
    exact one _ rfl rfl
  | array n e =>
    simp only [Made.reckon] at h
    obtain ⟨j, hj, h⟩ := Option.bind_eq_some_iff.1 h
    obtain ⟨s, hs, h⟩ := Option.bind_eq_some_iff.1 h
    cases h
    dsimp only at hz
    split at hz
    · cases hz
    · split at hz
      · cases hz
        intro x hx
        simp [Value.cells] at hx
      · cases hj2 : j.zero with
        | none => rw [hj2] at hz; cases hz
        | some z =>
          rw [hj2] at hz
          cases hz
          intro x hx
          have hx : x ∈ ((Array.replicate n z.cells).flatten).toList := hx
          generalize hc : z.cells = c at hx
          simp at hx
          obtain ⟨_, ⟨_, rfl⟩, hx⟩ := hx
          exact hi _ _ _ hj hj2 x (by rw [hc]; exact hx)
  | struct fs =>
    simp only [Made.reckon] at h
    unfold Made.reckonStruct at h
    obtain ⟨p, hp, h⟩ := Option.bind_eq_some_iff.1 h
    have fin : ∀ arr, p.2.2.2.2.2.2.2.1 = some arr → ∀ x ∈ arr.toList, EX.closed 63 x = true := by
      rw [← Array.forIn_toList] at hp
      refine forIn_keeps _ (fun s => ∀ arr, s.2.2.2.2.2.2.2.1 = some arr → ∀ x ∈ arr.toList, EX.closed 63 x = true) (fun a b r hb hf => ?_) fs.toList _ (fun arr ha x hx => ?_) p hp
      · obtain ⟨j, hj, hf⟩ := Option.bind_eq_some_iff.1 hf
        dsimp only at hf
        have key : ∀ z : Option (Array Value), (z = if b.2.1 + j.size > Made.mostCells then none else (b.2.2.2.2.2.2.2.1.bind fun u => j.zero.bind fun t => some (u ++ t.cells))) → ∀ arr, z = some arr → ∀ x ∈ arr.toList, EX.closed 63 x = true := fun z e arr ha x hx => by
          rw [ha] at e
          split at e
          · cases e
          · obtain ⟨u, hu, e⟩ := Option.bind_eq_some_iff.1 e.symm
            obtain ⟨t, ht, e⟩ := Option.bind_eq_some_iff.1 e
            cases e
            rw [Array.toList_append, List.mem_append] at hx
            rcases hx with hx | hx
            · exact hb u hu x hx
            · exact hi _ _ _ hj ht x hx
        split at hf
        · cases hf
        · split at hf
          · cases hf
          · split at hf
            · obtain ⟨tag, htag, hf⟩ := Option.bind_eq_some_iff.1 hf
              split at hf <;> (cases hf; exact key _ rfl)
            · obtain ⟨tag, htag, hf⟩ := Option.bind_eq_some_iff.1 hf
              split at hf <;> (cases hf; exact key _ rfl)
      · cases ha
        simp at hx
    dsimp only at h
    have hv : ∀ z : Option (Array Value), z = p.2.2.2.2.2.2.2.1 → (z.map Value.agg) = some v → GZ v := fun z e k => by
      cases z with
      | none => cases k
      | some arr => cases k; exact fun x hx => fin arr e.symm x hx
    split at h <;> (cases h; exact hv _ rfl hz)
  | _ => cases h
theorem made_zero {T : Tables} (hT : ∀ (t : Nat) i v, T.types[t]? = some i → i.zero = some v → GZ v) : ∀ (f : Nat) (t : TypeId) (i : TypeInfo) (v : Value), Made.infoAt T f t = some i → i.zero = some v → GZ v
  | 0, _, _, _, h, _ => by cases h
  | f + 1, t, i, v, h, hz => by
    unfold Made.infoAt at h
    split at h
    · exact hT t i v h hz
    · obtain ⟨d, _, h⟩ := Option.bind_eq_some_iff.1 h
      exact reckon_zero (made_zero hT f) h hz
theorem zeros_of {T : Tables} (hT : ∀ (t : Nat) i v, T.types[t]? = some i → i.zero = some v → GZ v) {t : TypeId} {i : TypeInfo} {v : Value} (h : T.info? t = some i) (hz : i.zero = some v) : EX.closed 64 v = true := by
  unfold Tables.info? at h
  split at h
  · exact (hT t i v h hz).closed
  · exact (made_zero hT _ t i v h hz).closed
end Go.Proofs.YtmjblbgalkjmiaaGreat.EX
