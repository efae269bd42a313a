/- Two ends and what is under way between them, as it is told: what comes is what was sent. -/
import Derived.Test.YtlfanecaglbomaaEH7
namespace Go.Proofs.Ytlfanecaglbomaa
open Go.RowKit
structure SE where
  ai : Int
  an : Int
  bi : Int
  bn : Int
  tx : List Nat
def isP (ai an bi bn : Int) (y : SE) : Bool := decide ((y.ai = ai ∧ y.an = an) ∧ y.bi = bi ∧ y.bn = bn)
def fil (l : List SE) (ai an bi bn : Int) : List (List Nat) := (l.filter (isP ai an bi bn)).map (·.tx)
theorem yd (l r : List SE) (ai an bi bn : Int) : fil (l ++ r) ai an bi bn = fil l ai an bi bn ++ fil r ai an bi bn := by
  unfold fil
  rw [List.filter_append, List.map_append]
theorem vA (y : SE) : fil [y] y.ai y.an y.bi y.bn = [y.tx] := by
  unfold fil
  rw [List.filter_cons_of_pos (by simp [isP])]
  rfl
theorem yJ {l : List SE} {ai an bi bn : Int} (h : ∀ y ∈ l, ¬((y.ai = ai ∧ y.an = an) ∧ y.bi = bi ∧ y.bn = bn)) : fil l ai an bi bn = [] := by
  unfold fil
  rw [List.filter_eq_nil_iff.2 (fun y hy => by rw [isP, decide_eq_true_iff]; exact h y hy)]
  rfl
structure SD where
  x : ES
  way : List PF
  n : Nat
  st : List SE
  gt : List SE
def SD.new : SD := ⟨ES.new, [], 0, [], []⟩
structure Old (n : Nat) (x : ES) (y : SE) : Prop where
  i : y.ai = 1
  lo : 1 ≤ y.an
  hi : y.an ≤ (n : Int)
  pe : x.up = true → y.an = (n : Int) → lessN x.pi x.pn y.bi y.bn = false
structure Own (n : Nat) (x : ES) (S G : List SE) : Prop where
  num : x.up = true → x.mi = 1 ∧ x.mn = (n : Int) ∧ 1 ≤ n
  dn : x.up = false → x = ES.new
  st : ∀ y ∈ S, Old n x y
  gt : ∀ y ∈ G, Old n x y
  win : (fil S x.mi x.mn x.pi x.pn).drop x.k = x.q
  kl : x.k ≤ (fil S x.mi x.mn x.pi x.pn).length
  got : (fil G x.mi x.mn x.pi x.pn).length = x.c
def Fits (st : List SE) (f : PF) : Prop := f.kind = 2 → ∃ j : Nat, f.n = (j : Int) + 1 ∧ (fil st f.fi f.fn f.ti f.tn)[j]? = some f.tx
structure Lnk (S : List SE) (W : List PF) (G : List SE) : Prop where
  way : ∀ f ∈ W, Fits S f
  pre : ∀ ai an bi bn, fil G ai an bi bn <+: fil S bi bn ai an
theorem Own.new : Own 0 ES.new [] [] := ⟨fun h => by (cases h), fun _ => rfl, fun _ h => by (cases h), fun _ h => by (cases h), rfl, Nat.zero_le _, rfl⟩
theorem Lnk.new : Lnk [] [] [] := ⟨fun _ h => by (cases h), fun _ _ _ _ => List.prefix_refl _⟩
theorem uk (a b : Int) : lessN a b a b = false := by simp [lessN]
theorem Je {a b c d e f : Int} (h1 : lessN a b e f = false) (h2 : lessN a b c d = true) : lessN c d e f = false ∧ ¬(e = c ∧ f = d) := by
  have k1 : ¬((a = e ∧ b < f) ∨ (a ≠ e ∧ a < e)) := by
    unfold lessN at h1
    split at h1
    · have := of_decide_eq_false h1; omega
    · have := of_decide_eq_false h1; omega
  have k2 : (a = c ∧ b < d) ∨ (a ≠ c ∧ a < c) := by
    unfold lessN at h2
    split at h2
    · have := of_decide_eq_true h2; omega
    · have := of_decide_eq_true h2; omega
  refine ⟨?_, by omega⟩
  unfold lessN
  split <;> exact decide_eq_false (by omega)
theorem Own.up {n : Nat} {x : ES} {st gt : List SE} (h : Own n x st gt) (ho : x.op = true) : x.up = true := by
  cases hu : x.up
  · rw [h.dn hu] at ho
    cases ho
  · rfl
theorem Old.later {n : Nat} {x : ES} {y : SE} (h : Old n x y) (x' : ES) : Old (n + 1) x' y := ⟨h.i, h.lo, by have := h.hi; omega, fun _ e => by have := h.hi; omega⟩
theorem Own.later {n : Nat} {x : ES} {st gt : List SE} (h : Own n x st gt) (bi bn : Int) : fil st 1 ((n + 1 : Nat) : Int) bi bn = [] ∧ fil gt 1 ((n + 1 : Nat) : Int) bi bn = [] :=
  ⟨yJ fun y hy e => by have := (h.st y hy).hi; have := e.1.2; omega, yJ fun y hy e => by have := (h.gt y hy).hi; have := e.1.2; omega⟩
theorem Own.rise {n : Nat} {x : ES} {st gt : List SE} (h : Own n x st gt) (id : Nat → Nat) (hu : x.up = false) : Own (n + 1) (riseS id x 1 ((n + 1 : Nat) : Int)).1 st gt := by
  have hx := h.dn hu
  subst hx
  have h1 := h.later 0 0
  exact ⟨fun _ => ⟨rfl, rfl, by omega⟩, fun h => by (cases h), fun y hy => (h.st y hy).later _, fun y hy => (h.gt y hy).later _, by show (fil st 1 ((n + 1 : Nat) : Int) 0 0).drop 0 = []; rw [h1.1]; rfl, Nat.zero_le _, by show (fil gt 1 ((n + 1 : Nat) : Int) 0 0).length = 0; rw [h1.2]; rfl⟩
theorem Own.fall {n : Nat} {x : ES} {st gt : List SE} (h : Own n x st gt) : Own n ES.new st gt := by
  have h1 : fil st 0 0 0 0 = [] := yJ fun y hy e => by have := (h.st y hy).i; have := e.1.1; omega
  have h2 : fil gt 0 0 0 0 = [] := yJ fun y hy e => by have := (h.gt y hy).i; have := e.1.1; omega
  exact ⟨fun h => by (cases h), fun _ => rfl, fun y hy => ⟨(h.st y hy).i, (h.st y hy).lo, (h.st y hy).hi, fun h => by (cases h)⟩, fun y hy => ⟨(h.gt y hy).i, (h.gt y hy).lo, (h.gt y hy).hi, fun h => by (cases h)⟩, by show (fil st 0 0 0 0).drop 0 = []; rw [h1]; rfl, Nat.zero_le _, by show (fil gt 0 0 0 0).length = 0; rw [h2]; rfl⟩
theorem Own.send {n : Nat} {x : ES} {st gt : List SE} (h : Own n x st gt) (ho : x.op = true) (l : List Nat) : Own n { x with q := x.q ++ [l] } (st ++ [⟨x.mi, x.mn, x.pi, x.pn, l⟩]) gt := by
  have hu := h.up ho
  have hn := h.num hu
  have e : fil (st ++ [⟨x.mi, x.mn, x.pi, x.pn, l⟩]) x.mi x.mn x.pi x.pn = fil st x.mi x.mn x.pi x.pn ++ [l] := by
    rw [yd]
    exact congrArg (_ ++ ·) (vA ⟨x.mi, x.mn, x.pi, x.pn, l⟩)
  refine ⟨h.num, fun hd => by (rw [hu] at hd; cases hd), fun y hy => ?_, fun y hy => ⟨(h.gt y hy).i, (h.gt y hy).lo, (h.gt y hy).hi, (h.gt y hy).pe⟩, ?_, ?_, h.got⟩
  · rcases List.mem_append.1 hy with hy | hy
    · exact ⟨(h.st y hy).i, (h.st y hy).lo, (h.st y hy).hi, (h.st y hy).pe⟩
    · cases List.mem_singleton.1 hy
      exact ⟨hn.1, by show 1 ≤ x.mn; omega, by show x.mn ≤ _; omega, fun _ _ => uk _ _⟩
  · show (fil _ x.mi x.mn x.pi x.pn).drop x.k = x.q ++ [l]
    rw [e, List.drop_append_of_le_length h.kl, h.win]
  · show x.k ≤ (fil _ x.mi x.mn x.pi x.pn).length
    rw [e, List.length_append]
    exact Nat.le_trans h.kl (Nat.le_add_right _ _)
theorem Own.len {n : Nat} {x : ES} {st gt : List SE} (h : Own n x st gt) : x.k + x.q.length = (fil st x.mi x.mn x.pi x.pn).length := by
  have h1 := h.kl
  have h2 := congrArg List.length h.win
  rw [List.length_drop] at h2
  omega
theorem Own.opn {n : Nat} {x : ES} {st gt : List SE} (h : Own n x st gt) (hu : x.up = true) : Own n { x with op := true } st gt :=
  ⟨h.num, fun hd => by (have : x.up = false := hd; rw [hu] at this; cases this), fun y hy => ⟨(h.st y hy).i, (h.st y hy).lo, (h.st y hy).hi, (h.st y hy).pe⟩, fun y hy => ⟨(h.gt y hy).i, (h.gt y hy).lo, (h.gt y hy).hi, (h.gt y hy).pe⟩, h.win, h.kl, h.got⟩
theorem Own.ack {n : Nat} {x : ES} {st gt : List SE} (h : Own n x st gt) (hu : x.up = true) (m : Int) : Own n (ackS x m) st gt := by
  unfold ackS
  split
  · rename_i hm
    have hl := h.len
    refine ⟨h.num, fun hd => by (have : x.up = false := hd; rw [hu] at this; cases this), fun y hy => ⟨(h.st y hy).i, (h.st y hy).lo, (h.st y hy).hi, (h.st y hy).pe⟩, fun y hy => ⟨(h.gt y hy).i, (h.gt y hy).lo, (h.gt y hy).hi, (h.gt y hy).pe⟩, ?_, ?_, h.got⟩
    · show (fil st x.mi x.mn x.pi x.pn).drop m.toNat = x.q.drop (m.toNat - x.k)
      rw [← h.win, List.drop_drop]
      congr 1
      omega
    · show m.toNat ≤ (fil st x.mi x.mn x.pi x.pn).length
      omega
  · exact h
def cnt (n : Nat) (x y : ES) : Nat := if y.mi = x.mi ∧ y.mn = x.mn then n else n + 1
def gets (gt : List SE) (r : ES × PT) : List SE := if r.2.came = true then gt ++ [⟨r.1.mi, r.1.mn, r.1.pi, r.1.pn, r.2.tx⟩] else gt
theorem vW {n : Nat} {x y : ES} (h1 : y.mi = x.mi) (h2 : y.mn = x.mn) : cnt n x y = n := if_pos ⟨h1, h2⟩
theorem vq {n : Nat} {x y : ES} {st gt : List SE} (h1 : y.mi = x.mi) (h2 : y.mn = x.mn) (h : Own n y st gt) : Own (cnt n x y) y st gt := by
  rw [vW h1 h2]
  exact h
theorem yn (id : Nat → Nat) (x : ES) : (greetF id x).kind ≠ 2 := by
  show (1 : Int) ≠ 2
  decide
theorem Jq (x : ES) : (ackF x).kind ≠ 2 := by
  show (3 : Int) ≠ 2
  decide
theorem Own.anew {n : Nat} {x : ES} {st gt : List SE} (h : Own n x st gt) (hu : x.up = true) (m : PF) (hl : lessN x.pi x.pn m.fi m.fn = true) : Own (cnt n x (anewS x m 1 ((n + 1 : Nat) : Int))) (anewS x m 1 ((n + 1 : Nat) : Int)) st gt := by
  have hn := h.num hu
  cases ho : x.op
  · have e : anewS x m 1 ((n + 1 : Nat) : Int) = ⟨x.up, false, x.mi, x.mn, m.fi, m.fn, m.a, 0, [], 0⟩ := by unfold anewS; rw [ho]; rfl
    rw [e]
    refine vq rfl rfl ?_
    have h3 : ∀ y, Old n x y → lessN m.fi m.fn y.bi y.bn = false ∧ ¬(y.bi = m.fi ∧ y.bn = m.fn) ∨ y.an ≠ (n : Int) := fun y hy => by
      by_cases e : y.an = (n : Int)
      · exact .inl (Je (hy.pe hu e) hl)
      · exact .inr e
    have h4 : ∀ l : List SE, (∀ y ∈ l, Old n x y) → fil l x.mi x.mn m.fi m.fn = [] := fun l hl => yJ fun y hy e => by
      rcases h3 y (hl y hy) with h5 | h5
      · exact h5.2 e.2
      · exact h5 (e.1.2.trans hn.2.1)
    have h5 : ∀ l : List SE, (∀ y ∈ l, Old n x y) → ∀ y ∈ l, Old n ⟨x.up, false, x.mi, x.mn, m.fi, m.fn, m.a, 0, [], 0⟩ y := fun l hl y hy => ⟨(hl y hy).i, (hl y hy).lo, (hl y hy).hi, fun _ e => by
      rcases h3 y (hl y hy) with h6 | h6
      · exact h6.1
      · exact absurd e h6⟩
    exact ⟨h.num, fun hd => by (have : x.up = false := hd; rw [hu] at this; cases this), h5 _ h.st, h5 _ h.gt, by show (fil st x.mi x.mn m.fi m.fn).drop 0 = []; rw [h4 _ h.st]; rfl, Nat.zero_le _, by show (fil gt x.mi x.mn m.fi m.fn).length = 0; rw [h4 _ h.gt]; rfl⟩
  · have e : anewS x m 1 ((n + 1 : Nat) : Int) = ⟨x.up, false, 1, ((n + 1 : Nat) : Int), m.fi, m.fn, m.a, 0, [], 0⟩ := by unfold anewS; rw [ho]; rfl
    have e2 : cnt n x ⟨x.up, false, 1, ((n + 1 : Nat) : Int), m.fi, m.fn, m.a, 0, [], 0⟩ = n + 1 := if_neg fun h => by have := h.2; simp only at this; omega
    rw [e, e2]
    have h1 := h.later m.fi m.fn
    exact ⟨fun _ => ⟨rfl, rfl, by omega⟩, fun hd => by (have : x.up = false := hd; rw [hu] at this; cases this), fun y hy => (h.st y hy).later _, fun y hy => (h.gt y hy).later _, by show (fil st 1 ((n + 1 : Nat) : Int) m.fi m.fn).drop 0 = []; rw [h1.1]; rfl, Nat.zero_le _, by show (fil gt 1 ((n + 1 : Nat) : Int) m.fi m.fn).length = 0; rw [h1.2]; rfl⟩
theorem JV {n : Nat} {x : ES} {st gt : List SE} (h : Own n x st gt) (hu : x.up = true) (id : Nat → Nat) (d : Bool) (m : PF) : Own n (metS id d x m).1 st gt := by
  unfold metS
  split
  · split
    · exact h
    · exact h.opn hu
  · exact h
theorem yU (id : Nat → Nat) (d : Bool) (x : ES) (m : PF) : (metS id d x m).1.mi = x.mi ∧ (metS id d x m).1.mn = x.mn ∧ (metS id d x m).2.came = false := by
  unfold metS
  split
  · split <;> exact ⟨rfl, rfl, rfl⟩
  · exact ⟨rfl, rfl, rfl⟩
theorem uL {gt : List SE} {r : ES × PT} (h : r.2.came = false) : gets gt r = gt := by
  unfold gets
  rw [h]
  rfl
theorem Own.hear {n : Nat} {x : ES} {st gt : List SE} (h : Own n x st gt) (id : Nat → Nat) (m : PF) : Own (cnt n x (hearS id x m 1 ((n + 1 : Nat) : Int)).1) (hearS id x m 1 ((n + 1 : Nat) : Int)).1 st (gets gt (hearS id x m 1 ((n + 1 : Nat) : Int))) := by
  have h0 : Own (cnt n x x) x st gt := by rw [vW rfl rfl]; exact h
  unfold hearS
  split
  · rename_i hu
    split
    · unfold helloS
      split
      · exact h0
      · split
        · rename_i hl
          have h1 := h.anew hu m hl
          have h2 := JV h1 (show (anewS x m 1 ((n + 1 : Nat) : Int)).up = true from hu) id x.op m
          have h3 := yU id x.op (anewS x m 1 ((n + 1 : Nat) : Int)) m
          rw [uL h3.2.2]
          unfold cnt at h2 ⊢
          rw [h3.1, h3.2.1]
          exact h2
        · have h2 := JV h hu id false m
          have h3 := yU id false x m
          rw [uL h3.2.2, vW h3.1 h3.2.1]
          exact h2
    · split
      · split
        · unfold cameS
          split
          · have e : fil (gt ++ [⟨x.mi, x.mn, x.pi, x.pn, m.tx⟩]) x.mi x.mn x.pi x.pn = fil gt x.mi x.mn x.pi x.pn ++ [m.tx] := by
              rw [yd]
              exact congrArg (_ ++ ·) (vA ⟨x.mi, x.mn, x.pi, x.pn, m.tx⟩)
            have hn := h.num hu
            refine vq rfl rfl ?_
            refine ⟨h.num, fun hd => by (have : x.up = false := hd; rw [hu] at this; cases this), fun y hy => ⟨(h.st y hy).i, (h.st y hy).lo, (h.st y hy).hi, (h.st y hy).pe⟩, fun y hy => ?_, h.win, h.kl, ?_⟩
            · rcases List.mem_append.1 (show y ∈ gt ++ [⟨x.mi, x.mn, x.pi, x.pn, m.tx⟩] from hy) with hy | hy
              · exact ⟨(h.gt y hy).i, (h.gt y hy).lo, (h.gt y hy).hi, (h.gt y hy).pe⟩
              · cases List.mem_singleton.1 hy
                exact ⟨hn.1, by show 1 ≤ x.mn; omega, by show x.mn ≤ _; omega, fun _ _ => uk _ _⟩
            · show (fil (gt ++ [⟨x.mi, x.mn, x.pi, x.pn, m.tx⟩]) x.mi x.mn x.pi x.pn).length = x.c + 1
              rw [e, List.length_append, h.got]
              rfl
          · exact vq rfl rfl (h.opn hu)
        · exact h0
      · split
        · split
          · have h1 : ∀ y : ES, (ackS y m.n).mi = y.mi ∧ (ackS y m.n).mn = y.mn := fun y => by unfold ackS; split <;> exact ⟨rfl, rfl⟩
            exact vq (h1 _).1 (h1 _).2 ((h.opn hu).ack hu m.n)
          · exact h0
        · exact h0
  · exact h0
theorem JS {α : Type} {a b : List α} (h : a <+: b) {j : Nat} {x : α} (hx : a[j]? = some x) : b[j]? = some x := by
  obtain ⟨t, rfl⟩ := h
  rw [List.getElem?_append_left (by have := (List.getElem?_eq_some_iff.1 hx).1; exact this)]
  exact hx
theorem Za (l r : List SE) (ai an bi bn : Int) : fil l ai an bi bn <+: fil (l ++ r) ai an bi bn := by
  rw [yd]
  exact List.prefix_append _ _
theorem Fits.more {st : List SE} {f : PF} (h : Fits st f) (r : List SE) : Fits (st ++ r) f := fun hk => by
  obtain ⟨j, h1, h2⟩ := h hk
  exact ⟨j, h1, JS (Za _ _ _ _ _ _) h2⟩
theorem Lnk.more {st : List SE} {way : List PF} {gt : List SE} (h : Lnk st way gt) (r : List SE) : Lnk (st ++ r) way gt := ⟨fun f hf => (h.way f hf).more r, fun ai an bi bn => (h.pre ai an bi bn).trans (Za _ _ _ _ _ _)⟩
theorem Lnk.ways {st : List SE} {way : List PF} {gt : List SE} (h : Lnk st way gt) {way' : List PF} (hw : ∀ f ∈ way', f ∈ way ∨ Fits st f) : Lnk st way' gt := ⟨fun f hf => (hw f hf).elim (h.way f) fun x => x, h.pre⟩
theorem vr {st : List SE} {f : PF} (h : f.kind ≠ 2) : Fits st f := fun e => absurd e h
theorem Zj (st : List SE) (id : Nat → Nat) (x : ES) (i n : Int) : ∀ f ∈ (riseS id x i n).2, Fits st f := by
  unfold riseS
  split
  · exact fun f hf => by cases hf
  · exact fun f hf => by cases List.mem_singleton.1 hf; exact vr (yn _ _)
theorem vE (st : List SE) (x : ES) : ∀ (q : List (List Nat)) (n : Nat), (∀ j (hj : j < q.length), (fil st x.mi x.mn x.pi x.pn)[n + j]? = some q[j]) → ∀ f ∈ ticksF x (n + 1) q, Fits st f
  | [], _, _ => fun f hf => by cases hf
  | l :: q, n, h => fun f hf => by
    rw [ticksF] at hf
    rcases List.mem_cons.1 hf with rfl | hf
    · exact fun _ => ⟨n, by simp [dataF], h 0 (by simp)⟩
    · refine vE st x q (n + 1) (fun j hj => ?_) f hf
      have := h (j + 1) (by simp only [List.length_cons]; omega)
      rw [List.getElem_cons_succ] at this
      rw [← this]
      congr 1
      omega
theorem Zd {n : Nat} {x : ES} {st gt : List SE} (h : Own n x st gt) (id : Nat → Nat) : ∀ f ∈ tickS id x, Fits st f := by
  unfold tickS
  split
  · split
    · refine vE st x x.q x.k fun j hj => ?_
      have h1 := h.win
      rw [← List.getElem?_drop, h1]
      exact List.getElem?_eq_getElem hj
    · exact fun f hf => by cases List.mem_singleton.1 hf; exact vr (yn _ _)
  · exact fun f hf => by cases hf
theorem Zf {n : Nat} {x : ES} {st gt : List SE} (h : Own n x st gt) (l : List Nat) : Fits (st ++ [⟨x.mi, x.mn, x.pi, x.pn, l⟩]) (dataF x ((x.k + (x.q.length + 1) : Nat) : Int) l) := fun _ => by
  have hl := h.len
  refine ⟨x.k + x.q.length, by simp only [dataF]; omega, ?_⟩
  show (fil (st ++ [⟨x.mi, x.mn, x.pi, x.pn, l⟩]) x.mi x.mn x.pi x.pn)[x.k + x.q.length]? = some l
  rw [yd, vA ⟨x.mi, x.mn, x.pi, x.pn, l⟩, hl, List.getElem?_append_right (Nat.le_refl _), Nat.sub_self]
  rfl
theorem uj (id : Nat → Nat) (d : Bool) (x : ES) (m : PF) : ∀ f ∈ (metS id d x m).2.out, f.kind ≠ 2 := by
  unfold metS
  split
  · split
    · exact fun f hf => by cases List.mem_singleton.1 hf; first | exact yn _ _ | exact Jq _
    · exact fun f hf => by cases List.mem_singleton.1 hf; first | exact yn _ _ | exact Jq _
  · exact fun f hf => by cases List.mem_singleton.1 hf; first | exact yn _ _ | exact Jq _
theorem JE (id : Nat → Nat) (x : ES) (m : PF) (ni nn : Int) : ∀ f ∈ (hearS id x m ni nn).2.out, f.kind ≠ 2 := by
  have h0 : ∀ f ∈ PT.no.out, f.kind ≠ 2 := fun f hf => by cases hf
  unfold hearS
  split
  · split
    · unfold helloS
      split
      · exact h0
      · split
        · exact uj _ _ _ _
        · exact uj _ _ _ _
    · split
      · split
        · unfold cameS
          split
          · exact fun f hf => by cases List.mem_singleton.1 hf; first | exact yn _ _ | exact Jq _
          · exact fun f hf => by cases List.mem_singleton.1 hf; first | exact yn _ _ | exact Jq _
        · exact h0
      · split
        · split
          · exact fun f hf => by cases hf
          · exact h0
        · exact h0
  · exact h0
theorem Lnk.hear {n : Nat} {x : ES} {st gt rst : List SE} {way : List PF} (h : Lnk rst way gt) (o : Own n x st gt) (id : Nat → Nat) (m : PF) (hm : m ∈ way) (ni nn : Int) : Lnk rst way (gets gt (hearS id x m ni nn)) := by
  have hno : ∀ r : ES × PT, r.2.came = false → Lnk rst way (gets gt r) := fun r hr => by rw [uL hr]; exact h
  unfold hearS
  split
  · split
    · unfold helloS
      split
      · exact hno _ rfl
      · split
        · exact hno _ (yU _ _ _ _).2.2
        · exact hno _ (yU _ _ _ _).2.2
    · split
      · rename_i hk
        split
        · rename_i hw
          unfold cameS
          split
          · rename_i hc
            obtain ⟨j, h1, h2⟩ := h.way m hm hk
            rw [hw.1.1, hw.1.2, hw.2.1, hw.2.2] at h2
            have hj : j = x.c := by omega
            subst hj
            refine ⟨h.way, fun ai an bi bn => ?_⟩
            show fil (gt ++ [⟨x.mi, x.mn, x.pi, x.pn, m.tx⟩]) ai an bi bn <+: _
            by_cases e : (x.mi = ai ∧ x.mn = an) ∧ x.pi = bi ∧ x.pn = bn
            · obtain ⟨⟨rfl, rfl⟩, rfl, rfl⟩ := e
              rw [yd, vA ⟨x.mi, x.mn, x.pi, x.pn, m.tx⟩]
              obtain ⟨t, ht⟩ := h.pre x.mi x.mn x.pi x.pn
              rw [← ht, List.getElem?_append_right (by rw [o.got]; exact Nat.le_refl _), o.got, Nat.sub_self] at h2
              cases t with
              | nil => cases h2
              | cons a t =>
                have h3 : a = m.tx := by simpa using h2
                rw [← ht, h3]
                exact ⟨t, by simp⟩
            · rw [yd, yJ (l := [⟨x.mi, x.mn, x.pi, x.pn, m.tx⟩]) (fun y hy => by cases List.mem_singleton.1 hy; exact e), List.append_nil]
              exact h.pre ai an bi bn
          · exact hno _ rfl
        · exact hno _ rfl
      · split
        · split
          · exact hno _ rfl
          · exact hno _ rfl
        · exact hno _ rfl
  · exact hno _ rfl
end Go.Proofs.Ytlfanecaglbomaa
