/- What holds of the talk, whatever happens. -/
import Derived.Test.YtlfanecaglbomaaEO6
namespace Go.Proofs.Ytlfanecaglbomaa
open Go.RowKit
structure SdI (N n : Nat) (x : ES) (f : List (PF × Fr)) (S G : List SE) : Prop where
  own : Own n x S G
  bd : Bd N x
  n : n ≤ N
  ls : S.length ≤ N
  lg : G.length ≤ N
  fl : f.length ≤ 200
  tx : ∀ y ∈ f.map (·.1), y.tx.length ≤ 4096
  q : ∀ l ∈ x.q, l.length ≤ 4096
structure Inv (N n0 : Nat) (x0 : ES) (f0 : List (PF × Fr)) (s0 r0 : List SE) (n1 : Nat) (x1 : ES) (f1 : List (PF × Fr)) (s1 r1 : List SE) : Prop where
  a : SdI N n0 x0 f0 s0 r0
  b : SdI N n1 x1 f1 s1 r1
  u : Lnk s0 (f1.map (·.1)) r1
  v : Lnk s1 (f0.map (·.1)) r0
theorem SdI.new : SdI 0 0 ES.new [] [] [] := ⟨Own.new, Bd.new _, Nat.le_refl _, Nat.le_refl _, Nat.le_refl _, Nat.zero_le _, (fun _ h => by cases h), (fun _ h => by cases h)⟩
theorem Inv.new : Inv 0 0 ES.new [] [] [] 0 ES.new [] [] [] := ⟨SdI.new, SdI.new, Lnk.new, Lnk.new⟩
theorem SdI.mono {N n : Nat} {x : ES} {f : List (PF × Fr)} {S G : List SE} (h : SdI N n x f S G) : SdI (N + 1) n x f S G := ⟨h.own, h.bd.mono (Nat.le_succ _), Nat.le_succ_of_le h.n, Nat.le_succ_of_le h.ls, Nat.le_succ_of_le h.lg, h.fl, h.tx, h.q⟩
section
variable {N n0 n1 : Nat} {x0 x1 : ES} {f0 f1 g : List (PF × Fr)} {s0 r0 s1 r1 : List SE}
theorem Inv.swap (h : Inv N n0 x0 f0 s0 r0 n1 x1 f1 s1 r1) : Inv N n1 x1 f1 s1 r1 n0 x0 f0 s0 r0 := ⟨h.b, h.a, h.v, h.u⟩
theorem Inv.mono (h : Inv N n0 x0 f0 s0 r0 n1 x1 f1 s1 r1) : Inv (N + 1) n0 x0 f0 s0 r0 n1 x1 f1 s1 r1 := ⟨h.a.mono, h.b.mono, h.u, h.v⟩
theorem SdI.way {x : ES} {n : Nat} {f : List (PF × Fr)} {S G : List SE} (h : SdI N n x f S G) {ms : List PF} (hg : g.length ≤ 200) (hm : ∀ z ∈ g.map (·.1), z ∈ f.map (·.1) ∨ z ∈ ms) (ht : ∀ z ∈ ms, z.tx.length ≤ 4096) : SdI N n x g S G :=
  ⟨h.own, h.bd, h.n, h.ls, h.lg, hg, fun z hz => (hm z hz).elim (h.tx z) (ht z), h.q⟩
theorem Lnk.way2 {S G : List SE} {f : List (PF × Fr)} (h : Lnk S (f.map (·.1)) G) {ms : List PF} (hm : ∀ z ∈ g.map (·.1), z ∈ f.map (·.1) ∨ z ∈ ms) (hf : ∀ z ∈ ms, Fits S z) : Lnk S (g.map (·.1)) G :=
  h.ways fun z hz => (hm z hz).imp (fun h => h) (hf z)
theorem Inv.rise (h : Inv N n0 x0 f0 s0 r0 n1 x1 f1 s1 r1) (id : Nat → Nat) (hu : x0.up = false) (hg : g.length ≤ 200) (hm : ∀ z ∈ g.map (·.1), z ∈ f1.map (·.1) ∨ z ∈ (riseS id x0 1 ((n0 + 1 : Nat) : Int)).2) : Inv (N + 1) (n0 + 1) (riseS id x0 1 ((n0 + 1 : Nat) : Int)).1 f0 s0 r0 n1 x1 g s1 r1 := by
  have e : (riseS id x0 1 ((n0 + 1 : Nat) : Int)).1.q = x0.q := by
    unfold riseS
    split <;> rfl
  have ht : ∀ z ∈ (riseS id x0 1 ((n0 + 1 : Nat) : Int)).2, z.tx.length ≤ 4096 := by
    unfold riseS
    split
    · exact fun z hz => by cases hz
    · exact fun z hz => by cases List.mem_singleton.1 hz; exact Nat.zero_le _
  exact ⟨⟨h.a.own.rise id hu, (h.a.bd.rise id _ _).mono (Nat.le_succ _), Nat.succ_le_succ h.a.n, Nat.le_succ_of_le h.a.ls, Nat.le_succ_of_le h.a.lg, h.a.fl, h.a.tx, by rw [e]; exact h.a.q⟩, h.b.mono.way hg hm ht, h.u.way2 hm (Zj _ _ _ _ _), h.v⟩
theorem Inv.fall (h : Inv N n0 x0 f0 s0 r0 n1 x1 f1 s1 r1) : Inv (N + 1) n0 ES.new f0 s0 r0 n1 x1 f1 s1 r1 :=
  ⟨⟨h.a.own.fall, Bd.new _, Nat.le_succ_of_le h.a.n, Nat.le_succ_of_le h.a.ls, Nat.le_succ_of_le h.a.lg, h.a.fl, h.a.tx, fun _ h => by cases h⟩, h.b.mono, h.u, h.v⟩
theorem uV (x : ES) : ∀ (q : List (List Nat)) (n : Nat), (∀ l ∈ q, l.length ≤ 4096) → ∀ z ∈ ticksF x n q, z.tx.length ≤ 4096
  | [], _, _ => fun z hz => by cases hz
  | l :: q, n, h => fun z hz => by
    rw [ticksF] at hz
    rcases List.mem_cons.1 hz with rfl | hz
    · exact h l List.mem_cons_self
    · exact uV x q (n + 1) (fun y hy => h y (List.mem_cons_of_mem _ hy)) z hz
theorem Inv.tick (h : Inv N n0 x0 f0 s0 r0 n1 x1 f1 s1 r1) (id : Nat → Nat) (hg : g.length ≤ 200) (hm : ∀ z ∈ g.map (·.1), z ∈ f1.map (·.1) ∨ z ∈ tickS id x0) : Inv (N + 1) n0 x0 f0 s0 r0 n1 x1 g s1 r1 := by
  have ht : ∀ z ∈ tickS id x0, z.tx.length ≤ 4096 := by
    unfold tickS
    split
    · split
      · exact uV _ _ _ h.a.q
      · exact fun z hz => by cases List.mem_singleton.1 hz; exact Nat.zero_le _
    · exact fun z hz => by cases hz
  exact ⟨h.a.mono, h.b.mono.way hg hm ht, h.u.way2 hm (Zd h.a.own id), h.v⟩
theorem Inv.send (h : Inv N n0 x0 f0 s0 r0 n1 x1 f1 s1 r1) (l : List Nat) (ho : x0.op = true) (hl : l.length ≤ 4096) (hg : g.length ≤ 200) (hm : ∀ z ∈ g.map (·.1), z ∈ f1.map (·.1) ∨ z ∈ [dataF x0 ((x0.k + (x0.q.length + 1) : Nat) : Int) l, PF.zero]) : Inv (N + 1) n0 { x0 with q := x0.q ++ [l] } f0 (s0 ++ [sEnt x0 l]) r0 n1 x1 g s1 r1 := by
  have hb : Bd (N + 1) { x0 with q := x0.q ++ [l] } := by
    have := h.a.bd.send l
    unfold sendS at this
    rw [if_pos ho, if_neg (by omega)] at this
    exact this
  have ht : ∀ z ∈ [dataF x0 ((x0.k + (x0.q.length + 1) : Nat) : Int) l, PF.zero], z.tx.length ≤ 4096 := fun z hz => by
    rcases List.mem_cons.1 hz with rfl | hz
    · exact hl
    · cases List.mem_singleton.1 hz
      exact Nat.zero_le _
  refine ⟨⟨h.a.own.send ho l, hb, Nat.le_succ_of_le h.a.n, ?_, Nat.le_succ_of_le h.a.lg, h.a.fl, h.a.tx, fun y hy => ?_⟩, h.b.mono.way hg hm ht, (h.u.more _).way2 hm (fun z hz => ?_), h.v⟩
  · rw [List.length_append]
    exact Nat.succ_le_succ h.a.ls
  · rcases List.mem_append.1 hy with hy | hy
    · exact h.a.q y hy
    · cases List.mem_singleton.1 hy
      exact hl
  · rcases List.mem_cons.1 hz with rfl | hz
    · exact Zf h.a.own l
    · cases List.mem_singleton.1 hz
      exact vr (by decide)
theorem vB {f : List (PF × Fr)} {m : Nat} : ∀ z ∈ (f.take m ++ f.drop (m + 1)).map (·.1), z ∈ f.map (·.1) := fun z hz => by
  obtain ⟨y, hy, rfl⟩ := List.mem_map.1 hz
  rcases List.mem_append.1 hy with hy | hy
  · exact List.mem_map_of_mem (List.mem_of_mem_take hy)
  · exact List.mem_map_of_mem (List.mem_of_mem_drop hy)
theorem uP {f : List (PF × Fr)} {m : Nat} (h : f.length ≤ 200) : (f.take m ++ f.drop (m + 1)).length ≤ 200 := by
  rw [List.length_append, List.length_take, List.length_drop]
  omega
theorem Inv.less (h : Inv N n0 x0 f0 s0 r0 n1 x1 f1 s1 r1) (hg : g.length ≤ 200) (hm : ∀ z ∈ g.map (·.1), z ∈ f0.map (·.1)) : Inv N n0 x0 g s0 r0 n1 x1 f1 s1 r1 :=
  ⟨h.a.way (ms := []) hg (fun z hz => .inl (hm z hz)) (fun _ h => by cases h), h.b, h.u, h.v.way2 (ms := []) (fun z hz => .inl (hm z hz)) (fun _ h => by cases h)⟩
theorem hear_q (id : Nat → Nat) (x : ES) (m : PF) (ni nn : Int) (h : ∀ l ∈ x.q, l.length ≤ 4096) : ∀ l ∈ (hearS id x m ni nn).1.q, l.length ≤ 4096 := by
  have h1 : ∀ d y, (∀ l ∈ y.q, l.length ≤ 4096) → ∀ l ∈ (metS id d y m).1.q, l.length ≤ 4096 := fun d y hy => by
    unfold metS
    split
    · split <;> exact hy
    · exact hy
  have h2 : ∀ y : ES, (∀ l ∈ y.q, l.length ≤ 4096) → ∀ l ∈ (ackS y m.n).q, l.length ≤ 4096 := fun y hy => by
    unfold ackS
    split
    · exact fun l hl => hy l (List.mem_of_mem_drop hl)
    · exact hy
  unfold hearS
  split
  · split
    · unfold helloS
      split
      · exact h
      · split
        · exact h1 _ _ (fun l hl => by cases hl)
        · exact h1 _ _ h
    · split
      · split
        · unfold cameS
          split <;> exact h
        · exact h
      · split
        · split
          · exact h2 _ h
          · exact h
        · exact h
  · exact h
theorem YP (id : Nat → Nat) (x : ES) (m : PF) (ni nn : Int) : ∀ z ∈ (hearS id x m ni nn).2.out, z.tx.length ≤ 4096 := by
  have h0 : ∀ z ∈ PT.no.out, z.tx.length ≤ 4096 := fun z hz => by cases hz
  have h1 : ∀ d y, ∀ z ∈ (metS id d y m).2.out, z.tx.length ≤ 4096 := fun d y => by
    unfold metS
    split
    · split <;> exact fun z hz => by cases List.mem_singleton.1 hz; exact Nat.zero_le _
    · exact fun z hz => by cases List.mem_singleton.1 hz; exact Nat.zero_le _
  unfold hearS
  split
  · split
    · unfold helloS
      split
      · exact h0
      · split
        · exact h1 _ _
        · exact h1 _ _
    · split
      · split
        · unfold cameS
          split <;> exact fun z hz => by cases List.mem_singleton.1 hz; exact Nat.zero_le _
        · exact h0
      · split
        · split
          · exact fun z hz => by cases hz
          · exact h0
        · exact h0
  · exact h0
theorem Yc (gt : List SE) (r : ES × PT) : (gets gt r).length ≤ gt.length + 1 := by
  unfold gets
  split
  · rw [List.length_append]
    exact Nat.le_refl _
  · exact Nat.le_succ _
theorem cnt_le (n : Nat) (x y : ES) : cnt n x y ≤ n + 1 := by
  unfold cnt
  split <;> omega
theorem Inv.come (h : Inv N n0 x0 f0 s0 r0 n1 x1 f1 s1 r1) (id : Nat → Nat) {m : Nat} {y : PF × Fr} (hy : f0[m]? = some y) (hg : g.length ≤ 200) (hm : ∀ z ∈ g.map (·.1), z ∈ f1.map (·.1) ∨ z ∈ (hearS id x0 y.1 1 ((n0 + 1 : Nat) : Int)).2.out) :
    Inv (N + 1) (cnt n0 x0 (hearS id x0 y.1 1 ((n0 + 1 : Nat) : Int)).1) (hearS id x0 y.1 1 ((n0 + 1 : Nat) : Int)).1 (f0.take m ++ f0.drop (m + 1)) s0 (gets r0 (hearS id x0 y.1 1 ((n0 + 1 : Nat) : Int))) n1 x1 g s1 r1 := by
  have hym : y.1 ∈ f0.map (·.1) := List.mem_map_of_mem (List.mem_of_getElem? hy)
  refine ⟨⟨h.a.own.hear id y.1, h.a.bd.hear id _ _ _, Nat.le_trans (cnt_le _ _ _) (Nat.succ_le_succ h.a.n), Nat.le_succ_of_le h.a.ls, Nat.le_trans (Yc _ _) (Nat.succ_le_succ h.a.lg), uP h.a.fl, fun z hz => h.a.tx z (vB z hz), hear_q _ _ _ _ _ h.a.q⟩, h.b.mono.way hg hm (YP _ _ _ _ _), h.u.way2 hm (fun z hz => vr (JE _ _ _ _ _ z hz)), ?_⟩
  exact (h.v.hear h.a.own id y.1 hym _ _).ways fun z hz => .inl (vB z hz)
end
end Go.Proofs.Ytlfanecaglbomaa
