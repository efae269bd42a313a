/- A frame comes. -/
import Derived.Test.YtlfanecaglbomaaEO5
namespace Go.Proofs.Ytlfanecaglbomaa
set_option maxRecDepth 100000
set_option maxHeartbeats 4000000
open Go.RowKit
def tvE2 (t : PT) : PostE := PostE.ex (fun v x => TV x t v) (fun _ _ _ G h => h.gro G)
theorem Ji (t : PT) (v : Value) : (tvE2 t).fill v = v := rfl
theorem Jf (id : Nat → Nat) (x : ES) (m : PF) (ni nn : Int) : (hearS id x m ni nn).2.out.length ≤ 1 := by
  have h1 : ∀ d y, (metS id d y m).2.out.length ≤ 1 := fun d y => by
    unfold metS
    split
    · split <;> simp
    · simp
  unfold hearS
  split
  · split
    · unfold helloS
      split
      · simp [PT.no]
      · split
        · exact h1 _ _
        · exact h1 _ _
    · split
      · split
        · unfold cameS
          split <;> simp
        · simp [PT.no]
      · split
        · split <;> simp [PT.no]
        · simp [PT.no]
  · simp [PT.no]
def zEnt (r : ES × PT) : SE := ⟨r.1.mi, r.1.mn, r.1.pi, r.1.pn, r.2.tx⟩
def sEnt (x : ES) (l : List Nat) : SE := ⟨x.mi, x.mn, x.pi, x.pn, l⟩
def bsE2 (M : Nat) (y : SE) : PostE := PostE.ex (fun v x => ∃ g : Nat, v = .slice (some ⟨g, 0, none⟩) 1 1 ∧ M ≤ g ∧ x.heap[g]? = some (.cells (c88 y.ai y.an y.bi y.bn (bas y.tx)) 88 (0, 0))) (fun _ _ _ G ⟨g, h1, h2, h3⟩ => ⟨g, h1, h2, G.has h3⟩)
theorem zQ (M : Nat) (y : SE) (v : Value) : (bsE2 M y).fill v = v := rfl
def asE (B M : Nat) (a : Option Addr) (l : List SE) : PostE := PostE.ex (fun v x => ∃ (a2 : Option Addr) (c2 : Nat), v = .slice a2 l.length c2 ∧ SR x B a2 c2 l ∧ Kept M a a2) (fun _ _ _ G ⟨a, c, h1, h2, h3⟩ => ⟨a, c, h1, h2.gro G, h3⟩)
theorem yc (B M : Nat) (a : Option Addr) (l : List SE) (v : Value) : (asE B M a l).fill v = v := rfl
theorem xc_se {w : World} {g : Nat} {y : SE} (hg : w.heap[g]? = some (.cells (c88 y.ai y.an y.bi y.bn (bas y.tx)) 88 (0, 0))) : XC w 5 (some ⟨g, 0, none⟩) 1 1 (seV y) := by
  refine ⟨rfl, Nat.le_refl _, fun h => by (cases h), fun ad ha j v hv => ?_, fun v hv => ?_⟩
  · cases ha
    rw [zA, Nat.zero_add, cell_of_row w g j _ 88 _ hg]
    simpa [seV] using hv
  · have h := co88 y.ai y.an y.bi y.bn (bas y.tx)
    exact Array.all_eq_true_iff_forall_mem.1 h v (by simpa [seV] using hv)
theorem yw {ops : Array Oper} {o : Oper} {A : Act} {x : World} (s y : Operand) (hw : Region.wanted o (yielded ops A.tmps) = true) (ho : o.op = .call { callee := .builtin .append, args := #[s, y], argTypes := #[80, 80] })
    {w : World} {B M : Nat} {a : Option Addr} {c : Nat} {l : List SE} (hL : SR w B a c l) (hM : w.heap.size = M) (hB : B ≤ M) (hq : l.length ≤ 10000) (G : Gro w x) (hs : A.eval s = .slice a l.length c) {z : SE} {v : Value} (hy : A.eval y = v) (hb : (bsE2 M z).p v x) :
    OpX Try.prog ops (fun z => GroS (blk a) x z) (asE B M a (l ++ [z])) o A x := by
  obtain ⟨g, rfl, h1, h2⟩ := hb
  have hsz := G.size
  refine vO rS _ hw s y ho hs (OY.gro hL G) hy (xc_se h2) (by omega) (by decide) (by omega) ?_
  intro a2 c2 w' hr G2 K
  refine ⟨a2, c2, by rw [List.length_append]; rfl, ?_, fun k hk => (K k hk).imp (fun h => h) (fun h => by omega)⟩
  have e : cellsS (l ++ [z]) = cellsS l ++ seV z := by rw [vX]; simp [cellsS]
  show OY w' 88 5 B a2 c2 (l ++ [z]).length (cellsS (l ++ [z]))
  rw [e, List.length_append]
  exact hr
theorem come0 (w0 w : World) (G0 : Gro w0 w) (tp : Nat) (q0 : Nat) (q1 : Nat) (id0 : Nat → Nat) (id1 : Nat → Nat) (x0 : ES) (x1 : ES) (n0 : Nat) (n1 : Nat) (a0 : Option Addr) (c0 : Nat) (f0 : List (PF × Fr)) (a1 : Option Addr) (c1 : Nat) (f1 : List (PF × Fr)) (b0 : Option Addr) (e0 : Nat) (s0 : List SE) (b1 : Option Addr) (e1 : Nat) (s1 : List SE) (d0 : Option Addr) (k0 : Nat) (r0 : List SE) (d1 : Option Addr) (k1 : Nat) (r1 : List SE) (H : Tk w0.heap.size w tp q0 q1 id0 id1 x0 x1 n0 n1 a0 c0 f0 a1 c1 f1 b0 e0 s0 b1 e1 s1 d0 k0 r0 d1 k1 r1) (m : Nat) (hmi : m < f0.length) (hfli : f0.length ≤ 200) (hflj : f1.length ≤ 200) (htx : ∀ y ∈ f0.map (·.1), y.tx.length ≤ 4096) (hk : x0.k + x0.q.length ≤ 1000) (hc : x0.c ≤ 1000) (hn : n0 ≤ 1000) (hgl : r0.length ≤ 10000) : Calls Try.prog 33 #[pK tp 0, iK 0, iK ((m : Nat) : Int)] w fun e w' => e = .returned (.tuple #[]) ∧ Gro w0 w' ∧ ∃ (y : PF × Fr), f0[m]? = some y ∧ ∃ (a : Option Addr) (c : Nat) (b : Option Addr) (e : Nat) (g : List (PF × Fr)) (d : Option Addr) (k : Nat), Tk w0.heap.size w' tp q0 q1 id0 id1 (hearS id0 x0 y.1 1 ((n0 + 1 : Nat) : Int)).1 x1 (cnt n0 x0 (hearS id0 x0 y.1 1 ((n0 + 1 : Nat) : Int)).1) n1 a c (f0.take m ++ f0.drop (m + 1)) b e g b0 e0 s0 b1 e1 s1 d k (gets r0 (hearS id0 x0 y.1 1 ((n0 + 1 : Nat) : Int))) d1 k1 r1 ∧ g.length ≤ 200 ∧ ∀ z ∈ g.map (·.1), z ∈ f1.map (·.1) ∨ z ∈ (hearS id0 x0 y.1 1 ((n0 + 1 : Nat) : Int)).2.out := by
  refine jq Try.func33 rfl Try.ntmps33 [pK tp 0, iK 0, iK ((m : Nat) : Int)] ?_
  intro U h; simp only [List.length_cons, List.length_nil, List.cons_append, List.nil_append, Nat.reduceAdd, Nat.reduceSub, List.reduceReplicate] at h; subst h
  have GG := Gro.refl w
  replace GG := G0
  have ktp := H.box
  obtain ⟨y, hy⟩ : ∃ y, f0[m]? = some y := ⟨_, List.getElem?_eq_getElem hmi⟩
  have FVy := H.l0.fv y (List.mem_of_getElem? hy)
  have htxy : y.1.tx.length ≤ 140737488355000 := by have := htx y.1 (List.mem_map_of_mem (List.mem_of_getElem? hy)); omega
  obtain ⟨ad, hao⟩ := H.l0.some (by omega)
  refine wp_seq (wp_region_lit (mv 12 (pK tp 0) (mv 13 (iK 0) (sv 14 (pK tp 0) (jl _ rfl _ rfl) ?_))))
  refine nr ?_; intro U h; simp only [z0, z1] at h; subst h
  refine sv 15 (pK tp 2) (jc 83 _ 1 rfl _ _ rfl _) (sv 16 (pK tp 2) (jB _ _ rfl tp 2 0 (by decide) rfl rfl _) (sv 17 (.slice a0 f0.length c0) (je 50 _ rfl tp 2 rfl 83 _ ktp (na50 _) _ rfl) ?_))
  refine nr ?_; intro U h; simp only [z0, z1] at h; subst h
  refine mv 18 (iK ((m : Nat) : Int)) (sv 19 (.pointer (some (ad.add (m * 95)))) (zO _ _ rfl ad f0.length c0 m (by exact congrArg (fun a => Value.slice a f0.length c0) hao) rfl hmi _) (sv 20 (.agg (frA y.2)) (yl _ rfl ad m rfl _ (hao ▸ H.l0) y hy) ?_))
  refine nr ?_; intro U h; simp only [z0, z1] at h; subst h
  refine js 6 rfl rfl 46 rfl _ zv46 _ rfl ?_
  intro w1 g1 G eg1 kg1
  have bg1 := jh GG eg1
  have n0g1 : ∀ k ∈ blk a0, k < g1 := fun k hk => eg1 ▸ H.l0.row.lt k hk
  have n1g1 : ∀ k ∈ blk a1, k < g1 := fun k hk => eg1 ▸ H.l1.row.lt k hk
  have dtpg1 := jf ktp eg1
  replace ktp := G.has ktp
  replace H := H.gro G
  replace FVy := FVy.gro G
  replace GG := GG.trans G
  clear G eg1
  refine jo rfl rfl 46 _ _ rfl g1 0 rfl (.agg (frA y.2)) rfl 46 _ kg1 (frA y.2) rfl (by kernel_rfl) (nlB rfl) (by kernel_rfl) (frA y.2) (by kernel_rfl) ?_
  intro w3 St
  replace ktp := St.has (by omega) ktp
  replace H := H.gros (S := [g1]) ((GroS.refl [g1] _).st St (.inr (by simp))) (fun k hk => by cases List.mem_singleton.1 hk; exact ⟨_, _, kg1, by decide, by decide, by decide, fun _ => ⟨fun hm => Nat.lt_irrefl _ (n0g1 _ hm), fun hm => Nat.lt_irrefl _ (n1g1 _ hm)⟩⟩)
  replace FVy := FVy.no5 ((GroS.refl [g1] _).st St (.inr (by simp))) (jv kg1 (by decide))
  replace GG := GG.store St bg1
  replace kg1 := St.new
  clear St
  refine wpList_nil (ja (wp_seq ?_))
  obtain ⟨M, eM⟩ : ∃ M, w3.heap.size = M := ⟨_, rfl⟩
  have hBM : w0.heap.size ≤ M := eM ▸ GG.size
  have GX := Gro.refl w3
  have htpM : tp < M := eM ▸ jm ktp
  have hg1M : g1 < M := eM ▸ jm kg1
  refine jJ (A := ?Ap1) (fun _ x => Gro w0 x ∧ x.heap[tp]? = some (.cells (c83 (some ⟨q0, 0, none⟩) (some ⟨q1, 0, none⟩) ⟨a0, f0.length, c0⟩ ⟨a1, f1.length, c1⟩ ((n0 : Nat) : Int) ((n1 : Nat) : Int) ⟨b0, s0.length, e0⟩ ⟨b1, s1.length, e1⟩ ⟨d0, r0.length, k0⟩ ⟨d1, r1.length, k1⟩) 83 (0, 0)) ∧ x.heap[g1]? = some (.cells (frA y.2) 46 (0, 0)) ∧ Gro w3 x) 24 [(0, 21), (1, 22), (2, 23), (3, 24), (4, 25), (5, 26), (6, 27), (7, 28), (8, 29), (9, 30), (10, 31), (11, 32), (12, 33), (13, 34), (14, 35), (15, 36), (16, 37), (17, 38), (18, 39), (19, 40), (20, 41), (21, 42), (22, 43), (23, 44)] [.val (pK tp 0), .val (iK 0), zfE M, .val (pK tp 0), .val (iK 0), .val (pK tp 0), .val (pK tp 2), .val (pK tp 2), .val (.slice a0 f0.length c0), .val (iK ((m : Nat) : Int)), .val (.slice a0 m c0), tkE M (f0.take m), .val (pK tp 0), .val (iK 0), .val (pK tp 0), .val (pK tp 2), .val (pK tp 2), .val (.slice a0 f0.length c0), .val (iK ((m : Nat) : Int)), .val (iK ((m + 1 : Nat) : Int)), .val (.slice (if c0 = m + 1 then a0 else a0.map (·.add ((m + 1) * 95))) (f0.length - (m + 1)) (c0 - (m + 1))), tkE M (f0.take m ++ f0.drop (m + 1)), .val (pK tp 0), .val (pK tp 2)] [(21, 2), (21, 11)] [21] follows (by kernel_rfl) rfl (by kernel_rfl) (by decide) ⟨GG.drew, (Gro.refl _).drew.has ktp, (Gro.refl _).drew.has kg1, GX.trans (Gro.refl _).drew⟩ ?hAp1 (ji (fun _ _ _ h _ G => ⟨h.1.trans G, G.has h.2.1, G.has h.2.2.1, h.2.2.2.trans G⟩) ?o0p1 (ji (fun _ _ _ h _ G => ⟨h.1.trans G, G.has h.2.1, G.has h.2.2.1, h.2.2.2.trans G⟩) ?o1p1 (ji (fun _ _ _ h _ G => ⟨h.1.trans G, G.has h.2.1, G.has h.2.2.1, h.2.2.2.trans G⟩) ?o2p1 (ji (fun _ _ _ h _ G => ⟨h.1.trans G, G.has h.2.1, G.has h.2.2.1, h.2.2.2.trans G⟩) ?o3p1 (ji (fun _ _ _ h _ G => ⟨h.1.trans G, G.has h.2.1, G.has h.2.2.1, h.2.2.2.trans G⟩) ?o4p1 (ji (fun _ _ _ h _ G => ⟨h.1.trans G, G.has h.2.1, G.has h.2.2.1, h.2.2.2.trans G⟩) ?o5p1 (ji (fun _ _ _ h _ G => ⟨h.1.trans G, G.has h.2.1, G.has h.2.2.1, h.2.2.2.trans G⟩) ?o6p1 (ji (fun _ _ _ h _ G => ⟨h.1.trans G, G.has h.2.1, G.has h.2.2.1, h.2.2.2.trans G⟩) ?o7p1 (ji (fun _ _ _ h _ G => ⟨h.1.trans G, G.has h.2.1, G.has h.2.2.1, h.2.2.2.trans G⟩) ?o8p1 (ji (fun _ _ _ h _ G => ⟨h.1.trans G, G.has h.2.1, G.has h.2.2.1, h.2.2.2.trans G⟩) ?o9p1 (ji (fun _ _ _ h _ G => ⟨h.1.trans G, G.has h.2.1, G.has h.2.2.1, h.2.2.2.trans G⟩) ?o10p1 (ji (fun _ _ _ h _ G => ⟨h.1.trans G, G.has h.2.1, G.has h.2.2.1, h.2.2.2.trans G⟩) ?o11p1 (ji (fun _ _ _ h _ G => ⟨h.1.trans G, G.has h.2.1, G.has h.2.2.1, h.2.2.2.trans G⟩) ?o12p1 (ji (fun _ _ _ h _ G => ⟨h.1.trans G, G.has h.2.1, G.has h.2.2.1, h.2.2.2.trans G⟩) ?o13p1 (ji (fun _ _ _ h _ G => ⟨h.1.trans G, G.has h.2.1, G.has h.2.2.1, h.2.2.2.trans G⟩) ?o14p1 (ji (fun _ _ _ h _ G => ⟨h.1.trans G, G.has h.2.1, G.has h.2.2.1, h.2.2.2.trans G⟩) ?o15p1 (ji (fun _ _ _ h _ G => ⟨h.1.trans G, G.has h.2.1, G.has h.2.2.1, h.2.2.2.trans G⟩) ?o16p1 (ji (fun _ _ _ h _ G => ⟨h.1.trans G, G.has h.2.1, G.has h.2.2.1, h.2.2.2.trans G⟩) ?o17p1 (ji (fun _ _ _ h _ G => ⟨h.1.trans G, G.has h.2.1, G.has h.2.2.1, h.2.2.2.trans G⟩) ?o18p1 (ji (fun _ _ _ h _ G => ⟨h.1.trans G, G.has h.2.1, G.has h.2.2.1, h.2.2.2.trans G⟩) ?o19p1 (ji (fun _ _ _ h _ G => ⟨h.1.trans G, G.has h.2.1, G.has h.2.2.1, h.2.2.2.trans G⟩) ?o20p1 (jX ?o21p1 (ji (fun _ _ _ h _ G => ⟨h.1.trans G, G.has h.2.1, G.has h.2.2.1, h.2.2.2.trans G⟩) ?o22p1 (ji (fun _ _ _ h _ G => ⟨h.1.trans G, G.has h.2.1, G.has h.2.2.1, h.2.2.2.trans G⟩) ?o23p1 zc)))))))))))))))))))))))) ?restp1
  case hAp1 =>
    intro ptrs
    simp only [full, foldSlots, filledE, postE, List.foldl_cons, List.foldl_nil, List.getD_cons_zero, List.getD_cons_succ, ju, vt, vu,  List.set_cons_zero, List.set_cons_succ]
    exact rfl
  case o0p1 => exact fun _ _ _ _ _ _ _ _ => jj (v := pK tp 0) _ rfl rfl rfl
  case o1p1 => exact fun _ _ _ _ _ _ _ _ => jj (v := iK 0) _ rfl rfl rfl
  case o2p1 =>
    intro L ptrs x hx hL hed hno hE
    exact za _ rfl (zp 50 0 _ rfl [] rfl (by kernel_rfl)) (jR _ _) ⟨x.heap.size, rfl, (eM ▸ hx.2.2.2.size), heap_alloc_new _ _⟩
  case o3p1 => exact fun _ _ _ _ _ _ _ _ => jj (v := pK tp 0) _ rfl rfl rfl
  case o4p1 => exact fun _ _ _ _ _ _ _ _ => jj (v := iK 0) _ rfl rfl rfl
  case o5p1 => exact fun _ _ x hx _ _ _ _ => jb (v := pK tp 0) rfl (jl _ rfl _ rfl)
  case o6p1 => exact fun _ _ x hx _ _ _ _ => jb (v := pK tp 2) rfl (jc 83 _ 1 rfl _ _ rfl _)
  case o7p1 => exact fun _ _ x hx _ _ _ _ => jb (v := pK tp 2) rfl (jB _ _ rfl tp 2 0 (by decide) rfl rfl _)
  case o8p1 => exact fun _ _ x hx _ _ _ _ => jb (v := .slice a0 f0.length c0) rfl (je 50 _ rfl tp 2 rfl 83 _ hx.2.1 (na50 _) _ rfl)
  case o9p1 => exact fun _ _ _ _ _ _ _ _ => jj (v := iK ((m : Nat) : Int)) _ rfl rfl rfl
  case o10p1 => exact fun _ _ x hx _ _ _ _ => jb (v := .slice a0 m c0) rfl (zT rF _ _ rfl _ _ _ m rfl rfl (Nat.le_trans (Nat.le_of_lt hmi) H.l0.le) _)
  case o11p1 =>
    intro L ptrs x hx hL hed hno hE
    exact yY rfl _ _ rfl H.l0 hx.2.2.2 hfli (Nat.le_of_lt hmi) (eM ▸ hx.2.2.2.size) rfl hE.1 rfl
  case o12p1 => exact fun _ _ _ _ _ _ _ _ => jj (v := pK tp 0) _ rfl rfl rfl
  case o13p1 => exact fun _ _ _ _ _ _ _ _ => jj (v := iK 0) _ rfl rfl rfl
  case o14p1 => exact fun _ _ x hx _ _ _ _ => jb (v := pK tp 0) rfl (jl _ rfl _ rfl)
  case o15p1 => exact fun _ _ x hx _ _ _ _ => jb (v := pK tp 2) rfl (jc 83 _ 1 rfl _ _ rfl _)
  case o16p1 => exact fun _ _ x hx _ _ _ _ => jb (v := pK tp 2) rfl (jB _ _ rfl tp 2 0 (by decide) rfl rfl _)
  case o17p1 => exact fun _ _ x hx _ _ _ _ => jb (v := .slice a0 f0.length c0) rfl (je 50 _ rfl tp 2 rfl 83 _ hx.2.1 (na50 _) _ rfl)
  case o18p1 => exact fun _ _ _ _ _ _ _ _ => jj (v := iK ((m : Nat) : Int)) _ rfl rfl rfl
  case o19p1 => exact fun _ _ x hx _ _ _ _ => jb (v := iK ((m + 1 : Nat) : Int)) rfl (jF 3 _ _ _ rfl ((m : Nat) : Int) 1 ((m + 1 : Nat) : Int) rfl rfl (by omega) (by omega) (by omega) _)
  case o20p1 => exact fun _ _ x hx _ _ _ _ => jb (v := .slice (if c0 = m + 1 then a0 else a0.map (·.add ((m + 1) * 95))) (f0.length - (m + 1)) (c0 - (m + 1))) rfl (yt rF _ _ rfl _ _ _ (m + 1) rfl rfl hmi _)
  case o21p1 =>
    intro L ptrs x hx hL hed hno hE
    exact yZ rfl _ _ rfl H.l0 hx.2.2.2 hfli hmi (eM ▸ hx.2.2.2.size) rfl hE.1 rfl fun S y hS G => ⟨⟨G.gro hx.1 (fun k hk => Nat.le_trans hBM (hS k hk)), G.has hx.2.1 (fun hm => by have := hS _ hm; omega), G.has hx.2.2.1 (fun hm => by have := hS _ hm; omega), G.gro hx.2.2.2 (fun k hk => eM ▸ hS k hk)⟩, StM.vals [0, 1, 3, 4, 5, 6, 7, 8, 9, 10, 12, 13, 14, 15, 16, 17, 18, 19, 20, 22, 23] (by kernel_rfl) ⟨⟨_, rfl⟩, ⟨_, rfl⟩, ⟨_, rfl⟩, ⟨_, rfl⟩, ⟨_, rfl⟩, ⟨_, rfl⟩, ⟨_, rfl⟩, ⟨_, rfl⟩, ⟨_, rfl⟩, ⟨_, rfl⟩, ⟨_, rfl⟩, ⟨_, rfl⟩, ⟨_, rfl⟩, ⟨_, rfl⟩, ⟨_, rfl⟩, ⟨_, rfl⟩, ⟨_, rfl⟩, ⟨_, rfl⟩, ⟨_, rfl⟩, ⟨_, rfl⟩, ⟨_, rfl⟩, trivial⟩⟩
  case o22p1 => exact fun _ _ x hx _ _ _ _ => jb (v := pK tp 0) rfl (jl _ rfl _ rfl)
  case o23p1 => exact fun _ _ x hx _ _ _ _ => jb (v := pK tp 2) rfl (jc 83 _ 1 rfl _ _ rfl _)
  intro ptrs w4 HJ hxE
  simp only [List.drop_succ_cons, List.drop_zero]
  clear GG ktp kg1 GX
  obtain ⟨GG, ktp, kg1, GX⟩ := HJ
  obtain ⟨⟨a3, c3, hv, HL3⟩, _⟩ := hxE
  simp only [hv]
  clear hv
  replace FVy := FVy.gro GX
  refine sv 45 (pK tp 2) (jB _ _ rfl tp 2 0 (by decide) rfl rfl _) ?_
  refine jo rfl rfl 50 _ _ rfl tp 2 rfl (.slice a3 ((f0.take m ++ f0.drop (m + 1)).length) c3) rfl 83 _ ktp #[.slice a3 ((f0.take m ++ f0.drop (m + 1)).length) c3] rfl (by kernel_rfl) (nlB rfl) (by kernel_rfl) (c83 (some ⟨q0, 0, none⟩) (some ⟨q1, 0, none⟩) ⟨a3, (f0.take m ++ f0.drop (m + 1)).length, c3⟩ ⟨a1, f1.length, c1⟩ ((n0 : Nat) : Int) ((n1 : Nat) : Int) ⟨b0, s0.length, e0⟩ ⟨b1, s1.length, e1⟩ ⟨d0, r0.length, k0⟩ ⟨d1, r1.length, k1⟩) (by kernel_rfl) ?_
  intro w6 St
  replace kg1 := St.has (jy kg1 ktp (by decide)) kg1
  replace FVy := FVy.no5 ((GroS.refl [tp] _).st St (.inr (by simp))) (jv ktp (by decide))
  replace GG := GG.store St H.base
  replace H := H.puta0 (.of GX) (fun k hk => .inr (eM ▸ HL3.row.base k hk)) (HL3.mono hBM) St
  clear ktp St GX HL3
  have ktp := H.box
  refine wpList_nil (ja (wp_seq (wp_region_lit (mv 47 (pK tp 0) ?_))))
  refine nr ?_; intro U h; simp only [z0, z1] at h; subst h
  refine mv 48 (iK 0) (sv 49 (pK tp 0) (jl _ rfl _ rfl) (sv 50 (pK tp 0) (jc 83 _ 0 rfl _ _ rfl _) ?_))
  refine nr ?_; intro U h; simp only [z0, z1] at h; subst h
  refine sv 51 (pK tp 0) (jS _ _ rfl tp 0 0 (by decide) rfl rfl _) (sv 52 (pK q0 0) (je 25 _ rfl tp 0 rfl 83 _ ktp (na25 _) _ rfl) ?_)
  refine nr ?_; intro U h; simp only [z0, z1] at h; subst h
  obtain ⟨mu, tb, HM, hge, hnext⟩ := H.end0 GG.size
  refine jC 53 rfl rfl _ 23 Try.call23 rfl rfl _ rfl [pK q0 0] rfl (yx _ _ _ _ _ _ HM) ?_
  intro w7 G
  replace ktp := G.has ktp
  replace kg1 := G.has kg1
  replace H := H.gro G
  replace FVy := FVy.gro G
  replace GG := GG.trans G
  clear G
  refine nr ?_; intro U h; simp only [z0, z1] at h; subst h
  clear HM hge hnext
  refine mv 46 (.tuple #[.agg (c29 x0.mi x0.mn), .agg (c29 x0.pi x0.pn)]) (mv 54 (.agg (c29 x0.mi x0.mn)) (mv 55 (.agg (c29 x0.pi x0.pn)) ?_))
  refine nr ?_; intro U h; simp only [z0, z1] at h; subst h
  refine js 7 rfl rfl 29 rfl _ zv29 _ rfl ?_
  intro w8 g2 G eg2 kg2
  have bg2 := jh GG eg2
  have dtpg2 := jf ktp eg2
  have dg1g2 := jf kg1 eg2
  replace ktp := G.has ktp
  replace kg1 := G.has kg1
  replace H := H.gro G
  replace FVy := FVy.gro G
  replace GG := GG.trans G
  clear G eg2
  refine js 8 rfl rfl 29 rfl _ zv29 _ rfl ?_
  intro w9 g3 G eg3 kg3
  have bg3 := jh GG eg3
  have dtpg3 := jf ktp eg3
  have dg1g3 := jf kg1 eg3
  have dg2g3 := jf kg2 eg3
  replace ktp := G.has ktp
  replace kg1 := G.has kg1
  replace kg2 := G.has kg2
  replace H := H.gro G
  replace FVy := FVy.gro G
  replace GG := GG.trans G
  clear G eg3
  refine jo rfl rfl 29 _ _ rfl g2 0 rfl (.agg (c29 x0.mi x0.mn)) rfl 29 _ kg2 (c29 x0.mi x0.mn) rfl (by kernel_rfl) (nlB rfl) (by kernel_rfl) (c29 x0.mi x0.mn) (by kernel_rfl) ?_
  intro w11 St
  replace ktp := St.has (by omega) ktp
  replace kg1 := St.has (by omega) kg1
  replace kg3 := St.has (by omega) kg3
  replace H := H.stT kg2 (by decide) (by decide) (by decide) (by decide) St
  replace FVy := FVy.no5 ((GroS.refl [g2] _).st St (.inr (by simp))) (jv kg2 (by decide))
  replace GG := GG.store St bg2
  replace kg2 := St.new
  clear St
  refine jo rfl rfl 29 _ _ rfl g3 0 rfl (.agg (c29 x0.pi x0.pn)) rfl 29 _ kg3 (c29 x0.pi x0.pn) rfl (by kernel_rfl) (nlB rfl) (by kernel_rfl) (c29 x0.pi x0.pn) (by kernel_rfl) ?_
  intro w13 St
  replace ktp := St.has (by omega) ktp
  replace kg1 := St.has (by omega) kg1
  replace kg2 := St.has (by omega) kg2
  replace H := H.stT kg3 (by decide) (by decide) (by decide) (by decide) St
  replace FVy := FVy.no5 ((GroS.refl [g3] _).st St (.inr (by simp))) (jv kg3 (by decide))
  replace GG := GG.store St bg3
  replace kg3 := St.new
  clear St
  refine wpList_nil (ja (wp_seq ?_))
  obtain ⟨M, eM⟩ : ∃ M, w13.heap.size = M := ⟨_, rfl⟩
  have hM := Nat.le_of_eq eM.symm
  have hBM : w0.heap.size ≤ M := eM ▸ GG.size
  have dtpM : tp < M := eM ▸ jm ktp
  have dg1M : g1 < M := eM ▸ jm kg1
  have dg2M : g2 < M := eM ▸ jm kg2
  have dg3M : g3 < M := eM ▸ jm kg3
  clear eM
  refine jJ (A := ?Ap2) (fun L x => Gro w0 x ∧ x.heap[tp]? = some (.cells (c83 (some ⟨q0, 0, none⟩) (some ⟨q1, 0, none⟩) ⟨a3, (f0.take m ++ f0.drop (m + 1)).length, c3⟩ ⟨a1, f1.length, c1⟩ ((n0 : Nat) : Int) ((n1 : Nat) : Int) ⟨b0, s0.length, e0⟩ ⟨b1, s1.length, e1⟩ ⟨d0, r0.length, k0⟩ ⟨d1, r1.length, k1⟩) 83 (0, 0)) ∧ x.heap[g1]? = some (.cells (frA y.2) 46 (0, 0)) ∧ x.heap[g2]? = some (.cells (c29 x0.mi x0.mn) 29 (0, 0)) ∧ x.heap[g3]? = some (.cells (c29 x0.pi x0.pn) 29 (0, 0)) ∧ Tk w0.heap.size x tp q0 q1 id0 id1 (cond (L 15) (hearS id0 x0 y.1 1 ((n0 + 1 : Nat) : Int)).1 x0) x1 n0 n1 a3 c3 (f0.take m ++ f0.drop (m + 1)) a1 c1 f1 b0 e0 s0 b1 e1 s1 d0 k0 r0 d1 k1 r1 ∧ FV x y.1 y.2 ∧ M ≤ x.heap.size) 17 [(0, 56), (1, 57), (2, 58), (3, 59), (4, 60), (5, 61), (6, 62), (7, 63), (8, 64), (9, 65), (10, 66), (11, 67), (12, 68), (13, 69), (14, 70), (15, 71), (16, 9)] [.val (pK tp 0), .val (iK 0), .val (pK tp 0), .val (pK tp 0), .val (pK tp 0), .val (pK q0 0), .val (.agg (frA y.2)), .val (pK tp 0), .val (iK 0), .val (pK tp 0), .val (pK tp 4), .val (pK tp 4), .val (iK ((n0 : Nat) : Int)), .val (iK ((n0 + 1 : Nat) : Int)), .val (.agg (c29 1 ((n0 + 1 : Nat) : Int))), tvE2 (hearS id0 x0 y.1 1 ((n0 + 1 : Nat) : Int)).2, alE M 59 (c59 false false Sl.nil false Sl.nil)] [] [15, 16] follows (by kernel_rfl) rfl (by kernel_rfl) (by decide) ⟨GG.drew, (Gro.refl _).drew.has ktp, (Gro.refl _).drew.has kg1, (Gro.refl _).drew.has kg2, (Gro.refl _).drew.has kg3, H.gro (Gro.refl _).drew, FVy.gro (Gro.refl _).drew, Nat.le_trans hM (Gro.refl _).drew.size⟩ ?hAp2 (ji (fun _ _ _ h _ G => ⟨h.1.trans G, G.has h.2.1, G.has h.2.2.1, G.has h.2.2.2.1, G.has h.2.2.2.2.1, h.2.2.2.2.2.1.gro G, h.2.2.2.2.2.2.1.gro G, Nat.le_trans h.2.2.2.2.2.2.2 G.size⟩) ?o0p2 (ji (fun _ _ _ h _ G => ⟨h.1.trans G, G.has h.2.1, G.has h.2.2.1, G.has h.2.2.2.1, G.has h.2.2.2.2.1, h.2.2.2.2.2.1.gro G, h.2.2.2.2.2.2.1.gro G, Nat.le_trans h.2.2.2.2.2.2.2 G.size⟩) ?o1p2 (ji (fun _ _ _ h _ G => ⟨h.1.trans G, G.has h.2.1, G.has h.2.2.1, G.has h.2.2.2.1, G.has h.2.2.2.2.1, h.2.2.2.2.2.1.gro G, h.2.2.2.2.2.2.1.gro G, Nat.le_trans h.2.2.2.2.2.2.2 G.size⟩) ?o2p2 (ji (fun _ _ _ h _ G => ⟨h.1.trans G, G.has h.2.1, G.has h.2.2.1, G.has h.2.2.2.1, G.has h.2.2.2.2.1, h.2.2.2.2.2.1.gro G, h.2.2.2.2.2.2.1.gro G, Nat.le_trans h.2.2.2.2.2.2.2 G.size⟩) ?o3p2 (ji (fun _ _ _ h _ G => ⟨h.1.trans G, G.has h.2.1, G.has h.2.2.1, G.has h.2.2.2.1, G.has h.2.2.2.2.1, h.2.2.2.2.2.1.gro G, h.2.2.2.2.2.2.1.gro G, Nat.le_trans h.2.2.2.2.2.2.2 G.size⟩) ?o4p2 (ji (fun _ _ _ h _ G => ⟨h.1.trans G, G.has h.2.1, G.has h.2.2.1, G.has h.2.2.2.1, G.has h.2.2.2.2.1, h.2.2.2.2.2.1.gro G, h.2.2.2.2.2.2.1.gro G, Nat.le_trans h.2.2.2.2.2.2.2 G.size⟩) ?o5p2 (ji (fun _ _ _ h _ G => ⟨h.1.trans G, G.has h.2.1, G.has h.2.2.1, G.has h.2.2.2.1, G.has h.2.2.2.2.1, h.2.2.2.2.2.1.gro G, h.2.2.2.2.2.2.1.gro G, Nat.le_trans h.2.2.2.2.2.2.2 G.size⟩) ?o6p2 (ji (fun _ _ _ h _ G => ⟨h.1.trans G, G.has h.2.1, G.has h.2.2.1, G.has h.2.2.2.1, G.has h.2.2.2.2.1, h.2.2.2.2.2.1.gro G, h.2.2.2.2.2.2.1.gro G, Nat.le_trans h.2.2.2.2.2.2.2 G.size⟩) ?o7p2 (ji (fun _ _ _ h _ G => ⟨h.1.trans G, G.has h.2.1, G.has h.2.2.1, G.has h.2.2.2.1, G.has h.2.2.2.2.1, h.2.2.2.2.2.1.gro G, h.2.2.2.2.2.2.1.gro G, Nat.le_trans h.2.2.2.2.2.2.2 G.size⟩) ?o8p2 (ji (fun _ _ _ h _ G => ⟨h.1.trans G, G.has h.2.1, G.has h.2.2.1, G.has h.2.2.2.1, G.has h.2.2.2.2.1, h.2.2.2.2.2.1.gro G, h.2.2.2.2.2.2.1.gro G, Nat.le_trans h.2.2.2.2.2.2.2 G.size⟩) ?o9p2 (ji (fun _ _ _ h _ G => ⟨h.1.trans G, G.has h.2.1, G.has h.2.2.1, G.has h.2.2.2.1, G.has h.2.2.2.2.1, h.2.2.2.2.2.1.gro G, h.2.2.2.2.2.2.1.gro G, Nat.le_trans h.2.2.2.2.2.2.2 G.size⟩) ?o10p2 (ji (fun _ _ _ h _ G => ⟨h.1.trans G, G.has h.2.1, G.has h.2.2.1, G.has h.2.2.2.1, G.has h.2.2.2.2.1, h.2.2.2.2.2.1.gro G, h.2.2.2.2.2.2.1.gro G, Nat.le_trans h.2.2.2.2.2.2.2 G.size⟩) ?o11p2 (ji (fun _ _ _ h _ G => ⟨h.1.trans G, G.has h.2.1, G.has h.2.2.1, G.has h.2.2.2.1, G.has h.2.2.2.2.1, h.2.2.2.2.2.1.gro G, h.2.2.2.2.2.2.1.gro G, Nat.le_trans h.2.2.2.2.2.2.2 G.size⟩) ?o12p2 (ji (fun _ _ _ h _ G => ⟨h.1.trans G, G.has h.2.1, G.has h.2.2.1, G.has h.2.2.2.1, G.has h.2.2.2.2.1, h.2.2.2.2.2.1.gro G, h.2.2.2.2.2.2.1.gro G, Nat.le_trans h.2.2.2.2.2.2.2 G.size⟩) ?o13p2 (ji (fun _ _ _ h _ G => ⟨h.1.trans G, G.has h.2.1, G.has h.2.2.1, G.has h.2.2.2.1, G.has h.2.2.2.2.1, h.2.2.2.2.2.1.gro G, h.2.2.2.2.2.2.1.gro G, Nat.le_trans h.2.2.2.2.2.2.2 G.size⟩) ?o14p2 (jX ?o15p2 (ji (fun _ _ _ h _ G => ⟨h.1.trans G, G.has h.2.1, G.has h.2.2.1, G.has h.2.2.2.1, G.has h.2.2.2.2.1, h.2.2.2.2.2.1.gro G, h.2.2.2.2.2.2.1.gro G, Nat.le_trans h.2.2.2.2.2.2.2 G.size⟩) ?o16p2 zc))))))))))))))))) ?restp2
  case hAp2 =>
    intro ptrs
    simp only [full, foldSlots, filledE, postE, List.foldl_cons, List.foldl_nil, List.getD_cons_zero, List.getD_cons_succ, ju, Ji, vz,  List.set_cons_zero, List.set_cons_succ]
    exact rfl
  case o0p2 => exact fun _ _ _ _ _ _ _ _ => jj (v := pK tp 0) _ rfl rfl rfl
  case o1p2 => exact fun _ _ _ _ _ _ _ _ => jj (v := iK 0) _ rfl rfl rfl
  case o2p2 => exact fun _ _ x hx _ _ _ _ => jb (v := pK tp 0) rfl (jl _ rfl _ rfl)
  case o3p2 => exact fun _ _ x hx _ _ _ _ => jb (v := pK tp 0) rfl (jc 83 _ 0 rfl _ _ rfl _)
  case o4p2 => exact fun _ _ x hx _ _ _ _ => jb (v := pK tp 0) rfl (jS _ _ rfl tp 0 0 (by decide) rfl rfl _)
  case o5p2 => exact fun _ _ x hx _ _ _ _ => jb (v := pK q0 0) rfl (je 25 _ rfl tp 0 rfl 83 _ hx.2.1 (na25 _) _ rfl)
  case o6p2 => exact fun _ _ x hx _ _ _ _ => jb (v := .agg (frA y.2)) rfl (jk 46 _ rfl g1 0 95 rfl 46 _ hx.2.2.1 _ Try.underlying46 rfl si46 _)
  case o7p2 => exact fun _ _ _ _ _ _ _ _ => jj (v := pK tp 0) _ rfl rfl rfl
  case o8p2 => exact fun _ _ _ _ _ _ _ _ => jj (v := iK 0) _ rfl rfl rfl
  case o9p2 => exact fun _ _ x hx _ _ _ _ => jb (v := pK tp 0) rfl (jl _ rfl _ rfl)
  case o10p2 => exact fun _ _ x hx _ _ _ _ => jb (v := pK tp 4) rfl (jc 83 _ 2 rfl _ _ rfl _)
  case o11p2 => exact fun _ _ x hx _ _ _ _ => jb (v := pK tp 4) rfl (zu _ _ rfl tp 4 0 (by decide) rfl rfl _)
  case o12p2 => exact fun _ _ x hx _ _ _ _ => jb (v := iK ((n0 : Nat) : Int)) rfl (je 2 _ rfl tp 4 rfl 83 _ hx.2.1 (na2 _) _ rfl)
  case o13p2 => exact fun _ _ x hx _ _ _ _ => jb (v := iK ((n0 + 1 : Nat) : Int)) rfl (jF 2 _ _ _ rfl ((n0 : Nat) : Int) 1 ((n0 + 1 : Nat) : Int) rfl rfl (by omega) (by omega) (by omega) _)
  case o14p2 => exact fun _ _ x hx _ _ _ _ => jb (v := .agg (c29 1 ((n0 + 1 : Nat) : Int))) rfl (jA 29 _ rfl [(0, iK 1), (1, iK ((n0 + 1 : Nat) : Int))] rfl _ (by kernel_rfl))
  case o15p2 =>
    intro L ptrs x hx hL hed hno _
    have h2 := hx.2.2.2.2.2.1
    rw [hL] at h2
    obtain ⟨mu, tb, HM, hge, hnext⟩ := h2.end0 hx.1.size
    exact zw (tvE2 (hearS id0 x0 y.1 1 ((n0 + 1 : Nat) : Int)).2) rfl _ 20 Try.call20 rfl rfl _ rfl [pK q0 0, .agg (frA y.2), .agg (c29 1 ((n0 + 1 : Nat) : Int))] rfl ((vS _ q0 id0 x0 mu tb HM y.1 y.2 hx.2.2.2.2.2.2.1 htxy 1 ((n0 + 1 : Nat) : Int) (by omega) (by omega)).mono fun e z ⟨v, mu', tb', he, HTv, HX, G, F1, F2⟩ => ⟨_, he, ⟨⟨G.gro hx.1 hge, G.has hx.2.1 (HM.not hx.2.1 (by decide) (by decide) (by decide)), G.has hx.2.2.1 (HM.not hx.2.2.1 (by decide) (by decide) (by decide)), G.has hx.2.2.2.1 (HM.not hx.2.2.2.1 (by decide) (by decide) (by decide)), G.has hx.2.2.2.2.1 (HM.not hx.2.2.2.2.1 (by decide) (by decide) (by decide)), hnext _ _ _ _ HX G F1, hx.2.2.2.2.2.2.1.no5 G HM.own, Nat.le_trans hx.2.2.2.2.2.2.2 G.size⟩, StM.valsX [0, 1, 2, 3, 4, 5, 6, 7, 8, 9, 10, 11, 12, 13, 14] [16] (by kernel_rfl) ⟨⟨_, rfl⟩, ⟨_, rfl⟩, ⟨_, rfl⟩, ⟨_, rfl⟩, ⟨_, rfl⟩, ⟨_, rfl⟩, ⟨_, rfl⟩, ⟨_, rfl⟩, ⟨_, rfl⟩, ⟨_, rfl⟩, ⟨_, rfl⟩, ⟨_, rfl⟩, ⟨_, rfl⟩, ⟨_, rfl⟩, ⟨_, rfl⟩, trivial⟩ (fun j hj u hp => by cases List.mem_singleton.1 hj; obtain ⟨g, h1, h2, h3⟩ := hp; exact ⟨g, h1, h2, G.has h3 (HM.not h3 (by decide) (by decide) (by decide))⟩)⟩, HTv⟩)
  case o16p2 =>
    intro _ _ x hx _ _ _ _
    exact uB rfl 59 rfl _ (zv59 _) (c59 false false Sl.nil false Sl.nil) rfl hx.2.2.2.2.2.2.2
  intro ptrs w14 HJ hxE
  simp only [List.drop_succ_cons, List.drop_zero]
  clear GG ktp kg1 kg2 kg3 H FVy hM
  obtain ⟨GG, ktp, kg1, kg2, kg3, H, FVy, hM⟩ := HJ
  replace H : Tk w0.heap.size w14 tp q0 q1 id0 id1 (hearS id0 x0 y.1 1 ((n0 + 1 : Nat) : Int)).1 x1 n0 n1 a3 c3 (f0.take m ++ f0.drop (m + 1)) a1 c1 f1 b0 e0 s0 b1 e1 s1 d0 k0 r0 d1 k1 r1 := H
  obtain ⟨⟨aoa, capa, ooa, oca, fsa, hva, HOa, hma, HLa⟩, ⟨gt, hv, hgt, kgt⟩, _⟩ := hxE
  simp only [hv, hva]
  clear hv hva hM FVy
  have dtpgt := Nat.lt_of_lt_of_le dtpM hgt
  have dg1gt := Nat.lt_of_lt_of_le dg1M hgt
  have dg2gt := Nat.lt_of_lt_of_le dg2M hgt
  have dg3gt := Nat.lt_of_lt_of_le dg3M hgt
  have bgt := Nat.le_trans hBM hgt
  have hone : fsa.length ≤ 1 := by rw [← List.length_map (f := (·.1)), hma]; exact Jf id0 x0 y.1 1 ((n0 + 1 : Nat) : Int)
  refine jo rfl rfl 59 _ _ rfl gt 0 rfl (.agg (c59 ((hearS id0 x0 y.1 1 ((n0 + 1 : Nat) : Int)).2.died) ((hearS id0 x0 y.1 1 ((n0 + 1 : Nat) : Int)).2.opened) ⟨aoa, (hearS id0 x0 y.1 1 ((n0 + 1 : Nat) : Int)).2.tx.length, capa⟩ ((hearS id0 x0 y.1 1 ((n0 + 1 : Nat) : Int)).2.came) ⟨ooa, fsa.length, oca⟩)) rfl 59 _ kgt (c59 ((hearS id0 x0 y.1 1 ((n0 + 1 : Nat) : Int)).2.died) ((hearS id0 x0 y.1 1 ((n0 + 1 : Nat) : Int)).2.opened) ⟨aoa, (hearS id0 x0 y.1 1 ((n0 + 1 : Nat) : Int)).2.tx.length, capa⟩ ((hearS id0 x0 y.1 1 ((n0 + 1 : Nat) : Int)).2.came) ⟨ooa, fsa.length, oca⟩) rfl (by kernel_rfl) (nlB rfl) (by kernel_rfl) (c59 ((hearS id0 x0 y.1 1 ((n0 + 1 : Nat) : Int)).2.died) ((hearS id0 x0 y.1 1 ((n0 + 1 : Nat) : Int)).2.opened) ⟨aoa, (hearS id0 x0 y.1 1 ((n0 + 1 : Nat) : Int)).2.tx.length, capa⟩ ((hearS id0 x0 y.1 1 ((n0 + 1 : Nat) : Int)).2.came) ⟨ooa, fsa.length, oca⟩) (by kernel_rfl) ?_
  intro w16 St
  replace ktp := St.has (by omega) ktp
  replace kg1 := St.has (by omega) kg1
  replace kg2 := St.has (by omega) kg2
  replace kg3 := St.has (by omega) kg3
  replace H := H.stT kgt (by decide) (by decide) (by decide) (by decide) St
  replace HOa := HOa.no5 ((GroS.refl [gt] _).st St (.inr (by simp))) (jv kgt (by decide))
  replace HLa := HLa.no46 ((GroS.refl [gt] _).st St (.inr (by simp))) (jK kgt (by decide) (by decide))
  replace GG := GG.store St bgt
  replace kgt := St.new
  clear St
  refine wpList_nil (ja (wp_seq (wp_region_lit (mv 73 (pK tp 0) ?_))))
  refine nr ?_; intro U h; simp only [z0, z1] at h; subst h
  refine mv 74 (iK 0) (sv 75 (pK tp 0) (jl _ rfl _ rfl) (sv 76 (pK tp 0) (jc 83 _ 0 rfl _ _ rfl _) ?_))
  refine nr ?_; intro U h; simp only [z0, z1] at h; subst h
  refine sv 77 (pK tp 0) (jS _ _ rfl tp 0 0 (by decide) rfl rfl _) (sv 78 (pK q0 0) (je 25 _ rfl tp 0 rfl 83 _ ktp (na25 _) _ rfl) ?_)
  refine nr ?_; intro U h; simp only [z0, z1] at h; subst h
  obtain ⟨mu, tb, HM, hge, hnext⟩ := H.end0 GG.size
  refine jC 79 rfl rfl _ 23 Try.call23 rfl rfl _ rfl [pK q0 0] rfl (yx _ _ _ _ _ _ HM) ?_
  intro w17 G
  replace ktp := G.has ktp
  replace kg1 := G.has kg1
  replace kg2 := G.has kg2
  replace kg3 := G.has kg3
  replace kgt := G.has kgt
  replace H := H.gro G
  replace HOa := HOa.gro G
  replace HLa := HLa.gro G
  replace GG := GG.trans G
  clear G
  refine nr ?_; intro U h; simp only [z0, z1] at h; subst h
  clear HM hge hnext
  refine mv 72 (.tuple #[.agg (c29 ((hearS id0 x0 y.1 1 ((n0 + 1 : Nat) : Int)).1.mi) ((hearS id0 x0 y.1 1 ((n0 + 1 : Nat) : Int)).1.mn)), .agg (c29 ((hearS id0 x0 y.1 1 ((n0 + 1 : Nat) : Int)).1.pi) ((hearS id0 x0 y.1 1 ((n0 + 1 : Nat) : Int)).1.pn))]) (mv 80 (.agg (c29 ((hearS id0 x0 y.1 1 ((n0 + 1 : Nat) : Int)).1.mi) ((hearS id0 x0 y.1 1 ((n0 + 1 : Nat) : Int)).1.mn))) (mv 81 (.agg (c29 ((hearS id0 x0 y.1 1 ((n0 + 1 : Nat) : Int)).1.pi) ((hearS id0 x0 y.1 1 ((n0 + 1 : Nat) : Int)).1.pn))) ?_))
  refine nr ?_; intro U h; simp only [z0, z1] at h; subst h
  refine js 10 rfl rfl 29 rfl _ zv29 _ rfl ?_
  intro w18 g4 G eg4 kg4
  have bg4 := jh GG eg4
  have dtpg4 := jf ktp eg4
  have dg1g4 := jf kg1 eg4
  have dg2g4 := jf kg2 eg4
  have dg3g4 := jf kg3 eg4
  have dgtg4 := jf kgt eg4
  replace ktp := G.has ktp
  replace kg1 := G.has kg1
  replace kg2 := G.has kg2
  replace kg3 := G.has kg3
  replace kgt := G.has kgt
  replace H := H.gro G
  replace HOa := HOa.gro G
  replace HLa := HLa.gro G
  replace GG := GG.trans G
  clear G eg4
  refine js 11 rfl rfl 29 rfl _ zv29 _ rfl ?_
  intro w19 g5 G eg5 kg5
  have bg5 := jh GG eg5
  have dtpg5 := jf ktp eg5
  have dg1g5 := jf kg1 eg5
  have dg2g5 := jf kg2 eg5
  have dg3g5 := jf kg3 eg5
  have dgtg5 := jf kgt eg5
  have dg4g5 := jf kg4 eg5
  replace ktp := G.has ktp
  replace kg1 := G.has kg1
  replace kg2 := G.has kg2
  replace kg3 := G.has kg3
  replace kgt := G.has kgt
  replace kg4 := G.has kg4
  replace H := H.gro G
  replace HOa := HOa.gro G
  replace HLa := HLa.gro G
  replace GG := GG.trans G
  clear G eg5
  refine jo rfl rfl 29 _ _ rfl g4 0 rfl (.agg (c29 ((hearS id0 x0 y.1 1 ((n0 + 1 : Nat) : Int)).1.mi) ((hearS id0 x0 y.1 1 ((n0 + 1 : Nat) : Int)).1.mn))) rfl 29 _ kg4 (c29 ((hearS id0 x0 y.1 1 ((n0 + 1 : Nat) : Int)).1.mi) ((hearS id0 x0 y.1 1 ((n0 + 1 : Nat) : Int)).1.mn)) rfl (by kernel_rfl) (nlB rfl) (by kernel_rfl) (c29 ((hearS id0 x0 y.1 1 ((n0 + 1 : Nat) : Int)).1.mi) ((hearS id0 x0 y.1 1 ((n0 + 1 : Nat) : Int)).1.mn)) (by kernel_rfl) ?_
  intro w21 St
  replace ktp := St.has (by omega) ktp
  replace kg1 := St.has (by omega) kg1
  replace kg2 := St.has (by omega) kg2
  replace kg3 := St.has (by omega) kg3
  replace kgt := St.has (by omega) kgt
  replace kg5 := St.has (by omega) kg5
  replace H := H.stT kg4 (by decide) (by decide) (by decide) (by decide) St
  replace HOa := HOa.no5 ((GroS.refl [g4] _).st St (.inr (by simp))) (jv kg4 (by decide))
  replace HLa := HLa.no46 ((GroS.refl [g4] _).st St (.inr (by simp))) (jK kg4 (by decide) (by decide))
  replace GG := GG.store St bg4
  replace kg4 := St.new
  clear St
  refine jo rfl rfl 29 _ _ rfl g5 0 rfl (.agg (c29 ((hearS id0 x0 y.1 1 ((n0 + 1 : Nat) : Int)).1.pi) ((hearS id0 x0 y.1 1 ((n0 + 1 : Nat) : Int)).1.pn))) rfl 29 _ kg5 (c29 ((hearS id0 x0 y.1 1 ((n0 + 1 : Nat) : Int)).1.pi) ((hearS id0 x0 y.1 1 ((n0 + 1 : Nat) : Int)).1.pn)) rfl (by kernel_rfl) (nlB rfl) (by kernel_rfl) (c29 ((hearS id0 x0 y.1 1 ((n0 + 1 : Nat) : Int)).1.pi) ((hearS id0 x0 y.1 1 ((n0 + 1 : Nat) : Int)).1.pn)) (by kernel_rfl) ?_
  intro w23 St
  replace ktp := St.has (by omega) ktp
  replace kg1 := St.has (by omega) kg1
  replace kg2 := St.has (by omega) kg2
  replace kg3 := St.has (by omega) kg3
  replace kgt := St.has (by omega) kgt
  replace kg4 := St.has (by omega) kg4
  replace H := H.stT kg5 (by decide) (by decide) (by decide) (by decide) St
  replace HOa := HOa.no5 ((GroS.refl [g5] _).st St (.inr (by simp))) (jv kg5 (by decide))
  replace HLa := HLa.no46 ((GroS.refl [g5] _).st St (.inr (by simp))) (jK kg5 (by decide) (by decide))
  replace GG := GG.store St bg5
  replace kg5 := St.new
  clear St
  refine wpList_nil (ja (wp_seq (wp_seq (wp_region_lit (sv 82 (.agg (c29 ((hearS id0 x0 y.1 1 ((n0 + 1 : Nat) : Int)).1.mi) ((hearS id0 x0 y.1 1 ((n0 + 1 : Nat) : Int)).1.mn))) (jk 29 _ rfl g4 0 2 rfl 29 _ kg4 _ Try.underlying29 rfl si29 _) ?_)))))
  refine nr ?_; intro U h; simp only [z0, z1] at h; subst h
  refine sv 83 (.agg (c29 x0.mi x0.mn)) (jk 29 _ rfl g2 0 2 rfl 29 _ kg2 _ Try.underlying29 rfl si29 _) ?_
  refine nr ?_; intro U h; simp only [z0, z1] at h; subst h
  obtain ⟨p1, hp1⟩ : ∃ p, (!(decide ((hearS id0 x0 y.1 1 ((n0 + 1 : Nat) : Int)).1.mi = x0.mi) && decide ((hearS id0 x0 y.1 1 ((n0 + 1 : Nat) : Int)).1.mn = x0.mn))) = p := ⟨_, rfl⟩
  refine sv 84 (.bool p1) (JR _ _ _ rfl (hearS id0 x0 y.1 1 ((n0 + 1 : Nat) : Int)).1.mi (hearS id0 x0 y.1 1 ((n0 + 1 : Nat) : Int)).1.mn x0.mi x0.mn rfl rfl p1 hp1 _) ?_
  refine nr ?_; intro U h; simp only [z0, z1] at h; subst h
  cases p1
  have hcnt : cnt n0 x0 (hearS id0 x0 y.1 1 ((n0 + 1 : Nat) : Int)).1 = n0 := if_pos (by simpa using hp1)
  refine wpList_nil (ja (wp_cond_false rfl (wp_skip (ja (wp_seq (wp_seq (wp_region_lit ?_)))))))
  cases hcm : (hearS id0 x0 y.1 1 ((n0 + 1 : Nat) : Int)).2.came
  rw [hcm] at kgt
  have hgts : gets r0 (hearS id0 x0 y.1 1 ((n0 + 1 : Nat) : Int)) = r0 := by unfold gets; rw [hcm]; rfl
  refine sv 95 (pK gt 3) (jc 59 _ 3 rfl _ _ rfl _) (sv 96 (vFa) (je 4 _ rfl gt 3 rfl 59 _ kgt (na4 _) _ rfl) (wpList_nil (ja (wp_cond_false rfl (wp_skip (ja (wp_region_lit (mv 116 (pK tp 0) ?_))))))))
  refine nr ?_; intro U h; simp only [z0, z1] at h; subst h
  refine mv 117 (iK 0) (sv 118 (pK gt 4) (jc 59 _ 4 rfl _ _ rfl _) (sv 119 (.slice ooa fsa.length oca) (je 50 _ rfl gt 4 rfl 59 _ kgt (na50 _) _ rfl) ?_))
  refine nr ?_; intro U h; simp only [z0, z1] at h; subst h
  refine jt 120 rfl rfl _ 32 Try.call32 rfl rfl _ rfl [pK tp 0, iK 0, .slice ooa fsa.length oca] rfl (say0 w0 _ GG _ _ _ _ _ _ _ _ _ _ _ _ _ _ _ _ _ _ _ _ _ _ _ _ _ _ _ H ooa oca fsa HLa (by omega) hflj (.inl hone)) (fun _ _ ⟨he, _⟩ => ⟨_, he⟩) ?_
  rintro v w24 ⟨he, GG2, a2, c2, f2, H2, hfl2, hmem2⟩
  cases he
  clear GG H
  have GG := GG2
  have H := H2
  clear GG2 H2
  refine wpList_nil ?_
  refine jN (results_none Try.results33 _ _ _) rfl ?_
  exact ⟨rfl, GG, y, hy, a3, c3, a2, c2, f2, d0, k0, by rw [hcnt, hgts]; exact H, hfl2, fun z hz => (hmem2 z hz).imp (fun h => h) fun h => by rw [← hma]; exact h⟩
  rw [hcm] at kgt
  have hgts : gets r0 (hearS id0 x0 y.1 1 ((n0 + 1 : Nat) : Int)) = r0 ++ [(zEnt (hearS id0 x0 y.1 1 ((n0 + 1 : Nat) : Int)))] := by unfold gets; rw [hcm]; rfl
  refine sv 95 (pK gt 3) (jc 59 _ 3 rfl _ _ rfl _) (sv 96 (vTr) (je 4 _ rfl gt 3 rfl 59 _ kgt (na4 _) _ rfl) ?_)
  refine nr ?_; intro U h; simp only [z0, z1] at h; subst h
  refine wpList_nil (ja (wp_cond_true rfl ?_))
  obtain ⟨M, eM⟩ : ∃ M, w23.heap.size = M := ⟨_, rfl⟩
  have hBM : w0.heap.size ≤ M := eM ▸ GG.size
  have n5 : No5 w23 (blk d0) := fun k hk => by obtain ⟨_, cur, hc⟩ := OY.at H.u0 k hk; exact ⟨_, _, hc, by decide⟩
  refine zd (A := ?Ag1) (blk d0) 18 [(0, 97), (1, 98), (2, 99), (3, 100), (4, 101), (5, 102), (6, 103), (7, 104), (8, 105), (9, 106), (10, 107), (11, 108), (12, 109), (13, 110), (14, 111), (15, 112), (16, 113), (17, 114)] [.val (pK tp 0), .val (iK 0), .val (pK tp 0), .val (iK 0), .val (pK tp 0), .val (pK tp 8), .val (pK tp 8), .val (.slice d0 r0.length k0), .val (.agg (c29 ((hearS id0 x0 y.1 1 ((n0 + 1 : Nat) : Int)).1.mi) ((hearS id0 x0 y.1 1 ((n0 + 1 : Nat) : Int)).1.mn))), .val (.agg (c29 ((hearS id0 x0 y.1 1 ((n0 + 1 : Nat) : Int)).1.pi) ((hearS id0 x0 y.1 1 ((n0 + 1 : Nat) : Int)).1.pn))), .val (pK gt 2), .val (.slice aoa ((hearS id0 x0 y.1 1 ((n0 + 1 : Nat) : Int)).2.tx.length) capa), .val (.string (bas (hearS id0 x0 y.1 1 ((n0 + 1 : Nat) : Int)).2.tx)), .val (.agg (c88 ((hearS id0 x0 y.1 1 ((n0 + 1 : Nat) : Int)).1.mi) ((hearS id0 x0 y.1 1 ((n0 + 1 : Nat) : Int)).1.mn) ((hearS id0 x0 y.1 1 ((n0 + 1 : Nat) : Int)).1.pi) ((hearS id0 x0 y.1 1 ((n0 + 1 : Nat) : Int)).1.pn) (bas (hearS id0 x0 y.1 1 ((n0 + 1 : Nat) : Int)).2.tx))), bsE2 M (zEnt (hearS id0 x0 y.1 1 ((n0 + 1 : Nat) : Int))), asE w0.heap.size M d0 (r0 ++ [(zEnt (hearS id0 x0 y.1 1 ((n0 + 1 : Nat) : Int)))]), .val (pK tp 0), .val (pK tp 8)] 15 follows (by kernel_rfl) rfl (by decide) (fun j hj hne v a b _ hb hp => match j, hj, hne, hp with | 0, _, _, hp => hp | 1, _, _, hp => hp | 2, _, _, hp => hp | 3, _, _, hp => hp | 4, _, _, hp => hp | 5, _, _, hp => hp | 6, _, _, hp => hp | 7, _, _, hp => hp | 8, _, _, hp => hp | 9, _, _, hp => hp | 10, _, _, hp => hp | 11, _, _, hp => hp | 12, _, _, hp => hp | 13, _, _, hp => hp | 14, _, _, hp => Exists.elim hp fun g hp => ⟨g, hp.1, hp.2.1, hb.has hp.2.2 (zN H.u0 eM hp.2.1)⟩ | 15, _, hne, _ => absurd rfl hne | 16, _, _, hp => hp | 17, _, _, hp => hp | m + 18, hj, _, _ => absurd hj (by omega)) ?hAg1 (jp (by decide) ?o0g1 (jp (by decide) ?o1g1 (jp (by decide) ?o2g1 (jp (by decide) ?o3g1 (jp (by decide) ?o4g1 (jp (by decide) ?o5g1 (jp (by decide) ?o6g1 (jp (by decide) ?o7g1 (jp (by decide) ?o8g1 (jp (by decide) ?o9g1 (jp (by decide) ?o10g1 (jp (by decide) ?o11g1 (jp (by decide) ?o12g1 (jp (by decide) ?o13g1 (jp (by decide) ?o14g1 (zW ?o15g1 (jp (by decide) ?o16g1 (jp (by decide) ?o17g1 zy)))))))))))))))))) ?restg1
  case hAg1 =>
    intro ptrs
    simp only [full, foldSlots, filledE, postE, List.foldl_cons, List.foldl_nil, List.getD_cons_zero, List.getD_cons_succ, ju, zQ, yc,  List.set_cons_zero, List.set_cons_succ]
    exact rfl
  case o0g1 => exact fun _ _ _ _ => jj (v := pK tp 0) _ rfl rfl rfl
  case o1g1 => exact fun _ _ _ _ => jj (v := iK 0) _ rfl rfl rfl
  case o2g1 => exact fun _ _ _ _ => jj (v := pK tp 0) _ rfl rfl rfl
  case o3g1 => exact fun _ _ _ _ => jj (v := iK 0) _ rfl rfl rfl
  case o4g1 => exact fun _ _ hw _ => jb (v := pK tp 0) rfl (jl _ rfl _ rfl)
  case o5g1 => exact fun _ _ hw _ => jb (v := pK tp 8) rfl (jc 83 _ 4 rfl _ _ rfl _)
  case o6g1 => exact fun _ _ hw _ => jb (v := pK tp 8) rfl (jY _ _ rfl tp 8 0 (by decide) rfl rfl _)
  case o7g1 => exact fun _ _ hw _ => jb (v := .slice d0 r0.length k0) rfl (je 80 _ rfl tp 8 rfl 83 _ (hw.has ktp (OY.ne H.u0 ktp (by decide))) (na80 _) _ rfl)
  case o8g1 => exact fun _ _ hw _ => jb (v := .agg (c29 ((hearS id0 x0 y.1 1 ((n0 + 1 : Nat) : Int)).1.mi) ((hearS id0 x0 y.1 1 ((n0 + 1 : Nat) : Int)).1.mn))) rfl (jk 29 _ rfl g4 0 2 rfl 29 _ (hw.has kg4 (OY.ne H.u0 kg4 (by decide))) _ Try.underlying29 rfl si29 _)
  case o9g1 => exact fun _ _ hw _ => jb (v := .agg (c29 ((hearS id0 x0 y.1 1 ((n0 + 1 : Nat) : Int)).1.pi) ((hearS id0 x0 y.1 1 ((n0 + 1 : Nat) : Int)).1.pn))) rfl (jk 29 _ rfl g5 0 2 rfl 29 _ (hw.has kg5 (OY.ne H.u0 kg5 (by decide))) _ Try.underlying29 rfl si29 _)
  case o10g1 => exact fun _ _ hw _ => jb (v := pK gt 2) rfl (jc 59 _ 2 rfl _ _ rfl _)
  case o11g1 => exact fun _ _ hw _ => jb (v := .slice aoa ((hearS id0 x0 y.1 1 ((n0 + 1 : Nat) : Int)).2.tx.length) capa) rfl (je 36 _ rfl gt 2 rfl 59 _ (hw.has kgt (OY.ne H.u0 kgt (by decide))) (na36 _) _ rfl)
  case o12g1 => exact fun _ _ hw _ => jb (v := .string (bas (hearS id0 x0 y.1 1 ((n0 + 1 : Nat) : Int)).2.tx)) rfl (zr bT 9 Try.underlying9 _ rfl rfl (HOa.no5 ((GroS.refl _ _).drew.trans hw) n5).nc)
  case o13g1 => exact fun _ _ hw _ => jb (v := .agg (c88 ((hearS id0 x0 y.1 1 ((n0 + 1 : Nat) : Int)).1.mi) ((hearS id0 x0 y.1 1 ((n0 + 1 : Nat) : Int)).1.mn) ((hearS id0 x0 y.1 1 ((n0 + 1 : Nat) : Int)).1.pi) ((hearS id0 x0 y.1 1 ((n0 + 1 : Nat) : Int)).1.pn) (bas (hearS id0 x0 y.1 1 ((n0 + 1 : Nat) : Int)).2.tx))) rfl (jA 88 _ rfl [(0, .agg (c29 ((hearS id0 x0 y.1 1 ((n0 + 1 : Nat) : Int)).1.mi) ((hearS id0 x0 y.1 1 ((n0 + 1 : Nat) : Int)).1.mn))), (1, .agg (c29 ((hearS id0 x0 y.1 1 ((n0 + 1 : Nat) : Int)).1.pi) ((hearS id0 x0 y.1 1 ((n0 + 1 : Nat) : Int)).1.pn))), (2, .string (bas (hearS id0 x0 y.1 1 ((n0 + 1 : Nat) : Int)).2.tx))] rfl _ (by kernel_rfl))
  case o14g1 =>
    intro ptrs x hw hE
    exact za _ rfl (zp 80 1 _ rfl [(0, .agg (c88 ((hearS id0 x0 y.1 1 ((n0 + 1 : Nat) : Int)).1.mi) ((hearS id0 x0 y.1 1 ((n0 + 1 : Nat) : Int)).1.mn) ((hearS id0 x0 y.1 1 ((n0 + 1 : Nat) : Int)).1.pi) ((hearS id0 x0 y.1 1 ((n0 + 1 : Nat) : Int)).1.pn) (bas (hearS id0 x0 y.1 1 ((n0 + 1 : Nat) : Int)).2.tx)))] rfl (by kernel_rfl)) (jR _ _) ⟨x.heap.size, rfl, Nat.le_trans (Nat.le_of_eq eM.symm) hw.size, heap_alloc_new _ _⟩
  case o15g1 =>
    intro ptrs x hw hE
    exact yw (v := ptrs 14) _ _ rfl rfl H.u0 eM hBM hgl ((Gro.refl _).drew.trans hw) rfl rfl hE.1
  case o16g1 => exact fun _ _ hw _ => jb (v := pK tp 0) rfl (jl _ rfl _ rfl)
  case o17g1 => exact fun _ _ hw _ => jb (v := pK tp 8) rfl (jc 83 _ 4 rfl _ _ rfl _)
  intro ptrs w24 GS hxE
  simp only [List.drop_succ_cons, List.drop_zero]
  obtain ⟨_, ⟨a4, c4, hv, HR4, K⟩, _⟩ := hxE
  simp only [hv]
  clear hv
  have GS2 := ((GroS.refl (blk d0) w23).drew.trans GS)
  clear GS
  subst eM
  replace ktp := GS2.has ktp (OY.ne H.u0 ktp (by decide))
  replace kg1 := GS2.has kg1 (OY.ne H.u0 kg1 (by decide))
  replace kg2 := GS2.has kg2 (OY.ne H.u0 kg2 (by decide))
  replace kg3 := GS2.has kg3 (OY.ne H.u0 kg3 (by decide))
  replace kgt := GS2.has kgt (OY.ne H.u0 kgt (by decide))
  replace kg4 := GS2.has kg4 (OY.ne H.u0 kg4 (by decide))
  replace kg5 := GS2.has kg5 (OY.ne H.u0 kg5 (by decide))
  replace HOa := HOa.no5 GS2 n5
  replace HLa := HLa.no46 GS2 (fun k hk => by obtain ⟨_, cur, hc⟩ := OY.at H.u0 k hk; exact ⟨_, _, hc, by decide, by decide⟩)
  replace GG := GS2.gro GG (OY.base H.u0)
  refine sv 115 (pK tp 8) (jY _ _ rfl tp 8 0 (by decide) rfl rfl _) ?_
  refine jo rfl rfl 80 _ _ rfl tp 8 rfl (.slice a4 ((r0 ++ [(zEnt (hearS id0 x0 y.1 1 ((n0 + 1 : Nat) : Int)))]).length) c4) rfl 83 _ ktp #[.slice a4 ((r0 ++ [(zEnt (hearS id0 x0 y.1 1 ((n0 + 1 : Nat) : Int)))]).length) c4] rfl (by kernel_rfl) (nlB rfl) (by kernel_rfl) (c83 (some ⟨q0, 0, none⟩) (some ⟨q1, 0, none⟩) ⟨a3, ((f0.take m ++ f0.drop (m + 1))).length, c3⟩ ⟨a1, f1.length, c1⟩ ((n0 : Nat) : Int) ((n1 : Nat) : Int) ⟨b0, s0.length, e0⟩ ⟨b1, s1.length, e1⟩ ⟨a4, (r0 ++ [(zEnt (hearS id0 x0 y.1 1 ((n0 + 1 : Nat) : Int)))]).length, c4⟩ ⟨d1, r1.length, k1⟩) (by kernel_rfl) ?_
  intro w26 St
  replace kg1 := St.has (jy kg1 ktp (by decide)) kg1
  replace kg2 := St.has (jy kg2 ktp (by decide)) kg2
  replace kg3 := St.has (jy kg3 ktp (by decide)) kg3
  replace kgt := St.has (jy kgt ktp (by decide)) kgt
  replace kg4 := St.has (jy kg4 ktp (by decide)) kg4
  replace kg5 := St.has (jy kg5 ktp (by decide)) kg5
  replace HOa := HOa.no5 ((GroS.refl [tp] _).st St (.inr (by simp))) (jv ktp (by decide))
  replace HLa := HLa.no46 ((GroS.refl [tp] _).st St (.inr (by simp))) (jK ktp (by decide) (by decide))
  replace GG := GG.store St H.base
  replace H := H.putd0 GS2 K HR4 St
  clear St ktp GS2 K HR4
  have ktp := H.box
  refine wpList_nil (ja (wp_region_lit (mv 116 (pK tp 0) (mv 117 (iK 0) ?_))))
  refine nr ?_; intro U h; simp only [z0, z1] at h; subst h
  refine sv 118 (pK gt 4) (jc 59 _ 4 rfl _ _ rfl _) (sv 119 (.slice ooa fsa.length oca) (je 50 _ rfl gt 4 rfl 59 _ kgt (na50 _) _ rfl) ?_)
  refine jt 120 rfl rfl _ 32 Try.call32 rfl rfl _ rfl [pK tp 0, iK 0, .slice ooa fsa.length oca] rfl (say0 w0 _ GG _ _ _ _ _ _ _ _ _ _ _ _ _ _ _ _ _ _ _ _ _ _ _ _ _ _ _ H ooa oca fsa HLa (by omega) hflj (.inl hone)) (fun _ _ ⟨he, _⟩ => ⟨_, he⟩) ?_
  rintro v w27 ⟨he, GG2, a2, c2, f2, H2, hfl2, hmem2⟩
  cases he
  clear GG H
  have GG := GG2
  have H := H2
  clear GG2 H2
  refine nr ?_; intro U h; simp only [z0, z1] at h; subst h
  refine wpList_nil ?_
  refine jN (results_none Try.results33 _ _ _) rfl ?_
  exact ⟨rfl, GG, y, hy, a3, c3, a2, c2, f2, a4, c4, by rw [hcnt, hgts]; exact H, hfl2, fun z hz => (hmem2 z hz).imp (fun h => h) fun h => by rw [← hma]; exact h⟩
  have hcnt : cnt n0 x0 (hearS id0 x0 y.1 1 ((n0 + 1 : Nat) : Int)).1 = n0 + 1 := if_neg (fun h => by rw [h.1, h.2] at hp1; simp at hp1)
  refine wpList_nil (ja (wp_cond_true rfl ?_))
  refine jw (A := ?Ax2) 9 [(0, 85), (1, 86), (2, 87), (3, 88), (4, 89), (5, 90), (6, 91), (7, 92), (8, 93)] [.val (pK tp 0), .val (iK 0), .val (pK tp 0), .val (pK tp 4), .val (pK tp 4), .val (iK ((n0 : Nat) : Int)), .val (iK ((n0 + 1 : Nat) : Int)), .val (pK tp 0), .val (pK tp 4)] follows (by kernel_rfl) rfl ?hAx2 (jd ?o0x2 (jd ?o1x2 (jd ?o2x2 (jd ?o3x2 (jd ?o4x2 (jd ?o5x2 (jd ?o6x2 (jd ?o7x2 (jd ?o8x2 jM))))))))) ?restx2
  case hAx2 =>
    intro ptrs
    simp only [full, foldSlots, filledE, postE, List.foldl_cons, List.foldl_nil, List.getD_cons_zero, List.getD_cons_succ, ju, List.set_cons_zero, List.set_cons_succ]
    exact rfl
  case o0x2 => exact fun _ _ _ _ => jj (v := pK tp 0) _ rfl rfl rfl
  case o1x2 => exact fun _ _ _ _ => jj (v := iK 0) _ rfl rfl rfl
  case o2x2 => exact fun _ _ hw _ => jb (v := pK tp 0) rfl (jl _ rfl _ rfl)
  case o3x2 => exact fun _ _ hw _ => jb (v := pK tp 4) rfl (jc 83 _ 2 rfl _ _ rfl _)
  case o4x2 => exact fun _ _ hw _ => jb (v := pK tp 4) rfl (zu _ _ rfl tp 4 0 (by decide) rfl rfl _)
  case o5x2 => exact fun _ _ hw _ => jb (v := iK ((n0 : Nat) : Int)) rfl (je 2 _ rfl tp 4 rfl 83 _ (hw.has ktp) (na2 _) _ rfl)
  case o6x2 => exact fun _ _ hw _ => jb (v := iK ((n0 + 1 : Nat) : Int)) rfl (jF 2 _ _ _ rfl ((n0 : Nat) : Int) 1 ((n0 + 1 : Nat) : Int) rfl rfl (by omega) (by omega) (by omega) _)
  case o7x2 => exact fun _ _ hw _ => jb (v := pK tp 0) rfl (jl _ rfl _ rfl)
  case o8x2 => exact fun _ _ hw _ => jb (v := pK tp 4) rfl (jc 83 _ 2 rfl _ _ rfl _)
  intro ptrs w24 GD hxE
  simp only [List.drop_succ_cons, List.drop_zero]
  replace ktp := GD.has ktp
  replace kg1 := GD.has kg1
  replace kg2 := GD.has kg2
  replace kg3 := GD.has kg3
  replace kgt := GD.has kgt
  replace kg4 := GD.has kg4
  replace kg5 := GD.has kg5
  replace H := H.gro ((Gro.refl _).drew.trans GD)
  replace HOa := HOa.gro ((Gro.refl _).drew.trans GD)
  replace HLa := HLa.gro ((Gro.refl _).drew.trans GD)
  replace GG := GG.drew.trans GD
  clear GD
  refine sv 94 (pK tp 4) (zu _ _ rfl tp 4 0 (by decide) rfl rfl _) ?_
  refine jo rfl rfl 2 _ _ rfl tp 4 rfl (iK ((n0 + 1 : Nat) : Int)) rfl 83 _ ktp #[iK ((n0 + 1 : Nat) : Int)] rfl (by kernel_rfl) (nlB rfl) (by kernel_rfl) (c83 (some ⟨q0, 0, none⟩) (some ⟨q1, 0, none⟩) ⟨a3, ((f0.take m ++ f0.drop (m + 1))).length, c3⟩ ⟨a1, f1.length, c1⟩ ((n0 + 1 : Nat) : Int) ((n1 : Nat) : Int) ⟨b0, s0.length, e0⟩ ⟨b1, s1.length, e1⟩ ⟨d0, r0.length, k0⟩ ⟨d1, r1.length, k1⟩) (by kernel_rfl) ?_
  intro w26 St
  replace kg1 := St.has (jy kg1 ktp (by decide)) kg1
  replace kg2 := St.has (jy kg2 ktp (by decide)) kg2
  replace kg3 := St.has (jy kg3 ktp (by decide)) kg3
  replace kgt := St.has (jy kgt ktp (by decide)) kgt
  replace kg4 := St.has (jy kg4 ktp (by decide)) kg4
  replace kg5 := St.has (jy kg5 ktp (by decide)) kg5
  replace HOa := HOa.no5 ((GroS.refl [tp] _).st St (.inr (by simp))) (jv ktp (by decide))
  replace HLa := HLa.no46 ((GroS.refl [tp] _).st St (.inr (by simp))) (jK ktp (by decide) (by decide))
  replace GG := GG.store St H.base
  replace H := H.cnt0 St
  clear St ktp
  have ktp := H.box
  refine wpList_nil (ja (wp_seq (wp_seq (wp_region_lit ?_))))
  cases hcm : (hearS id0 x0 y.1 1 ((n0 + 1 : Nat) : Int)).2.came
  rw [hcm] at kgt
  have hgts : gets r0 (hearS id0 x0 y.1 1 ((n0 + 1 : Nat) : Int)) = r0 := by unfold gets; rw [hcm]; rfl
  refine sv 95 (pK gt 3) (jc 59 _ 3 rfl _ _ rfl _) (sv 96 (vFa) (je 4 _ rfl gt 3 rfl 59 _ kgt (na4 _) _ rfl) ?_)
  refine nr ?_; intro U h; simp only [z0, z1] at h; subst h
  refine wpList_nil (ja (wp_cond_false rfl (wp_skip (ja (wp_region_lit (mv 116 (pK tp 0) (mv 117 (iK 0) (sv 118 (pK gt 4) (jc 59 _ 4 rfl _ _ rfl _) ?_))))))))
  refine nr ?_; intro U h; simp only [z0, z1] at h; subst h
  refine sv 119 (.slice ooa fsa.length oca) (je 50 _ rfl gt 4 rfl 59 _ kgt (na50 _) _ rfl) ?_
  refine jt 120 rfl rfl _ 32 Try.call32 rfl rfl _ rfl [pK tp 0, iK 0, .slice ooa fsa.length oca] rfl (say0 w0 _ GG _ _ _ _ _ _ _ _ _ _ _ _ _ _ _ _ _ _ _ _ _ _ _ _ _ _ _ H ooa oca fsa HLa (by omega) hflj (.inl hone)) (fun _ _ ⟨he, _⟩ => ⟨_, he⟩) ?_
  rintro v w27 ⟨he, GG2, a2, c2, f2, H2, hfl2, hmem2⟩
  cases he
  clear GG H
  have GG := GG2
  have H := H2
  clear GG2 H2
  refine wpList_nil ?_
  refine jN (results_none Try.results33 _ _ _) rfl ?_
  exact ⟨rfl, GG, y, hy, a3, c3, a2, c2, f2, d0, k0, by rw [hcnt, hgts]; exact H, hfl2, fun z hz => (hmem2 z hz).imp (fun h => h) fun h => by rw [← hma]; exact h⟩
  rw [hcm] at kgt
  have hgts : gets r0 (hearS id0 x0 y.1 1 ((n0 + 1 : Nat) : Int)) = r0 ++ [(zEnt (hearS id0 x0 y.1 1 ((n0 + 1 : Nat) : Int)))] := by unfold gets; rw [hcm]; rfl
  refine sv 95 (pK gt 3) (jc 59 _ 3 rfl _ _ rfl _) ?_
  refine nr ?_; intro U h; simp only [z0, z1] at h; subst h
  refine sv 96 (vTr) (je 4 _ rfl gt 3 rfl 59 _ kgt (na4 _) _ rfl) (wpList_nil (ja (wp_cond_true rfl ?_)))
  obtain ⟨M, eM⟩ : ∃ M, w26.heap.size = M := ⟨_, rfl⟩
  have hBM : w0.heap.size ≤ M := eM ▸ GG.size
  have n5 : No5 w26 (blk d0) := fun k hk => by obtain ⟨_, cur, hc⟩ := OY.at H.u0 k hk; exact ⟨_, _, hc, by decide⟩
  refine zd (A := ?Ag3) (blk d0) 18 [(0, 97), (1, 98), (2, 99), (3, 100), (4, 101), (5, 102), (6, 103), (7, 104), (8, 105), (9, 106), (10, 107), (11, 108), (12, 109), (13, 110), (14, 111), (15, 112), (16, 113), (17, 114)] [.val (pK tp 0), .val (iK 0), .val (pK tp 0), .val (iK 0), .val (pK tp 0), .val (pK tp 8), .val (pK tp 8), .val (.slice d0 r0.length k0), .val (.agg (c29 ((hearS id0 x0 y.1 1 ((n0 + 1 : Nat) : Int)).1.mi) ((hearS id0 x0 y.1 1 ((n0 + 1 : Nat) : Int)).1.mn))), .val (.agg (c29 ((hearS id0 x0 y.1 1 ((n0 + 1 : Nat) : Int)).1.pi) ((hearS id0 x0 y.1 1 ((n0 + 1 : Nat) : Int)).1.pn))), .val (pK gt 2), .val (.slice aoa ((hearS id0 x0 y.1 1 ((n0 + 1 : Nat) : Int)).2.tx.length) capa), .val (.string (bas (hearS id0 x0 y.1 1 ((n0 + 1 : Nat) : Int)).2.tx)), .val (.agg (c88 ((hearS id0 x0 y.1 1 ((n0 + 1 : Nat) : Int)).1.mi) ((hearS id0 x0 y.1 1 ((n0 + 1 : Nat) : Int)).1.mn) ((hearS id0 x0 y.1 1 ((n0 + 1 : Nat) : Int)).1.pi) ((hearS id0 x0 y.1 1 ((n0 + 1 : Nat) : Int)).1.pn) (bas (hearS id0 x0 y.1 1 ((n0 + 1 : Nat) : Int)).2.tx))), bsE2 M (zEnt (hearS id0 x0 y.1 1 ((n0 + 1 : Nat) : Int))), asE w0.heap.size M d0 (r0 ++ [(zEnt (hearS id0 x0 y.1 1 ((n0 + 1 : Nat) : Int)))]), .val (pK tp 0), .val (pK tp 8)] 15 follows (by kernel_rfl) rfl (by decide) (fun j hj hne v a b _ hb hp => match j, hj, hne, hp with | 0, _, _, hp => hp | 1, _, _, hp => hp | 2, _, _, hp => hp | 3, _, _, hp => hp | 4, _, _, hp => hp | 5, _, _, hp => hp | 6, _, _, hp => hp | 7, _, _, hp => hp | 8, _, _, hp => hp | 9, _, _, hp => hp | 10, _, _, hp => hp | 11, _, _, hp => hp | 12, _, _, hp => hp | 13, _, _, hp => hp | 14, _, _, hp => Exists.elim hp fun g hp => ⟨g, hp.1, hp.2.1, hb.has hp.2.2 (zN H.u0 eM hp.2.1)⟩ | 15, _, hne, _ => absurd rfl hne | 16, _, _, hp => hp | 17, _, _, hp => hp | m + 18, hj, _, _ => absurd hj (by omega)) ?hAg3 (jp (by decide) ?o0g3 (jp (by decide) ?o1g3 (jp (by decide) ?o2g3 (jp (by decide) ?o3g3 (jp (by decide) ?o4g3 (jp (by decide) ?o5g3 (jp (by decide) ?o6g3 (jp (by decide) ?o7g3 (jp (by decide) ?o8g3 (jp (by decide) ?o9g3 (jp (by decide) ?o10g3 (jp (by decide) ?o11g3 (jp (by decide) ?o12g3 (jp (by decide) ?o13g3 (jp (by decide) ?o14g3 (zW ?o15g3 (jp (by decide) ?o16g3 (jp (by decide) ?o17g3 zy)))))))))))))))))) ?restg3
  case hAg3 =>
    intro ptrs
    simp only [full, foldSlots, filledE, postE, List.foldl_cons, List.foldl_nil, List.getD_cons_zero, List.getD_cons_succ, ju, zQ, yc,  List.set_cons_zero, List.set_cons_succ]
    exact rfl
  case o0g3 => exact fun _ _ _ _ => jj (v := pK tp 0) _ rfl rfl rfl
  case o1g3 => exact fun _ _ _ _ => jj (v := iK 0) _ rfl rfl rfl
  case o2g3 => exact fun _ _ _ _ => jj (v := pK tp 0) _ rfl rfl rfl
  case o3g3 => exact fun _ _ _ _ => jj (v := iK 0) _ rfl rfl rfl
  case o4g3 => exact fun _ _ hw _ => jb (v := pK tp 0) rfl (jl _ rfl _ rfl)
  case o5g3 => exact fun _ _ hw _ => jb (v := pK tp 8) rfl (jc 83 _ 4 rfl _ _ rfl _)
  case o6g3 => exact fun _ _ hw _ => jb (v := pK tp 8) rfl (jY _ _ rfl tp 8 0 (by decide) rfl rfl _)
  case o7g3 => exact fun _ _ hw _ => jb (v := .slice d0 r0.length k0) rfl (je 80 _ rfl tp 8 rfl 83 _ (hw.has ktp (OY.ne H.u0 ktp (by decide))) (na80 _) _ rfl)
  case o8g3 => exact fun _ _ hw _ => jb (v := .agg (c29 ((hearS id0 x0 y.1 1 ((n0 + 1 : Nat) : Int)).1.mi) ((hearS id0 x0 y.1 1 ((n0 + 1 : Nat) : Int)).1.mn))) rfl (jk 29 _ rfl g4 0 2 rfl 29 _ (hw.has kg4 (OY.ne H.u0 kg4 (by decide))) _ Try.underlying29 rfl si29 _)
  case o9g3 => exact fun _ _ hw _ => jb (v := .agg (c29 ((hearS id0 x0 y.1 1 ((n0 + 1 : Nat) : Int)).1.pi) ((hearS id0 x0 y.1 1 ((n0 + 1 : Nat) : Int)).1.pn))) rfl (jk 29 _ rfl g5 0 2 rfl 29 _ (hw.has kg5 (OY.ne H.u0 kg5 (by decide))) _ Try.underlying29 rfl si29 _)
  case o10g3 => exact fun _ _ hw _ => jb (v := pK gt 2) rfl (jc 59 _ 2 rfl _ _ rfl _)
  case o11g3 => exact fun _ _ hw _ => jb (v := .slice aoa ((hearS id0 x0 y.1 1 ((n0 + 1 : Nat) : Int)).2.tx.length) capa) rfl (je 36 _ rfl gt 2 rfl 59 _ (hw.has kgt (OY.ne H.u0 kgt (by decide))) (na36 _) _ rfl)
  case o12g3 => exact fun _ _ hw _ => jb (v := .string (bas (hearS id0 x0 y.1 1 ((n0 + 1 : Nat) : Int)).2.tx)) rfl (zr bT 9 Try.underlying9 _ rfl rfl (HOa.no5 ((GroS.refl _ _).drew.trans hw) n5).nc)
  case o13g3 => exact fun _ _ hw _ => jb (v := .agg (c88 ((hearS id0 x0 y.1 1 ((n0 + 1 : Nat) : Int)).1.mi) ((hearS id0 x0 y.1 1 ((n0 + 1 : Nat) : Int)).1.mn) ((hearS id0 x0 y.1 1 ((n0 + 1 : Nat) : Int)).1.pi) ((hearS id0 x0 y.1 1 ((n0 + 1 : Nat) : Int)).1.pn) (bas (hearS id0 x0 y.1 1 ((n0 + 1 : Nat) : Int)).2.tx))) rfl (jA 88 _ rfl [(0, .agg (c29 ((hearS id0 x0 y.1 1 ((n0 + 1 : Nat) : Int)).1.mi) ((hearS id0 x0 y.1 1 ((n0 + 1 : Nat) : Int)).1.mn))), (1, .agg (c29 ((hearS id0 x0 y.1 1 ((n0 + 1 : Nat) : Int)).1.pi) ((hearS id0 x0 y.1 1 ((n0 + 1 : Nat) : Int)).1.pn))), (2, .string (bas (hearS id0 x0 y.1 1 ((n0 + 1 : Nat) : Int)).2.tx))] rfl _ (by kernel_rfl))
  case o14g3 =>
    intro ptrs x hw hE
    exact za _ rfl (zp 80 1 _ rfl [(0, .agg (c88 ((hearS id0 x0 y.1 1 ((n0 + 1 : Nat) : Int)).1.mi) ((hearS id0 x0 y.1 1 ((n0 + 1 : Nat) : Int)).1.mn) ((hearS id0 x0 y.1 1 ((n0 + 1 : Nat) : Int)).1.pi) ((hearS id0 x0 y.1 1 ((n0 + 1 : Nat) : Int)).1.pn) (bas (hearS id0 x0 y.1 1 ((n0 + 1 : Nat) : Int)).2.tx)))] rfl (by kernel_rfl)) (jR _ _) ⟨x.heap.size, rfl, Nat.le_trans (Nat.le_of_eq eM.symm) hw.size, heap_alloc_new _ _⟩
  case o15g3 =>
    intro ptrs x hw hE
    exact yw (v := ptrs 14) _ _ rfl rfl H.u0 eM hBM hgl ((Gro.refl _).drew.trans hw) rfl rfl hE.1
  case o16g3 => exact fun _ _ hw _ => jb (v := pK tp 0) rfl (jl _ rfl _ rfl)
  case o17g3 => exact fun _ _ hw _ => jb (v := pK tp 8) rfl (jc 83 _ 4 rfl _ _ rfl _)
  intro ptrs w27 GS hxE
  simp only [List.drop_succ_cons, List.drop_zero]
  obtain ⟨_, ⟨a4, c4, hv, HR4, K⟩, _⟩ := hxE
  simp only [hv]
  clear hv
  have GS2 := ((GroS.refl (blk d0) w26).drew.trans GS)
  clear GS
  subst eM
  replace ktp := GS2.has ktp (OY.ne H.u0 ktp (by decide))
  replace kg1 := GS2.has kg1 (OY.ne H.u0 kg1 (by decide))
  replace kg2 := GS2.has kg2 (OY.ne H.u0 kg2 (by decide))
  replace kg3 := GS2.has kg3 (OY.ne H.u0 kg3 (by decide))
  replace kgt := GS2.has kgt (OY.ne H.u0 kgt (by decide))
  replace kg4 := GS2.has kg4 (OY.ne H.u0 kg4 (by decide))
  replace kg5 := GS2.has kg5 (OY.ne H.u0 kg5 (by decide))
  replace HOa := HOa.no5 GS2 n5
  replace HLa := HLa.no46 GS2 (fun k hk => by obtain ⟨_, cur, hc⟩ := OY.at H.u0 k hk; exact ⟨_, _, hc, by decide, by decide⟩)
  replace GG := GS2.gro GG (OY.base H.u0)
  refine sv 115 (pK tp 8) (jY _ _ rfl tp 8 0 (by decide) rfl rfl _) ?_
  refine jo rfl rfl 80 _ _ rfl tp 8 rfl (.slice a4 ((r0 ++ [(zEnt (hearS id0 x0 y.1 1 ((n0 + 1 : Nat) : Int)))]).length) c4) rfl 83 _ ktp #[.slice a4 ((r0 ++ [(zEnt (hearS id0 x0 y.1 1 ((n0 + 1 : Nat) : Int)))]).length) c4] rfl (by kernel_rfl) (nlB rfl) (by kernel_rfl) (c83 (some ⟨q0, 0, none⟩) (some ⟨q1, 0, none⟩) ⟨a3, ((f0.take m ++ f0.drop (m + 1))).length, c3⟩ ⟨a1, f1.length, c1⟩ ((n0 + 1 : Nat) : Int) ((n1 : Nat) : Int) ⟨b0, s0.length, e0⟩ ⟨b1, s1.length, e1⟩ ⟨a4, (r0 ++ [(zEnt (hearS id0 x0 y.1 1 ((n0 + 1 : Nat) : Int)))]).length, c4⟩ ⟨d1, r1.length, k1⟩) (by kernel_rfl) ?_
  intro w29 St
  replace kg1 := St.has (jy kg1 ktp (by decide)) kg1
  replace kg2 := St.has (jy kg2 ktp (by decide)) kg2
  replace kg3 := St.has (jy kg3 ktp (by decide)) kg3
  replace kgt := St.has (jy kgt ktp (by decide)) kgt
  replace kg4 := St.has (jy kg4 ktp (by decide)) kg4
  replace kg5 := St.has (jy kg5 ktp (by decide)) kg5
  replace HOa := HOa.no5 ((GroS.refl [tp] _).st St (.inr (by simp))) (jv ktp (by decide))
  replace HLa := HLa.no46 ((GroS.refl [tp] _).st St (.inr (by simp))) (jK ktp (by decide) (by decide))
  replace GG := GG.store St H.base
  replace H := H.putd0 GS2 K HR4 St
  clear St ktp GS2 K HR4
  have ktp := H.box
  refine wpList_nil (ja (wp_region_lit (mv 116 (pK tp 0) ?_)))
  refine nr ?_; intro U h; simp only [z0, z1] at h; subst h
  refine mv 117 (iK 0) (sv 118 (pK gt 4) (jc 59 _ 4 rfl _ _ rfl _) (sv 119 (.slice ooa fsa.length oca) (je 50 _ rfl gt 4 rfl 59 _ kgt (na50 _) _ rfl) ?_))
  refine nr ?_; intro U h; simp only [z0, z1] at h; subst h
  refine jt 120 rfl rfl _ 32 Try.call32 rfl rfl _ rfl [pK tp 0, iK 0, .slice ooa fsa.length oca] rfl (say0 w0 _ GG _ _ _ _ _ _ _ _ _ _ _ _ _ _ _ _ _ _ _ _ _ _ _ _ _ _ _ H ooa oca fsa HLa (by omega) hflj (.inl hone)) (fun _ _ ⟨he, _⟩ => ⟨_, he⟩) ?_
  rintro v w30 ⟨he, GG2, a2, c2, f2, H2, hfl2, hmem2⟩
  cases he
  clear GG H
  have GG := GG2
  have H := H2
  clear GG2 H2
  refine wpList_nil ?_
  refine jN (results_none Try.results33 _ _ _) rfl ?_
  exact ⟨rfl, GG, y, hy, a3, c3, a2, c2, f2, a4, c4, by rw [hcnt, hgts]; exact H, hfl2, fun z hz => (hmem2 z hz).imp (fun h => h) fun h => by rw [← hma]; exact h⟩
theorem come1 (w0 w : World) (G0 : Gro w0 w) (tp : Nat) (q0 : Nat) (q1 : Nat) (id0 : Nat → Nat) (id1 : Nat → Nat) (x0 : ES) (x1 : ES) (n0 : Nat) (n1 : Nat) (a0 : Option Addr) (c0 : Nat) (f0 : List (PF × Fr)) (a1 : Option Addr) (c1 : Nat) (f1 : List (PF × Fr)) (b0 : Option Addr) (e0 : Nat) (s0 : List SE) (b1 : Option Addr) (e1 : Nat) (s1 : List SE) (d0 : Option Addr) (k0 : Nat) (r0 : List SE) (d1 : Option Addr) (k1 : Nat) (r1 : List SE) (H : Tk w0.heap.size w tp q0 q1 id0 id1 x0 x1 n0 n1 a0 c0 f0 a1 c1 f1 b0 e0 s0 b1 e1 s1 d0 k0 r0 d1 k1 r1) (m : Nat) (hmi : m < f1.length) (hfli : f1.length ≤ 200) (hflj : f0.length ≤ 200) (htx : ∀ y ∈ f1.map (·.1), y.tx.length ≤ 4096) (hk : x1.k + x1.q.length ≤ 1000) (hc : x1.c ≤ 1000) (hn : n1 ≤ 1000) (hgl : r1.length ≤ 10000) : Calls Try.prog 33 #[pK tp 0, iK 1, iK ((m : Nat) : Int)] w fun e w' => e = .returned (.tuple #[]) ∧ Gro w0 w' ∧ ∃ (y : PF × Fr), f1[m]? = some y ∧ ∃ (a : Option Addr) (c : Nat) (b : Option Addr) (e : Nat) (g : List (PF × Fr)) (d : Option Addr) (k : Nat), Tk w0.heap.size w' tp q0 q1 id0 id1 x0 (hearS id1 x1 y.1 1 ((n1 + 1 : Nat) : Int)).1 n0 (cnt n1 x1 (hearS id1 x1 y.1 1 ((n1 + 1 : Nat) : Int)).1) b e g a c (f1.take m ++ f1.drop (m + 1)) b0 e0 s0 b1 e1 s1 d0 k0 r0 d k (gets r1 (hearS id1 x1 y.1 1 ((n1 + 1 : Nat) : Int))) ∧ g.length ≤ 200 ∧ ∀ z ∈ g.map (·.1), z ∈ f0.map (·.1) ∨ z ∈ (hearS id1 x1 y.1 1 ((n1 + 1 : Nat) : Int)).2.out := by
  refine jq Try.func33 rfl Try.ntmps33 [pK tp 0, iK 1, iK ((m : Nat) : Int)] ?_
  intro U h; simp only [List.length_cons, List.length_nil, List.cons_append, List.nil_append, Nat.reduceAdd, Nat.reduceSub, List.reduceReplicate] at h; subst h
  have GG := Gro.refl w
  replace GG := G0
  have ktp := H.box
  obtain ⟨y, hy⟩ : ∃ y, f1[m]? = some y := ⟨_, List.getElem?_eq_getElem hmi⟩
  have FVy := H.l1.fv y (List.mem_of_getElem? hy)
  have htxy : y.1.tx.length ≤ 140737488355000 := by have := htx y.1 (List.mem_map_of_mem (List.mem_of_getElem? hy)); omega
  obtain ⟨ad, hao⟩ := H.l1.some (by omega)
  refine wp_seq (wp_region_lit (mv 12 (pK tp 0) (mv 13 (iK 1) (sv 14 (pK tp 0) (jl _ rfl _ rfl) ?_))))
  refine nr ?_; intro U h; simp only [z0, z1] at h; subst h
  refine sv 15 (pK tp 2) (jc 83 _ 1 rfl _ _ rfl _) (sv 16 (pK tp 3) (jB _ _ rfl tp 2 1 (by decide) rfl rfl _) (sv 17 (.slice a1 f1.length c1) (je 50 _ rfl tp 3 rfl 83 _ ktp (na50 _) _ rfl) ?_))
  refine nr ?_; intro U h; simp only [z0, z1] at h; subst h
  refine mv 18 (iK ((m : Nat) : Int)) (sv 19 (.pointer (some (ad.add (m * 95)))) (zO _ _ rfl ad f1.length c1 m (by exact congrArg (fun a => Value.slice a f1.length c1) hao) rfl hmi _) (sv 20 (.agg (frA y.2)) (yl _ rfl ad m rfl _ (hao ▸ H.l1) y hy) ?_))
  refine nr ?_; intro U h; simp only [z0, z1] at h; subst h
  refine js 6 rfl rfl 46 rfl _ zv46 _ rfl ?_
  intro w1 g1 G eg1 kg1
  have bg1 := jh GG eg1
  have n0g1 : ∀ k ∈ blk a0, k < g1 := fun k hk => eg1 ▸ H.l0.row.lt k hk
  have n1g1 : ∀ k ∈ blk a1, k < g1 := fun k hk => eg1 ▸ H.l1.row.lt k hk
  have dtpg1 := jf ktp eg1
  replace ktp := G.has ktp
  replace H := H.gro G
  replace FVy := FVy.gro G
  replace GG := GG.trans G
  clear G eg1
  refine jo rfl rfl 46 _ _ rfl g1 0 rfl (.agg (frA y.2)) rfl 46 _ kg1 (frA y.2) rfl (by kernel_rfl) (nlB rfl) (by kernel_rfl) (frA y.2) (by kernel_rfl) ?_
  intro w3 St
  replace ktp := St.has (by omega) ktp
  replace H := H.gros (S := [g1]) ((GroS.refl [g1] _).st St (.inr (by simp))) (fun k hk => by cases List.mem_singleton.1 hk; exact ⟨_, _, kg1, by decide, by decide, by decide, fun _ => ⟨fun hm => Nat.lt_irrefl _ (n0g1 _ hm), fun hm => Nat.lt_irrefl _ (n1g1 _ hm)⟩⟩)
  replace FVy := FVy.no5 ((GroS.refl [g1] _).st St (.inr (by simp))) (jv kg1 (by decide))
  replace GG := GG.store St bg1
  replace kg1 := St.new
  clear St
  refine wpList_nil (ja (wp_seq ?_))
  obtain ⟨M, eM⟩ : ∃ M, w3.heap.size = M := ⟨_, rfl⟩
  have hBM : w0.heap.size ≤ M := eM ▸ GG.size
  have GX := Gro.refl w3
  have htpM : tp < M := eM ▸ jm ktp
  have hg1M : g1 < M := eM ▸ jm kg1
  refine jJ (A := ?Ap3) (fun _ x => Gro w0 x ∧ x.heap[tp]? = some (.cells (c83 (some ⟨q0, 0, none⟩) (some ⟨q1, 0, none⟩) ⟨a0, f0.length, c0⟩ ⟨a1, f1.length, c1⟩ ((n0 : Nat) : Int) ((n1 : Nat) : Int) ⟨b0, s0.length, e0⟩ ⟨b1, s1.length, e1⟩ ⟨d0, r0.length, k0⟩ ⟨d1, r1.length, k1⟩) 83 (0, 0)) ∧ x.heap[g1]? = some (.cells (frA y.2) 46 (0, 0)) ∧ Gro w3 x) 24 [(0, 21), (1, 22), (2, 23), (3, 24), (4, 25), (5, 26), (6, 27), (7, 28), (8, 29), (9, 30), (10, 31), (11, 32), (12, 33), (13, 34), (14, 35), (15, 36), (16, 37), (17, 38), (18, 39), (19, 40), (20, 41), (21, 42), (22, 43), (23, 44)] [.val (pK tp 0), .val (iK 1), zfE M, .val (pK tp 0), .val (iK 1), .val (pK tp 0), .val (pK tp 2), .val (pK tp 3), .val (.slice a1 f1.length c1), .val (iK ((m : Nat) : Int)), .val (.slice a1 m c1), tkE M (f1.take m), .val (pK tp 0), .val (iK 1), .val (pK tp 0), .val (pK tp 2), .val (pK tp 3), .val (.slice a1 f1.length c1), .val (iK ((m : Nat) : Int)), .val (iK ((m + 1 : Nat) : Int)), .val (.slice (if c1 = m + 1 then a1 else a1.map (·.add ((m + 1) * 95))) (f1.length - (m + 1)) (c1 - (m + 1))), tkE M (f1.take m ++ f1.drop (m + 1)), .val (pK tp 0), .val (pK tp 2)] [(21, 2), (21, 11)] [21] follows (by kernel_rfl) rfl (by kernel_rfl) (by decide) ⟨GG.drew, (Gro.refl _).drew.has ktp, (Gro.refl _).drew.has kg1, GX.trans (Gro.refl _).drew⟩ ?hAp3 (ji (fun _ _ _ h _ G => ⟨h.1.trans G, G.has h.2.1, G.has h.2.2.1, h.2.2.2.trans G⟩) ?o0p3 (ji (fun _ _ _ h _ G => ⟨h.1.trans G, G.has h.2.1, G.has h.2.2.1, h.2.2.2.trans G⟩) ?o1p3 (ji (fun _ _ _ h _ G => ⟨h.1.trans G, G.has h.2.1, G.has h.2.2.1, h.2.2.2.trans G⟩) ?o2p3 (ji (fun _ _ _ h _ G => ⟨h.1.trans G, G.has h.2.1, G.has h.2.2.1, h.2.2.2.trans G⟩) ?o3p3 (ji (fun _ _ _ h _ G => ⟨h.1.trans G, G.has h.2.1, G.has h.2.2.1, h.2.2.2.trans G⟩) ?o4p3 (ji (fun _ _ _ h _ G => ⟨h.1.trans G, G.has h.2.1, G.has h.2.2.1, h.2.2.2.trans G⟩) ?o5p3 (ji (fun _ _ _ h _ G => ⟨h.1.trans G, G.has h.2.1, G.has h.2.2.1, h.2.2.2.trans G⟩) ?o6p3 (ji (fun _ _ _ h _ G => ⟨h.1.trans G, G.has h.2.1, G.has h.2.2.1, h.2.2.2.trans G⟩) ?o7p3 (ji (fun _ _ _ h _ G => ⟨h.1.trans G, G.has h.2.1, G.has h.2.2.1, h.2.2.2.trans G⟩) ?o8p3 (ji (fun _ _ _ h _ G => ⟨h.1.trans G, G.has h.2.1, G.has h.2.2.1, h.2.2.2.trans G⟩) ?o9p3 (ji (fun _ _ _ h _ G => ⟨h.1.trans G, G.has h.2.1, G.has h.2.2.1, h.2.2.2.trans G⟩) ?o10p3 (ji (fun _ _ _ h _ G => ⟨h.1.trans G, G.has h.2.1, G.has h.2.2.1, h.2.2.2.trans G⟩) ?o11p3 (ji (fun _ _ _ h _ G => ⟨h.1.trans G, G.has h.2.1, G.has h.2.2.1, h.2.2.2.trans G⟩) ?o12p3 (ji (fun _ _ _ h _ G => ⟨h.1.trans G, G.has h.2.1, G.has h.2.2.1, h.2.2.2.trans G⟩) ?o13p3 (ji (fun _ _ _ h _ G => ⟨h.1.trans G, G.has h.2.1, G.has h.2.2.1, h.2.2.2.trans G⟩) ?o14p3 (ji (fun _ _ _ h _ G => ⟨h.1.trans G, G.has h.2.1, G.has h.2.2.1, h.2.2.2.trans G⟩) ?o15p3 (ji (fun _ _ _ h _ G => ⟨h.1.trans G, G.has h.2.1, G.has h.2.2.1, h.2.2.2.trans G⟩) ?o16p3 (ji (fun _ _ _ h _ G => ⟨h.1.trans G, G.has h.2.1, G.has h.2.2.1, h.2.2.2.trans G⟩) ?o17p3 (ji (fun _ _ _ h _ G => ⟨h.1.trans G, G.has h.2.1, G.has h.2.2.1, h.2.2.2.trans G⟩) ?o18p3 (ji (fun _ _ _ h _ G => ⟨h.1.trans G, G.has h.2.1, G.has h.2.2.1, h.2.2.2.trans G⟩) ?o19p3 (ji (fun _ _ _ h _ G => ⟨h.1.trans G, G.has h.2.1, G.has h.2.2.1, h.2.2.2.trans G⟩) ?o20p3 (jX ?o21p3 (ji (fun _ _ _ h _ G => ⟨h.1.trans G, G.has h.2.1, G.has h.2.2.1, h.2.2.2.trans G⟩) ?o22p3 (ji (fun _ _ _ h _ G => ⟨h.1.trans G, G.has h.2.1, G.has h.2.2.1, h.2.2.2.trans G⟩) ?o23p3 zc)))))))))))))))))))))))) ?restp3
  case hAp3 =>
    intro ptrs
    simp only [full, foldSlots, filledE, postE, List.foldl_cons, List.foldl_nil, List.getD_cons_zero, List.getD_cons_succ, ju, vt, vu,  List.set_cons_zero, List.set_cons_succ]
    exact rfl
  case o0p3 => exact fun _ _ _ _ _ _ _ _ => jj (v := pK tp 0) _ rfl rfl rfl
  case o1p3 => exact fun _ _ _ _ _ _ _ _ => jj (v := iK 1) _ rfl rfl rfl
  case o2p3 =>
    intro L ptrs x hx hL hed hno hE
    exact za _ rfl (zp 50 0 _ rfl [] rfl (by kernel_rfl)) (jR _ _) ⟨x.heap.size, rfl, (eM ▸ hx.2.2.2.size), heap_alloc_new _ _⟩
  case o3p3 => exact fun _ _ _ _ _ _ _ _ => jj (v := pK tp 0) _ rfl rfl rfl
  case o4p3 => exact fun _ _ _ _ _ _ _ _ => jj (v := iK 1) _ rfl rfl rfl
  case o5p3 => exact fun _ _ x hx _ _ _ _ => jb (v := pK tp 0) rfl (jl _ rfl _ rfl)
  case o6p3 => exact fun _ _ x hx _ _ _ _ => jb (v := pK tp 2) rfl (jc 83 _ 1 rfl _ _ rfl _)
  case o7p3 => exact fun _ _ x hx _ _ _ _ => jb (v := pK tp 3) rfl (jB _ _ rfl tp 2 1 (by decide) rfl rfl _)
  case o8p3 => exact fun _ _ x hx _ _ _ _ => jb (v := .slice a1 f1.length c1) rfl (je 50 _ rfl tp 3 rfl 83 _ hx.2.1 (na50 _) _ rfl)
  case o9p3 => exact fun _ _ _ _ _ _ _ _ => jj (v := iK ((m : Nat) : Int)) _ rfl rfl rfl
  case o10p3 => exact fun _ _ x hx _ _ _ _ => jb (v := .slice a1 m c1) rfl (zT rF _ _ rfl _ _ _ m rfl rfl (Nat.le_trans (Nat.le_of_lt hmi) H.l1.le) _)
  case o11p3 =>
    intro L ptrs x hx hL hed hno hE
    exact yY rfl _ _ rfl H.l1 hx.2.2.2 hfli (Nat.le_of_lt hmi) (eM ▸ hx.2.2.2.size) rfl hE.1 rfl
  case o12p3 => exact fun _ _ _ _ _ _ _ _ => jj (v := pK tp 0) _ rfl rfl rfl
  case o13p3 => exact fun _ _ _ _ _ _ _ _ => jj (v := iK 1) _ rfl rfl rfl
  case o14p3 => exact fun _ _ x hx _ _ _ _ => jb (v := pK tp 0) rfl (jl _ rfl _ rfl)
  case o15p3 => exact fun _ _ x hx _ _ _ _ => jb (v := pK tp 2) rfl (jc 83 _ 1 rfl _ _ rfl _)
  case o16p3 => exact fun _ _ x hx _ _ _ _ => jb (v := pK tp 3) rfl (jB _ _ rfl tp 2 1 (by decide) rfl rfl _)
  case o17p3 => exact fun _ _ x hx _ _ _ _ => jb (v := .slice a1 f1.length c1) rfl (je 50 _ rfl tp 3 rfl 83 _ hx.2.1 (na50 _) _ rfl)
  case o18p3 => exact fun _ _ _ _ _ _ _ _ => jj (v := iK ((m : Nat) : Int)) _ rfl rfl rfl
  case o19p3 => exact fun _ _ x hx _ _ _ _ => jb (v := iK ((m + 1 : Nat) : Int)) rfl (jF 3 _ _ _ rfl ((m : Nat) : Int) 1 ((m + 1 : Nat) : Int) rfl rfl (by omega) (by omega) (by omega) _)
  case o20p3 => exact fun _ _ x hx _ _ _ _ => jb (v := .slice (if c1 = m + 1 then a1 else a1.map (·.add ((m + 1) * 95))) (f1.length - (m + 1)) (c1 - (m + 1))) rfl (yt rF _ _ rfl _ _ _ (m + 1) rfl rfl hmi _)
  case o21p3 =>
    intro L ptrs x hx hL hed hno hE
    exact yZ rfl _ _ rfl H.l1 hx.2.2.2 hfli hmi (eM ▸ hx.2.2.2.size) rfl hE.1 rfl fun S y hS G => ⟨⟨G.gro hx.1 (fun k hk => Nat.le_trans hBM (hS k hk)), G.has hx.2.1 (fun hm => by have := hS _ hm; omega), G.has hx.2.2.1 (fun hm => by have := hS _ hm; omega), G.gro hx.2.2.2 (fun k hk => eM ▸ hS k hk)⟩, StM.vals [0, 1, 3, 4, 5, 6, 7, 8, 9, 10, 12, 13, 14, 15, 16, 17, 18, 19, 20, 22, 23] (by kernel_rfl) ⟨⟨_, rfl⟩, ⟨_, rfl⟩, ⟨_, rfl⟩, ⟨_, rfl⟩, ⟨_, rfl⟩, ⟨_, rfl⟩, ⟨_, rfl⟩, ⟨_, rfl⟩, ⟨_, rfl⟩, ⟨_, rfl⟩, ⟨_, rfl⟩, ⟨_, rfl⟩, ⟨_, rfl⟩, ⟨_, rfl⟩, ⟨_, rfl⟩, ⟨_, rfl⟩, ⟨_, rfl⟩, ⟨_, rfl⟩, ⟨_, rfl⟩, ⟨_, rfl⟩, ⟨_, rfl⟩, trivial⟩⟩
  case o22p3 => exact fun _ _ x hx _ _ _ _ => jb (v := pK tp 0) rfl (jl _ rfl _ rfl)
  case o23p3 => exact fun _ _ x hx _ _ _ _ => jb (v := pK tp 2) rfl (jc 83 _ 1 rfl _ _ rfl _)
  intro ptrs w4 HJ hxE
  simp only [List.drop_succ_cons, List.drop_zero]
  clear GG ktp kg1 GX
  obtain ⟨GG, ktp, kg1, GX⟩ := HJ
  obtain ⟨⟨a3, c3, hv, HL3⟩, _⟩ := hxE
  simp only [hv]
  clear hv
  replace FVy := FVy.gro GX
  refine sv 45 (pK tp 3) (jB _ _ rfl tp 2 1 (by decide) rfl rfl _) ?_
  refine jo rfl rfl 50 _ _ rfl tp 3 rfl (.slice a3 ((f1.take m ++ f1.drop (m + 1)).length) c3) rfl 83 _ ktp #[.slice a3 ((f1.take m ++ f1.drop (m + 1)).length) c3] rfl (by kernel_rfl) (nlB rfl) (by kernel_rfl) (c83 (some ⟨q0, 0, none⟩) (some ⟨q1, 0, none⟩) ⟨a0, f0.length, c0⟩ ⟨a3, (f1.take m ++ f1.drop (m + 1)).length, c3⟩ ((n0 : Nat) : Int) ((n1 : Nat) : Int) ⟨b0, s0.length, e0⟩ ⟨b1, s1.length, e1⟩ ⟨d0, r0.length, k0⟩ ⟨d1, r1.length, k1⟩) (by kernel_rfl) ?_
  intro w6 St
  replace kg1 := St.has (jy kg1 ktp (by decide)) kg1
  replace FVy := FVy.no5 ((GroS.refl [tp] _).st St (.inr (by simp))) (jv ktp (by decide))
  replace GG := GG.store St H.base
  replace H := H.puta1 (.of GX) (fun k hk => .inr (eM ▸ HL3.row.base k hk)) (HL3.mono hBM) St
  clear ktp St GX HL3
  have ktp := H.box
  refine wpList_nil (ja (wp_seq (wp_region_lit (mv 47 (pK tp 0) ?_))))
  refine nr ?_; intro U h; simp only [z0, z1] at h; subst h
  refine mv 48 (iK 1) (sv 49 (pK tp 0) (jl _ rfl _ rfl) (sv 50 (pK tp 0) (jc 83 _ 0 rfl _ _ rfl _) ?_))
  refine nr ?_; intro U h; simp only [z0, z1] at h; subst h
  refine sv 51 (pK tp 1) (jS _ _ rfl tp 0 1 (by decide) rfl rfl _) (sv 52 (pK q1 0) (je 25 _ rfl tp 1 rfl 83 _ ktp (na25 _) _ rfl) ?_)
  refine nr ?_; intro U h; simp only [z0, z1] at h; subst h
  obtain ⟨mu, tb, HM, hge, hnext⟩ := H.end1 GG.size
  refine jC 53 rfl rfl _ 23 Try.call23 rfl rfl _ rfl [pK q1 0] rfl (yx _ _ _ _ _ _ HM) ?_
  intro w7 G
  replace ktp := G.has ktp
  replace kg1 := G.has kg1
  replace H := H.gro G
  replace FVy := FVy.gro G
  replace GG := GG.trans G
  clear G
  refine nr ?_; intro U h; simp only [z0, z1] at h; subst h
  clear HM hge hnext
  refine mv 46 (.tuple #[.agg (c29 x1.mi x1.mn), .agg (c29 x1.pi x1.pn)]) (mv 54 (.agg (c29 x1.mi x1.mn)) (mv 55 (.agg (c29 x1.pi x1.pn)) ?_))
  refine nr ?_; intro U h; simp only [z0, z1] at h; subst h
  refine js 7 rfl rfl 29 rfl _ zv29 _ rfl ?_
  intro w8 g2 G eg2 kg2
  have bg2 := jh GG eg2
  have dtpg2 := jf ktp eg2
  have dg1g2 := jf kg1 eg2
  replace ktp := G.has ktp
  replace kg1 := G.has kg1
  replace H := H.gro G
  replace FVy := FVy.gro G
  replace GG := GG.trans G
  clear G eg2
  refine js 8 rfl rfl 29 rfl _ zv29 _ rfl ?_
  intro w9 g3 G eg3 kg3
  have bg3 := jh GG eg3
  have dtpg3 := jf ktp eg3
  have dg1g3 := jf kg1 eg3
  have dg2g3 := jf kg2 eg3
  replace ktp := G.has ktp
  replace kg1 := G.has kg1
  replace kg2 := G.has kg2
  replace H := H.gro G
  replace FVy := FVy.gro G
  replace GG := GG.trans G
  clear G eg3
  refine jo rfl rfl 29 _ _ rfl g2 0 rfl (.agg (c29 x1.mi x1.mn)) rfl 29 _ kg2 (c29 x1.mi x1.mn) rfl (by kernel_rfl) (nlB rfl) (by kernel_rfl) (c29 x1.mi x1.mn) (by kernel_rfl) ?_
  intro w11 St
  replace ktp := St.has (by omega) ktp
  replace kg1 := St.has (by omega) kg1
  replace kg3 := St.has (by omega) kg3
  replace H := H.stT kg2 (by decide) (by decide) (by decide) (by decide) St
  replace FVy := FVy.no5 ((GroS.refl [g2] _).st St (.inr (by simp))) (jv kg2 (by decide))
  replace GG := GG.store St bg2
  replace kg2 := St.new
  clear St
  refine jo rfl rfl 29 _ _ rfl g3 0 rfl (.agg (c29 x1.pi x1.pn)) rfl 29 _ kg3 (c29 x1.pi x1.pn) rfl (by kernel_rfl) (nlB rfl) (by kernel_rfl) (c29 x1.pi x1.pn) (by kernel_rfl) ?_
  intro w13 St
  replace ktp := St.has (by omega) ktp
  replace kg1 := St.has (by omega) kg1
  replace kg2 := St.has (by omega) kg2
  replace H := H.stT kg3 (by decide) (by decide) (by decide) (by decide) St
  replace FVy := FVy.no5 ((GroS.refl [g3] _).st St (.inr (by simp))) (jv kg3 (by decide))
  replace GG := GG.store St bg3
  replace kg3 := St.new
  clear St
  refine wpList_nil (ja (wp_seq ?_))
  obtain ⟨M, eM⟩ : ∃ M, w13.heap.size = M := ⟨_, rfl⟩
  have hM := Nat.le_of_eq eM.symm
  have hBM : w0.heap.size ≤ M := eM ▸ GG.size
  have dtpM : tp < M := eM ▸ jm ktp
  have dg1M : g1 < M := eM ▸ jm kg1
  have dg2M : g2 < M := eM ▸ jm kg2
  have dg3M : g3 < M := eM ▸ jm kg3
  clear eM
  refine jJ (A := ?Ap4) (fun L x => Gro w0 x ∧ x.heap[tp]? = some (.cells (c83 (some ⟨q0, 0, none⟩) (some ⟨q1, 0, none⟩) ⟨a0, f0.length, c0⟩ ⟨a3, (f1.take m ++ f1.drop (m + 1)).length, c3⟩ ((n0 : Nat) : Int) ((n1 : Nat) : Int) ⟨b0, s0.length, e0⟩ ⟨b1, s1.length, e1⟩ ⟨d0, r0.length, k0⟩ ⟨d1, r1.length, k1⟩) 83 (0, 0)) ∧ x.heap[g1]? = some (.cells (frA y.2) 46 (0, 0)) ∧ x.heap[g2]? = some (.cells (c29 x1.mi x1.mn) 29 (0, 0)) ∧ x.heap[g3]? = some (.cells (c29 x1.pi x1.pn) 29 (0, 0)) ∧ Tk w0.heap.size x tp q0 q1 id0 id1 x0 (cond (L 15) (hearS id1 x1 y.1 1 ((n1 + 1 : Nat) : Int)).1 x1) n0 n1 a0 c0 f0 a3 c3 (f1.take m ++ f1.drop (m + 1)) b0 e0 s0 b1 e1 s1 d0 k0 r0 d1 k1 r1 ∧ FV x y.1 y.2 ∧ M ≤ x.heap.size) 17 [(0, 56), (1, 57), (2, 58), (3, 59), (4, 60), (5, 61), (6, 62), (7, 63), (8, 64), (9, 65), (10, 66), (11, 67), (12, 68), (13, 69), (14, 70), (15, 71), (16, 9)] [.val (pK tp 0), .val (iK 1), .val (pK tp 0), .val (pK tp 0), .val (pK tp 1), .val (pK q1 0), .val (.agg (frA y.2)), .val (pK tp 0), .val (iK 1), .val (pK tp 0), .val (pK tp 4), .val (pK tp 5), .val (iK ((n1 : Nat) : Int)), .val (iK ((n1 + 1 : Nat) : Int)), .val (.agg (c29 1 ((n1 + 1 : Nat) : Int))), tvE2 (hearS id1 x1 y.1 1 ((n1 + 1 : Nat) : Int)).2, alE M 59 (c59 false false Sl.nil false Sl.nil)] [] [15, 16] follows (by kernel_rfl) rfl (by kernel_rfl) (by decide) ⟨GG.drew, (Gro.refl _).drew.has ktp, (Gro.refl _).drew.has kg1, (Gro.refl _).drew.has kg2, (Gro.refl _).drew.has kg3, H.gro (Gro.refl _).drew, FVy.gro (Gro.refl _).drew, Nat.le_trans hM (Gro.refl _).drew.size⟩ ?hAp4 (ji (fun _ _ _ h _ G => ⟨h.1.trans G, G.has h.2.1, G.has h.2.2.1, G.has h.2.2.2.1, G.has h.2.2.2.2.1, h.2.2.2.2.2.1.gro G, h.2.2.2.2.2.2.1.gro G, Nat.le_trans h.2.2.2.2.2.2.2 G.size⟩) ?o0p4 (ji (fun _ _ _ h _ G => ⟨h.1.trans G, G.has h.2.1, G.has h.2.2.1, G.has h.2.2.2.1, G.has h.2.2.2.2.1, h.2.2.2.2.2.1.gro G, h.2.2.2.2.2.2.1.gro G, Nat.le_trans h.2.2.2.2.2.2.2 G.size⟩) ?o1p4 (ji (fun _ _ _ h _ G => ⟨h.1.trans G, G.has h.2.1, G.has h.2.2.1, G.has h.2.2.2.1, G.has h.2.2.2.2.1, h.2.2.2.2.2.1.gro G, h.2.2.2.2.2.2.1.gro G, Nat.le_trans h.2.2.2.2.2.2.2 G.size⟩) ?o2p4 (ji (fun _ _ _ h _ G => ⟨h.1.trans G, G.has h.2.1, G.has h.2.2.1, G.has h.2.2.2.1, G.has h.2.2.2.2.1, h.2.2.2.2.2.1.gro G, h.2.2.2.2.2.2.1.gro G, Nat.le_trans h.2.2.2.2.2.2.2 G.size⟩) ?o3p4 (ji (fun _ _ _ h _ G => ⟨h.1.trans G, G.has h.2.1, G.has h.2.2.1, G.has h.2.2.2.1, G.has h.2.2.2.2.1, h.2.2.2.2.2.1.gro G, h.2.2.2.2.2.2.1.gro G, Nat.le_trans h.2.2.2.2.2.2.2 G.size⟩) ?o4p4 (ji (fun _ _ _ h _ G => ⟨h.1.trans G, G.has h.2.1, G.has h.2.2.1, G.has h.2.2.2.1, G.has h.2.2.2.2.1, h.2.2.2.2.2.1.gro G, h.2.2.2.2.2.2.1.gro G, Nat.le_trans h.2.2.2.2.2.2.2 G.size⟩) ?o5p4 (ji (fun _ _ _ h _ G => ⟨h.1.trans G, G.has h.2.1, G.has h.2.2.1, G.has h.2.2.2.1, G.has h.2.2.2.2.1, h.2.2.2.2.2.1.gro G, h.2.2.2.2.2.2.1.gro G, Nat.le_trans h.2.2.2.2.2.2.2 G.size⟩) ?o6p4 (ji (fun _ _ _ h _ G => ⟨h.1.trans G, G.has h.2.1, G.has h.2.2.1, G.has h.2.2.2.1, G.has h.2.2.2.2.1, h.2.2.2.2.2.1.gro G, h.2.2.2.2.2.2.1.gro G, Nat.le_trans h.2.2.2.2.2.2.2 G.size⟩) ?o7p4 (ji (fun _ _ _ h _ G => ⟨h.1.trans G, G.has h.2.1, G.has h.2.2.1, G.has h.2.2.2.1, G.has h.2.2.2.2.1, h.2.2.2.2.2.1.gro G, h.2.2.2.2.2.2.1.gro G, Nat.le_trans h.2.2.2.2.2.2.2 G.size⟩) ?o8p4 (ji (fun _ _ _ h _ G => ⟨h.1.trans G, G.has h.2.1, G.has h.2.2.1, G.has h.2.2.2.1, G.has h.2.2.2.2.1, h.2.2.2.2.2.1.gro G, h.2.2.2.2.2.2.1.gro G, Nat.le_trans h.2.2.2.2.2.2.2 G.size⟩) ?o9p4 (ji (fun _ _ _ h _ G => ⟨h.1.trans G, G.has h.2.1, G.has h.2.2.1, G.has h.2.2.2.1, G.has h.2.2.2.2.1, h.2.2.2.2.2.1.gro G, h.2.2.2.2.2.2.1.gro G, Nat.le_trans h.2.2.2.2.2.2.2 G.size⟩) ?o10p4 (ji (fun _ _ _ h _ G => ⟨h.1.trans G, G.has h.2.1, G.has h.2.2.1, G.has h.2.2.2.1, G.has h.2.2.2.2.1, h.2.2.2.2.2.1.gro G, h.2.2.2.2.2.2.1.gro G, Nat.le_trans h.2.2.2.2.2.2.2 G.size⟩) ?o11p4 (ji (fun _ _ _ h _ G => ⟨h.1.trans G, G.has h.2.1, G.has h.2.2.1, G.has h.2.2.2.1, G.has h.2.2.2.2.1, h.2.2.2.2.2.1.gro G, h.2.2.2.2.2.2.1.gro G, Nat.le_trans h.2.2.2.2.2.2.2 G.size⟩) ?o12p4 (ji (fun _ _ _ h _ G => ⟨h.1.trans G, G.has h.2.1, G.has h.2.2.1, G.has h.2.2.2.1, G.has h.2.2.2.2.1, h.2.2.2.2.2.1.gro G, h.2.2.2.2.2.2.1.gro G, Nat.le_trans h.2.2.2.2.2.2.2 G.size⟩) ?o13p4 (ji (fun _ _ _ h _ G => ⟨h.1.trans G, G.has h.2.1, G.has h.2.2.1, G.has h.2.2.2.1, G.has h.2.2.2.2.1, h.2.2.2.2.2.1.gro G, h.2.2.2.2.2.2.1.gro G, Nat.le_trans h.2.2.2.2.2.2.2 G.size⟩) ?o14p4 (jX ?o15p4 (ji (fun _ _ _ h _ G => ⟨h.1.trans G, G.has h.2.1, G.has h.2.2.1, G.has h.2.2.2.1, G.has h.2.2.2.2.1, h.2.2.2.2.2.1.gro G, h.2.2.2.2.2.2.1.gro G, Nat.le_trans h.2.2.2.2.2.2.2 G.size⟩) ?o16p4 zc))))))))))))))))) ?restp4
  case hAp4 =>
    intro ptrs
    simp only [full, foldSlots, filledE, postE, List.foldl_cons, List.foldl_nil, List.getD_cons_zero, List.getD_cons_succ, ju, Ji, vz,  List.set_cons_zero, List.set_cons_succ]
    exact rfl
  case o0p4 => exact fun _ _ _ _ _ _ _ _ => jj (v := pK tp 0) _ rfl rfl rfl
  case o1p4 => exact fun _ _ _ _ _ _ _ _ => jj (v := iK 1) _ rfl rfl rfl
  case o2p4 => exact fun _ _ x hx _ _ _ _ => jb (v := pK tp 0) rfl (jl _ rfl _ rfl)
  case o3p4 => exact fun _ _ x hx _ _ _ _ => jb (v := pK tp 0) rfl (jc 83 _ 0 rfl _ _ rfl _)
  case o4p4 => exact fun _ _ x hx _ _ _ _ => jb (v := pK tp 1) rfl (jS _ _ rfl tp 0 1 (by decide) rfl rfl _)
  case o5p4 => exact fun _ _ x hx _ _ _ _ => jb (v := pK q1 0) rfl (je 25 _ rfl tp 1 rfl 83 _ hx.2.1 (na25 _) _ rfl)
  case o6p4 => exact fun _ _ x hx _ _ _ _ => jb (v := .agg (frA y.2)) rfl (jk 46 _ rfl g1 0 95 rfl 46 _ hx.2.2.1 _ Try.underlying46 rfl si46 _)
  case o7p4 => exact fun _ _ _ _ _ _ _ _ => jj (v := pK tp 0) _ rfl rfl rfl
  case o8p4 => exact fun _ _ _ _ _ _ _ _ => jj (v := iK 1) _ rfl rfl rfl
  case o9p4 => exact fun _ _ x hx _ _ _ _ => jb (v := pK tp 0) rfl (jl _ rfl _ rfl)
  case o10p4 => exact fun _ _ x hx _ _ _ _ => jb (v := pK tp 4) rfl (jc 83 _ 2 rfl _ _ rfl _)
  case o11p4 => exact fun _ _ x hx _ _ _ _ => jb (v := pK tp 5) rfl (zu _ _ rfl tp 4 1 (by decide) rfl rfl _)
  case o12p4 => exact fun _ _ x hx _ _ _ _ => jb (v := iK ((n1 : Nat) : Int)) rfl (je 2 _ rfl tp 5 rfl 83 _ hx.2.1 (na2 _) _ rfl)
  case o13p4 => exact fun _ _ x hx _ _ _ _ => jb (v := iK ((n1 + 1 : Nat) : Int)) rfl (jF 2 _ _ _ rfl ((n1 : Nat) : Int) 1 ((n1 + 1 : Nat) : Int) rfl rfl (by omega) (by omega) (by omega) _)
  case o14p4 => exact fun _ _ x hx _ _ _ _ => jb (v := .agg (c29 1 ((n1 + 1 : Nat) : Int))) rfl (jA 29 _ rfl [(0, iK 1), (1, iK ((n1 + 1 : Nat) : Int))] rfl _ (by kernel_rfl))
  case o15p4 =>
    intro L ptrs x hx hL hed hno _
    have h2 := hx.2.2.2.2.2.1
    rw [hL] at h2
    obtain ⟨mu, tb, HM, hge, hnext⟩ := h2.end1 hx.1.size
    exact zw (tvE2 (hearS id1 x1 y.1 1 ((n1 + 1 : Nat) : Int)).2) rfl _ 20 Try.call20 rfl rfl _ rfl [pK q1 0, .agg (frA y.2), .agg (c29 1 ((n1 + 1 : Nat) : Int))] rfl ((vS _ q1 id1 x1 mu tb HM y.1 y.2 hx.2.2.2.2.2.2.1 htxy 1 ((n1 + 1 : Nat) : Int) (by omega) (by omega)).mono fun e z ⟨v, mu', tb', he, HTv, HX, G, F1, F2⟩ => ⟨_, he, ⟨⟨G.gro hx.1 hge, G.has hx.2.1 (HM.not hx.2.1 (by decide) (by decide) (by decide)), G.has hx.2.2.1 (HM.not hx.2.2.1 (by decide) (by decide) (by decide)), G.has hx.2.2.2.1 (HM.not hx.2.2.2.1 (by decide) (by decide) (by decide)), G.has hx.2.2.2.2.1 (HM.not hx.2.2.2.2.1 (by decide) (by decide) (by decide)), hnext _ _ _ _ HX G F1, hx.2.2.2.2.2.2.1.no5 G HM.own, Nat.le_trans hx.2.2.2.2.2.2.2 G.size⟩, StM.valsX [0, 1, 2, 3, 4, 5, 6, 7, 8, 9, 10, 11, 12, 13, 14] [16] (by kernel_rfl) ⟨⟨_, rfl⟩, ⟨_, rfl⟩, ⟨_, rfl⟩, ⟨_, rfl⟩, ⟨_, rfl⟩, ⟨_, rfl⟩, ⟨_, rfl⟩, ⟨_, rfl⟩, ⟨_, rfl⟩, ⟨_, rfl⟩, ⟨_, rfl⟩, ⟨_, rfl⟩, ⟨_, rfl⟩, ⟨_, rfl⟩, ⟨_, rfl⟩, trivial⟩ (fun j hj u hp => by cases List.mem_singleton.1 hj; obtain ⟨g, h1, h2, h3⟩ := hp; exact ⟨g, h1, h2, G.has h3 (HM.not h3 (by decide) (by decide) (by decide))⟩)⟩, HTv⟩)
  case o16p4 =>
    intro _ _ x hx _ _ _ _
    exact uB rfl 59 rfl _ (zv59 _) (c59 false false Sl.nil false Sl.nil) rfl hx.2.2.2.2.2.2.2
  intro ptrs w14 HJ hxE
  simp only [List.drop_succ_cons, List.drop_zero]
  clear GG ktp kg1 kg2 kg3 H FVy hM
  obtain ⟨GG, ktp, kg1, kg2, kg3, H, FVy, hM⟩ := HJ
  replace H : Tk w0.heap.size w14 tp q0 q1 id0 id1 x0 (hearS id1 x1 y.1 1 ((n1 + 1 : Nat) : Int)).1 n0 n1 a0 c0 f0 a3 c3 (f1.take m ++ f1.drop (m + 1)) b0 e0 s0 b1 e1 s1 d0 k0 r0 d1 k1 r1 := H
  obtain ⟨⟨aoa, capa, ooa, oca, fsa, hva, HOa, hma, HLa⟩, ⟨gt, hv, hgt, kgt⟩, _⟩ := hxE
  simp only [hv, hva]
  clear hv hva hM FVy
  have dtpgt := Nat.lt_of_lt_of_le dtpM hgt
  have dg1gt := Nat.lt_of_lt_of_le dg1M hgt
  have dg2gt := Nat.lt_of_lt_of_le dg2M hgt
  have dg3gt := Nat.lt_of_lt_of_le dg3M hgt
  have bgt := Nat.le_trans hBM hgt
  have hone : fsa.length ≤ 1 := by rw [← List.length_map (f := (·.1)), hma]; exact Jf id1 x1 y.1 1 ((n1 + 1 : Nat) : Int)
  refine jo rfl rfl 59 _ _ rfl gt 0 rfl (.agg (c59 ((hearS id1 x1 y.1 1 ((n1 + 1 : Nat) : Int)).2.died) ((hearS id1 x1 y.1 1 ((n1 + 1 : Nat) : Int)).2.opened) ⟨aoa, (hearS id1 x1 y.1 1 ((n1 + 1 : Nat) : Int)).2.tx.length, capa⟩ ((hearS id1 x1 y.1 1 ((n1 + 1 : Nat) : Int)).2.came) ⟨ooa, fsa.length, oca⟩)) rfl 59 _ kgt (c59 ((hearS id1 x1 y.1 1 ((n1 + 1 : Nat) : Int)).2.died) ((hearS id1 x1 y.1 1 ((n1 + 1 : Nat) : Int)).2.opened) ⟨aoa, (hearS id1 x1 y.1 1 ((n1 + 1 : Nat) : Int)).2.tx.length, capa⟩ ((hearS id1 x1 y.1 1 ((n1 + 1 : Nat) : Int)).2.came) ⟨ooa, fsa.length, oca⟩) rfl (by kernel_rfl) (nlB rfl) (by kernel_rfl) (c59 ((hearS id1 x1 y.1 1 ((n1 + 1 : Nat) : Int)).2.died) ((hearS id1 x1 y.1 1 ((n1 + 1 : Nat) : Int)).2.opened) ⟨aoa, (hearS id1 x1 y.1 1 ((n1 + 1 : Nat) : Int)).2.tx.length, capa⟩ ((hearS id1 x1 y.1 1 ((n1 + 1 : Nat) : Int)).2.came) ⟨ooa, fsa.length, oca⟩) (by kernel_rfl) ?_
  intro w16 St
  replace ktp := St.has (by omega) ktp
  replace kg1 := St.has (by omega) kg1
  replace kg2 := St.has (by omega) kg2
  replace kg3 := St.has (by omega) kg3
  replace H := H.stT kgt (by decide) (by decide) (by decide) (by decide) St
  replace HOa := HOa.no5 ((GroS.refl [gt] _).st St (.inr (by simp))) (jv kgt (by decide))
  replace HLa := HLa.no46 ((GroS.refl [gt] _).st St (.inr (by simp))) (jK kgt (by decide) (by decide))
  replace GG := GG.store St bgt
  replace kgt := St.new
  clear St
  refine wpList_nil (ja (wp_seq (wp_region_lit (mv 73 (pK tp 0) ?_))))
  refine nr ?_; intro U h; simp only [z0, z1] at h; subst h
  refine mv 74 (iK 1) (sv 75 (pK tp 0) (jl _ rfl _ rfl) (sv 76 (pK tp 0) (jc 83 _ 0 rfl _ _ rfl _) ?_))
  refine nr ?_; intro U h; simp only [z0, z1] at h; subst h
  refine sv 77 (pK tp 1) (jS _ _ rfl tp 0 1 (by decide) rfl rfl _) (sv 78 (pK q1 0) (je 25 _ rfl tp 1 rfl 83 _ ktp (na25 _) _ rfl) ?_)
  refine nr ?_; intro U h; simp only [z0, z1] at h; subst h
  obtain ⟨mu, tb, HM, hge, hnext⟩ := H.end1 GG.size
  refine jC 79 rfl rfl _ 23 Try.call23 rfl rfl _ rfl [pK q1 0] rfl (yx _ _ _ _ _ _ HM) ?_
  intro w17 G
  replace ktp := G.has ktp
  replace kg1 := G.has kg1
  replace kg2 := G.has kg2
  replace kg3 := G.has kg3
  replace kgt := G.has kgt
  replace H := H.gro G
  replace HOa := HOa.gro G
  replace HLa := HLa.gro G
  replace GG := GG.trans G
  clear G
  refine nr ?_; intro U h; simp only [z0, z1] at h; subst h
  clear HM hge hnext
  refine mv 72 (.tuple #[.agg (c29 ((hearS id1 x1 y.1 1 ((n1 + 1 : Nat) : Int)).1.mi) ((hearS id1 x1 y.1 1 ((n1 + 1 : Nat) : Int)).1.mn)), .agg (c29 ((hearS id1 x1 y.1 1 ((n1 + 1 : Nat) : Int)).1.pi) ((hearS id1 x1 y.1 1 ((n1 + 1 : Nat) : Int)).1.pn))]) (mv 80 (.agg (c29 ((hearS id1 x1 y.1 1 ((n1 + 1 : Nat) : Int)).1.mi) ((hearS id1 x1 y.1 1 ((n1 + 1 : Nat) : Int)).1.mn))) (mv 81 (.agg (c29 ((hearS id1 x1 y.1 1 ((n1 + 1 : Nat) : Int)).1.pi) ((hearS id1 x1 y.1 1 ((n1 + 1 : Nat) : Int)).1.pn))) ?_))
  refine nr ?_; intro U h; simp only [z0, z1] at h; subst h
  refine js 10 rfl rfl 29 rfl _ zv29 _ rfl ?_
  intro w18 g4 G eg4 kg4
  have bg4 := jh GG eg4
  have dtpg4 := jf ktp eg4
  have dg1g4 := jf kg1 eg4
  have dg2g4 := jf kg2 eg4
  have dg3g4 := jf kg3 eg4
  have dgtg4 := jf kgt eg4
  replace ktp := G.has ktp
  replace kg1 := G.has kg1
  replace kg2 := G.has kg2
  replace kg3 := G.has kg3
  replace kgt := G.has kgt
  replace H := H.gro G
  replace HOa := HOa.gro G
  replace HLa := HLa.gro G
  replace GG := GG.trans G
  clear G eg4
  refine js 11 rfl rfl 29 rfl _ zv29 _ rfl ?_
  intro w19 g5 G eg5 kg5
  have bg5 := jh GG eg5
  have dtpg5 := jf ktp eg5
  have dg1g5 := jf kg1 eg5
  have dg2g5 := jf kg2 eg5
  have dg3g5 := jf kg3 eg5
  have dgtg5 := jf kgt eg5
  have dg4g5 := jf kg4 eg5
  replace ktp := G.has ktp
  replace kg1 := G.has kg1
  replace kg2 := G.has kg2
  replace kg3 := G.has kg3
  replace kgt := G.has kgt
  replace kg4 := G.has kg4
  replace H := H.gro G
  replace HOa := HOa.gro G
  replace HLa := HLa.gro G
  replace GG := GG.trans G
  clear G eg5
  refine jo rfl rfl 29 _ _ rfl g4 0 rfl (.agg (c29 ((hearS id1 x1 y.1 1 ((n1 + 1 : Nat) : Int)).1.mi) ((hearS id1 x1 y.1 1 ((n1 + 1 : Nat) : Int)).1.mn))) rfl 29 _ kg4 (c29 ((hearS id1 x1 y.1 1 ((n1 + 1 : Nat) : Int)).1.mi) ((hearS id1 x1 y.1 1 ((n1 + 1 : Nat) : Int)).1.mn)) rfl (by kernel_rfl) (nlB rfl) (by kernel_rfl) (c29 ((hearS id1 x1 y.1 1 ((n1 + 1 : Nat) : Int)).1.mi) ((hearS id1 x1 y.1 1 ((n1 + 1 : Nat) : Int)).1.mn)) (by kernel_rfl) ?_
  intro w21 St
  replace ktp := St.has (by omega) ktp
  replace kg1 := St.has (by omega) kg1
  replace kg2 := St.has (by omega) kg2
  replace kg3 := St.has (by omega) kg3
  replace kgt := St.has (by omega) kgt
  replace kg5 := St.has (by omega) kg5
  replace H := H.stT kg4 (by decide) (by decide) (by decide) (by decide) St
  replace HOa := HOa.no5 ((GroS.refl [g4] _).st St (.inr (by simp))) (jv kg4 (by decide))
  replace HLa := HLa.no46 ((GroS.refl [g4] _).st St (.inr (by simp))) (jK kg4 (by decide) (by decide))
  replace GG := GG.store St bg4
  replace kg4 := St.new
  clear St
  refine jo rfl rfl 29 _ _ rfl g5 0 rfl (.agg (c29 ((hearS id1 x1 y.1 1 ((n1 + 1 : Nat) : Int)).1.pi) ((hearS id1 x1 y.1 1 ((n1 + 1 : Nat) : Int)).1.pn))) rfl 29 _ kg5 (c29 ((hearS id1 x1 y.1 1 ((n1 + 1 : Nat) : Int)).1.pi) ((hearS id1 x1 y.1 1 ((n1 + 1 : Nat) : Int)).1.pn)) rfl (by kernel_rfl) (nlB rfl) (by kernel_rfl) (c29 ((hearS id1 x1 y.1 1 ((n1 + 1 : Nat) : Int)).1.pi) ((hearS id1 x1 y.1 1 ((n1 + 1 : Nat) : Int)).1.pn)) (by kernel_rfl) ?_
  intro w23 St
  replace ktp := St.has (by omega) ktp
  replace kg1 := St.has (by omega) kg1
  replace kg2 := St.has (by omega) kg2
  replace kg3 := St.has (by omega) kg3
  replace kgt := St.has (by omega) kgt
  replace kg4 := St.has (by omega) kg4
  replace H := H.stT kg5 (by decide) (by decide) (by decide) (by decide) St
  replace HOa := HOa.no5 ((GroS.refl [g5] _).st St (.inr (by simp))) (jv kg5 (by decide))
  replace HLa := HLa.no46 ((GroS.refl [g5] _).st St (.inr (by simp))) (jK kg5 (by decide) (by decide))
  replace GG := GG.store St bg5
  replace kg5 := St.new
  clear St
  refine wpList_nil (ja (wp_seq (wp_seq (wp_region_lit (sv 82 (.agg (c29 ((hearS id1 x1 y.1 1 ((n1 + 1 : Nat) : Int)).1.mi) ((hearS id1 x1 y.1 1 ((n1 + 1 : Nat) : Int)).1.mn))) (jk 29 _ rfl g4 0 2 rfl 29 _ kg4 _ Try.underlying29 rfl si29 _) ?_)))))
  refine nr ?_; intro U h; simp only [z0, z1] at h; subst h
  refine sv 83 (.agg (c29 x1.mi x1.mn)) (jk 29 _ rfl g2 0 2 rfl 29 _ kg2 _ Try.underlying29 rfl si29 _) ?_
  refine nr ?_; intro U h; simp only [z0, z1] at h; subst h
  obtain ⟨p1, hp1⟩ : ∃ p, (!(decide ((hearS id1 x1 y.1 1 ((n1 + 1 : Nat) : Int)).1.mi = x1.mi) && decide ((hearS id1 x1 y.1 1 ((n1 + 1 : Nat) : Int)).1.mn = x1.mn))) = p := ⟨_, rfl⟩
  refine sv 84 (.bool p1) (JR _ _ _ rfl (hearS id1 x1 y.1 1 ((n1 + 1 : Nat) : Int)).1.mi (hearS id1 x1 y.1 1 ((n1 + 1 : Nat) : Int)).1.mn x1.mi x1.mn rfl rfl p1 hp1 _) ?_
  refine nr ?_; intro U h; simp only [z0, z1] at h; subst h
  cases p1
  have hcnt : cnt n1 x1 (hearS id1 x1 y.1 1 ((n1 + 1 : Nat) : Int)).1 = n1 := if_pos (by simpa using hp1)
  refine wpList_nil (ja (wp_cond_false rfl (wp_skip (ja (wp_seq (wp_seq (wp_region_lit ?_)))))))
  cases hcm : (hearS id1 x1 y.1 1 ((n1 + 1 : Nat) : Int)).2.came
  rw [hcm] at kgt
  have hgts : gets r1 (hearS id1 x1 y.1 1 ((n1 + 1 : Nat) : Int)) = r1 := by unfold gets; rw [hcm]; rfl
  refine sv 95 (pK gt 3) (jc 59 _ 3 rfl _ _ rfl _) (sv 96 (vFa) (je 4 _ rfl gt 3 rfl 59 _ kgt (na4 _) _ rfl) (wpList_nil (ja (wp_cond_false rfl (wp_skip (ja (wp_region_lit (mv 116 (pK tp 0) ?_))))))))
  refine nr ?_; intro U h; simp only [z0, z1] at h; subst h
  refine mv 117 (iK 1) (sv 118 (pK gt 4) (jc 59 _ 4 rfl _ _ rfl _) (sv 119 (.slice ooa fsa.length oca) (je 50 _ rfl gt 4 rfl 59 _ kgt (na50 _) _ rfl) ?_))
  refine nr ?_; intro U h; simp only [z0, z1] at h; subst h
  refine jt 120 rfl rfl _ 32 Try.call32 rfl rfl _ rfl [pK tp 0, iK 1, .slice ooa fsa.length oca] rfl (say1 w0 _ GG _ _ _ _ _ _ _ _ _ _ _ _ _ _ _ _ _ _ _ _ _ _ _ _ _ _ _ H ooa oca fsa HLa (by omega) hflj (.inl hone)) (fun _ _ ⟨he, _⟩ => ⟨_, he⟩) ?_
  rintro v w24 ⟨he, GG2, a2, c2, f2, H2, hfl2, hmem2⟩
  cases he
  clear GG H
  have GG := GG2
  have H := H2
  clear GG2 H2
  refine wpList_nil ?_
  refine jN (results_none Try.results33 _ _ _) rfl ?_
  exact ⟨rfl, GG, y, hy, a3, c3, a2, c2, f2, d1, k1, by rw [hcnt, hgts]; exact H, hfl2, fun z hz => (hmem2 z hz).imp (fun h => h) fun h => by rw [← hma]; exact h⟩
  rw [hcm] at kgt
  have hgts : gets r1 (hearS id1 x1 y.1 1 ((n1 + 1 : Nat) : Int)) = r1 ++ [(zEnt (hearS id1 x1 y.1 1 ((n1 + 1 : Nat) : Int)))] := by unfold gets; rw [hcm]; rfl
  refine sv 95 (pK gt 3) (jc 59 _ 3 rfl _ _ rfl _) (sv 96 (vTr) (je 4 _ rfl gt 3 rfl 59 _ kgt (na4 _) _ rfl) ?_)
  refine nr ?_; intro U h; simp only [z0, z1] at h; subst h
  refine wpList_nil (ja (wp_cond_true rfl ?_))
  obtain ⟨M, eM⟩ : ∃ M, w23.heap.size = M := ⟨_, rfl⟩
  have hBM : w0.heap.size ≤ M := eM ▸ GG.size
  have n5 : No5 w23 (blk d1) := fun k hk => by obtain ⟨_, cur, hc⟩ := OY.at H.u1 k hk; exact ⟨_, _, hc, by decide⟩
  refine zd (A := ?Ag4) (blk d1) 18 [(0, 97), (1, 98), (2, 99), (3, 100), (4, 101), (5, 102), (6, 103), (7, 104), (8, 105), (9, 106), (10, 107), (11, 108), (12, 109), (13, 110), (14, 111), (15, 112), (16, 113), (17, 114)] [.val (pK tp 0), .val (iK 1), .val (pK tp 0), .val (iK 1), .val (pK tp 0), .val (pK tp 8), .val (pK tp 9), .val (.slice d1 r1.length k1), .val (.agg (c29 ((hearS id1 x1 y.1 1 ((n1 + 1 : Nat) : Int)).1.mi) ((hearS id1 x1 y.1 1 ((n1 + 1 : Nat) : Int)).1.mn))), .val (.agg (c29 ((hearS id1 x1 y.1 1 ((n1 + 1 : Nat) : Int)).1.pi) ((hearS id1 x1 y.1 1 ((n1 + 1 : Nat) : Int)).1.pn))), .val (pK gt 2), .val (.slice aoa ((hearS id1 x1 y.1 1 ((n1 + 1 : Nat) : Int)).2.tx.length) capa), .val (.string (bas (hearS id1 x1 y.1 1 ((n1 + 1 : Nat) : Int)).2.tx)), .val (.agg (c88 ((hearS id1 x1 y.1 1 ((n1 + 1 : Nat) : Int)).1.mi) ((hearS id1 x1 y.1 1 ((n1 + 1 : Nat) : Int)).1.mn) ((hearS id1 x1 y.1 1 ((n1 + 1 : Nat) : Int)).1.pi) ((hearS id1 x1 y.1 1 ((n1 + 1 : Nat) : Int)).1.pn) (bas (hearS id1 x1 y.1 1 ((n1 + 1 : Nat) : Int)).2.tx))), bsE2 M (zEnt (hearS id1 x1 y.1 1 ((n1 + 1 : Nat) : Int))), asE w0.heap.size M d1 (r1 ++ [(zEnt (hearS id1 x1 y.1 1 ((n1 + 1 : Nat) : Int)))]), .val (pK tp 0), .val (pK tp 8)] 15 follows (by kernel_rfl) rfl (by decide) (fun j hj hne v a b _ hb hp => match j, hj, hne, hp with | 0, _, _, hp => hp | 1, _, _, hp => hp | 2, _, _, hp => hp | 3, _, _, hp => hp | 4, _, _, hp => hp | 5, _, _, hp => hp | 6, _, _, hp => hp | 7, _, _, hp => hp | 8, _, _, hp => hp | 9, _, _, hp => hp | 10, _, _, hp => hp | 11, _, _, hp => hp | 12, _, _, hp => hp | 13, _, _, hp => hp | 14, _, _, hp => Exists.elim hp fun g hp => ⟨g, hp.1, hp.2.1, hb.has hp.2.2 (zN H.u1 eM hp.2.1)⟩ | 15, _, hne, _ => absurd rfl hne | 16, _, _, hp => hp | 17, _, _, hp => hp | m + 18, hj, _, _ => absurd hj (by omega)) ?hAg4 (jp (by decide) ?o0g4 (jp (by decide) ?o1g4 (jp (by decide) ?o2g4 (jp (by decide) ?o3g4 (jp (by decide) ?o4g4 (jp (by decide) ?o5g4 (jp (by decide) ?o6g4 (jp (by decide) ?o7g4 (jp (by decide) ?o8g4 (jp (by decide) ?o9g4 (jp (by decide) ?o10g4 (jp (by decide) ?o11g4 (jp (by decide) ?o12g4 (jp (by decide) ?o13g4 (jp (by decide) ?o14g4 (zW ?o15g4 (jp (by decide) ?o16g4 (jp (by decide) ?o17g4 zy)))))))))))))))))) ?restg4
  case hAg4 =>
    intro ptrs
    simp only [full, foldSlots, filledE, postE, List.foldl_cons, List.foldl_nil, List.getD_cons_zero, List.getD_cons_succ, ju, zQ, yc,  List.set_cons_zero, List.set_cons_succ]
    exact rfl
  case o0g4 => exact fun _ _ _ _ => jj (v := pK tp 0) _ rfl rfl rfl
  case o1g4 => exact fun _ _ _ _ => jj (v := iK 1) _ rfl rfl rfl
  case o2g4 => exact fun _ _ _ _ => jj (v := pK tp 0) _ rfl rfl rfl
  case o3g4 => exact fun _ _ _ _ => jj (v := iK 1) _ rfl rfl rfl
  case o4g4 => exact fun _ _ hw _ => jb (v := pK tp 0) rfl (jl _ rfl _ rfl)
  case o5g4 => exact fun _ _ hw _ => jb (v := pK tp 8) rfl (jc 83 _ 4 rfl _ _ rfl _)
  case o6g4 => exact fun _ _ hw _ => jb (v := pK tp 9) rfl (jY _ _ rfl tp 8 1 (by decide) rfl rfl _)
  case o7g4 => exact fun _ _ hw _ => jb (v := .slice d1 r1.length k1) rfl (je 80 _ rfl tp 9 rfl 83 _ (hw.has ktp (OY.ne H.u1 ktp (by decide))) (na80 _) _ rfl)
  case o8g4 => exact fun _ _ hw _ => jb (v := .agg (c29 ((hearS id1 x1 y.1 1 ((n1 + 1 : Nat) : Int)).1.mi) ((hearS id1 x1 y.1 1 ((n1 + 1 : Nat) : Int)).1.mn))) rfl (jk 29 _ rfl g4 0 2 rfl 29 _ (hw.has kg4 (OY.ne H.u1 kg4 (by decide))) _ Try.underlying29 rfl si29 _)
  case o9g4 => exact fun _ _ hw _ => jb (v := .agg (c29 ((hearS id1 x1 y.1 1 ((n1 + 1 : Nat) : Int)).1.pi) ((hearS id1 x1 y.1 1 ((n1 + 1 : Nat) : Int)).1.pn))) rfl (jk 29 _ rfl g5 0 2 rfl 29 _ (hw.has kg5 (OY.ne H.u1 kg5 (by decide))) _ Try.underlying29 rfl si29 _)
  case o10g4 => exact fun _ _ hw _ => jb (v := pK gt 2) rfl (jc 59 _ 2 rfl _ _ rfl _)
  case o11g4 => exact fun _ _ hw _ => jb (v := .slice aoa ((hearS id1 x1 y.1 1 ((n1 + 1 : Nat) : Int)).2.tx.length) capa) rfl (je 36 _ rfl gt 2 rfl 59 _ (hw.has kgt (OY.ne H.u1 kgt (by decide))) (na36 _) _ rfl)
  case o12g4 => exact fun _ _ hw _ => jb (v := .string (bas (hearS id1 x1 y.1 1 ((n1 + 1 : Nat) : Int)).2.tx)) rfl (zr bT 9 Try.underlying9 _ rfl rfl (HOa.no5 ((GroS.refl _ _).drew.trans hw) n5).nc)
  case o13g4 => exact fun _ _ hw _ => jb (v := .agg (c88 ((hearS id1 x1 y.1 1 ((n1 + 1 : Nat) : Int)).1.mi) ((hearS id1 x1 y.1 1 ((n1 + 1 : Nat) : Int)).1.mn) ((hearS id1 x1 y.1 1 ((n1 + 1 : Nat) : Int)).1.pi) ((hearS id1 x1 y.1 1 ((n1 + 1 : Nat) : Int)).1.pn) (bas (hearS id1 x1 y.1 1 ((n1 + 1 : Nat) : Int)).2.tx))) rfl (jA 88 _ rfl [(0, .agg (c29 ((hearS id1 x1 y.1 1 ((n1 + 1 : Nat) : Int)).1.mi) ((hearS id1 x1 y.1 1 ((n1 + 1 : Nat) : Int)).1.mn))), (1, .agg (c29 ((hearS id1 x1 y.1 1 ((n1 + 1 : Nat) : Int)).1.pi) ((hearS id1 x1 y.1 1 ((n1 + 1 : Nat) : Int)).1.pn))), (2, .string (bas (hearS id1 x1 y.1 1 ((n1 + 1 : Nat) : Int)).2.tx))] rfl _ (by kernel_rfl))
  case o14g4 =>
    intro ptrs x hw hE
    exact za _ rfl (zp 80 1 _ rfl [(0, .agg (c88 ((hearS id1 x1 y.1 1 ((n1 + 1 : Nat) : Int)).1.mi) ((hearS id1 x1 y.1 1 ((n1 + 1 : Nat) : Int)).1.mn) ((hearS id1 x1 y.1 1 ((n1 + 1 : Nat) : Int)).1.pi) ((hearS id1 x1 y.1 1 ((n1 + 1 : Nat) : Int)).1.pn) (bas (hearS id1 x1 y.1 1 ((n1 + 1 : Nat) : Int)).2.tx)))] rfl (by kernel_rfl)) (jR _ _) ⟨x.heap.size, rfl, Nat.le_trans (Nat.le_of_eq eM.symm) hw.size, heap_alloc_new _ _⟩
  case o15g4 =>
    intro ptrs x hw hE
    exact yw (v := ptrs 14) _ _ rfl rfl H.u1 eM hBM hgl ((Gro.refl _).drew.trans hw) rfl rfl hE.1
  case o16g4 => exact fun _ _ hw _ => jb (v := pK tp 0) rfl (jl _ rfl _ rfl)
  case o17g4 => exact fun _ _ hw _ => jb (v := pK tp 8) rfl (jc 83 _ 4 rfl _ _ rfl _)
  intro ptrs w24 GS hxE
  simp only [List.drop_succ_cons, List.drop_zero]
  obtain ⟨_, ⟨a4, c4, hv, HR4, K⟩, _⟩ := hxE
  simp only [hv]
  clear hv
  have GS2 := ((GroS.refl (blk d1) w23).drew.trans GS)
  clear GS
  subst eM
  replace ktp := GS2.has ktp (OY.ne H.u1 ktp (by decide))
  replace kg1 := GS2.has kg1 (OY.ne H.u1 kg1 (by decide))
  replace kg2 := GS2.has kg2 (OY.ne H.u1 kg2 (by decide))
  replace kg3 := GS2.has kg3 (OY.ne H.u1 kg3 (by decide))
  replace kgt := GS2.has kgt (OY.ne H.u1 kgt (by decide))
  replace kg4 := GS2.has kg4 (OY.ne H.u1 kg4 (by decide))
  replace kg5 := GS2.has kg5 (OY.ne H.u1 kg5 (by decide))
  replace HOa := HOa.no5 GS2 n5
  replace HLa := HLa.no46 GS2 (fun k hk => by obtain ⟨_, cur, hc⟩ := OY.at H.u1 k hk; exact ⟨_, _, hc, by decide, by decide⟩)
  replace GG := GS2.gro GG (OY.base H.u1)
  refine sv 115 (pK tp 9) (jY _ _ rfl tp 8 1 (by decide) rfl rfl _) ?_
  refine jo rfl rfl 80 _ _ rfl tp 9 rfl (.slice a4 ((r1 ++ [(zEnt (hearS id1 x1 y.1 1 ((n1 + 1 : Nat) : Int)))]).length) c4) rfl 83 _ ktp #[.slice a4 ((r1 ++ [(zEnt (hearS id1 x1 y.1 1 ((n1 + 1 : Nat) : Int)))]).length) c4] rfl (by kernel_rfl) (nlB rfl) (by kernel_rfl) (c83 (some ⟨q0, 0, none⟩) (some ⟨q1, 0, none⟩) ⟨a0, f0.length, c0⟩ ⟨a3, ((f1.take m ++ f1.drop (m + 1))).length, c3⟩ ((n0 : Nat) : Int) ((n1 : Nat) : Int) ⟨b0, s0.length, e0⟩ ⟨b1, s1.length, e1⟩ ⟨d0, r0.length, k0⟩ ⟨a4, (r1 ++ [(zEnt (hearS id1 x1 y.1 1 ((n1 + 1 : Nat) : Int)))]).length, c4⟩) (by kernel_rfl) ?_
  intro w26 St
  replace kg1 := St.has (jy kg1 ktp (by decide)) kg1
  replace kg2 := St.has (jy kg2 ktp (by decide)) kg2
  replace kg3 := St.has (jy kg3 ktp (by decide)) kg3
  replace kgt := St.has (jy kgt ktp (by decide)) kgt
  replace kg4 := St.has (jy kg4 ktp (by decide)) kg4
  replace kg5 := St.has (jy kg5 ktp (by decide)) kg5
  replace HOa := HOa.no5 ((GroS.refl [tp] _).st St (.inr (by simp))) (jv ktp (by decide))
  replace HLa := HLa.no46 ((GroS.refl [tp] _).st St (.inr (by simp))) (jK ktp (by decide) (by decide))
  replace GG := GG.store St H.base
  replace H := H.putd1 GS2 K HR4 St
  clear St ktp GS2 K HR4
  have ktp := H.box
  refine wpList_nil (ja (wp_region_lit (mv 116 (pK tp 0) (mv 117 (iK 1) ?_))))
  refine nr ?_; intro U h; simp only [z0, z1] at h; subst h
  refine sv 118 (pK gt 4) (jc 59 _ 4 rfl _ _ rfl _) (sv 119 (.slice ooa fsa.length oca) (je 50 _ rfl gt 4 rfl 59 _ kgt (na50 _) _ rfl) ?_)
  refine jt 120 rfl rfl _ 32 Try.call32 rfl rfl _ rfl [pK tp 0, iK 1, .slice ooa fsa.length oca] rfl (say1 w0 _ GG _ _ _ _ _ _ _ _ _ _ _ _ _ _ _ _ _ _ _ _ _ _ _ _ _ _ _ H ooa oca fsa HLa (by omega) hflj (.inl hone)) (fun _ _ ⟨he, _⟩ => ⟨_, he⟩) ?_
  rintro v w27 ⟨he, GG2, a2, c2, f2, H2, hfl2, hmem2⟩
  cases he
  clear GG H
  have GG := GG2
  have H := H2
  clear GG2 H2
  refine nr ?_; intro U h; simp only [z0, z1] at h; subst h
  refine wpList_nil ?_
  refine jN (results_none Try.results33 _ _ _) rfl ?_
  exact ⟨rfl, GG, y, hy, a3, c3, a2, c2, f2, a4, c4, by rw [hcnt, hgts]; exact H, hfl2, fun z hz => (hmem2 z hz).imp (fun h => h) fun h => by rw [← hma]; exact h⟩
  have hcnt : cnt n1 x1 (hearS id1 x1 y.1 1 ((n1 + 1 : Nat) : Int)).1 = n1 + 1 := if_neg (fun h => by rw [h.1, h.2] at hp1; simp at hp1)
  refine wpList_nil (ja (wp_cond_true rfl ?_))
  refine jw (A := ?Ax5) 9 [(0, 85), (1, 86), (2, 87), (3, 88), (4, 89), (5, 90), (6, 91), (7, 92), (8, 93)] [.val (pK tp 0), .val (iK 1), .val (pK tp 0), .val (pK tp 4), .val (pK tp 5), .val (iK ((n1 : Nat) : Int)), .val (iK ((n1 + 1 : Nat) : Int)), .val (pK tp 0), .val (pK tp 4)] follows (by kernel_rfl) rfl ?hAx5 (jd ?o0x5 (jd ?o1x5 (jd ?o2x5 (jd ?o3x5 (jd ?o4x5 (jd ?o5x5 (jd ?o6x5 (jd ?o7x5 (jd ?o8x5 jM))))))))) ?restx5
  case hAx5 =>
    intro ptrs
    simp only [full, foldSlots, filledE, postE, List.foldl_cons, List.foldl_nil, List.getD_cons_zero, List.getD_cons_succ, ju, List.set_cons_zero, List.set_cons_succ]
    exact rfl
  case o0x5 => exact fun _ _ _ _ => jj (v := pK tp 0) _ rfl rfl rfl
  case o1x5 => exact fun _ _ _ _ => jj (v := iK 1) _ rfl rfl rfl
  case o2x5 => exact fun _ _ hw _ => jb (v := pK tp 0) rfl (jl _ rfl _ rfl)
  case o3x5 => exact fun _ _ hw _ => jb (v := pK tp 4) rfl (jc 83 _ 2 rfl _ _ rfl _)
  case o4x5 => exact fun _ _ hw _ => jb (v := pK tp 5) rfl (zu _ _ rfl tp 4 1 (by decide) rfl rfl _)
  case o5x5 => exact fun _ _ hw _ => jb (v := iK ((n1 : Nat) : Int)) rfl (je 2 _ rfl tp 5 rfl 83 _ (hw.has ktp) (na2 _) _ rfl)
  case o6x5 => exact fun _ _ hw _ => jb (v := iK ((n1 + 1 : Nat) : Int)) rfl (jF 2 _ _ _ rfl ((n1 : Nat) : Int) 1 ((n1 + 1 : Nat) : Int) rfl rfl (by omega) (by omega) (by omega) _)
  case o7x5 => exact fun _ _ hw _ => jb (v := pK tp 0) rfl (jl _ rfl _ rfl)
  case o8x5 => exact fun _ _ hw _ => jb (v := pK tp 4) rfl (jc 83 _ 2 rfl _ _ rfl _)
  intro ptrs w24 GD hxE
  simp only [List.drop_succ_cons, List.drop_zero]
  replace ktp := GD.has ktp
  replace kg1 := GD.has kg1
  replace kg2 := GD.has kg2
  replace kg3 := GD.has kg3
  replace kgt := GD.has kgt
  replace kg4 := GD.has kg4
  replace kg5 := GD.has kg5
  replace H := H.gro ((Gro.refl _).drew.trans GD)
  replace HOa := HOa.gro ((Gro.refl _).drew.trans GD)
  replace HLa := HLa.gro ((Gro.refl _).drew.trans GD)
  replace GG := GG.drew.trans GD
  clear GD
  refine sv 94 (pK tp 5) (zu _ _ rfl tp 4 1 (by decide) rfl rfl _) ?_
  refine jo rfl rfl 2 _ _ rfl tp 5 rfl (iK ((n1 + 1 : Nat) : Int)) rfl 83 _ ktp #[iK ((n1 + 1 : Nat) : Int)] rfl (by kernel_rfl) (nlB rfl) (by kernel_rfl) (c83 (some ⟨q0, 0, none⟩) (some ⟨q1, 0, none⟩) ⟨a0, f0.length, c0⟩ ⟨a3, ((f1.take m ++ f1.drop (m + 1))).length, c3⟩ ((n0 : Nat) : Int) ((n1 + 1 : Nat) : Int) ⟨b0, s0.length, e0⟩ ⟨b1, s1.length, e1⟩ ⟨d0, r0.length, k0⟩ ⟨d1, r1.length, k1⟩) (by kernel_rfl) ?_
  intro w26 St
  replace kg1 := St.has (jy kg1 ktp (by decide)) kg1
  replace kg2 := St.has (jy kg2 ktp (by decide)) kg2
  replace kg3 := St.has (jy kg3 ktp (by decide)) kg3
  replace kgt := St.has (jy kgt ktp (by decide)) kgt
  replace kg4 := St.has (jy kg4 ktp (by decide)) kg4
  replace kg5 := St.has (jy kg5 ktp (by decide)) kg5
  replace HOa := HOa.no5 ((GroS.refl [tp] _).st St (.inr (by simp))) (jv ktp (by decide))
  replace HLa := HLa.no46 ((GroS.refl [tp] _).st St (.inr (by simp))) (jK ktp (by decide) (by decide))
  replace GG := GG.store St H.base
  replace H := H.cnt1 St
  clear St ktp
  have ktp := H.box
  refine wpList_nil (ja (wp_seq (wp_seq (wp_region_lit ?_))))
  cases hcm : (hearS id1 x1 y.1 1 ((n1 + 1 : Nat) : Int)).2.came
  rw [hcm] at kgt
  have hgts : gets r1 (hearS id1 x1 y.1 1 ((n1 + 1 : Nat) : Int)) = r1 := by unfold gets; rw [hcm]; rfl
  refine sv 95 (pK gt 3) (jc 59 _ 3 rfl _ _ rfl _) (sv 96 (vFa) (je 4 _ rfl gt 3 rfl 59 _ kgt (na4 _) _ rfl) ?_)
  refine nr ?_; intro U h; simp only [z0, z1] at h; subst h
  refine wpList_nil (ja (wp_cond_false rfl (wp_skip (ja (wp_region_lit (mv 116 (pK tp 0) (mv 117 (iK 1) (sv 118 (pK gt 4) (jc 59 _ 4 rfl _ _ rfl _) ?_))))))))
  refine nr ?_; intro U h; simp only [z0, z1] at h; subst h
  refine sv 119 (.slice ooa fsa.length oca) (je 50 _ rfl gt 4 rfl 59 _ kgt (na50 _) _ rfl) ?_
  refine jt 120 rfl rfl _ 32 Try.call32 rfl rfl _ rfl [pK tp 0, iK 1, .slice ooa fsa.length oca] rfl (say1 w0 _ GG _ _ _ _ _ _ _ _ _ _ _ _ _ _ _ _ _ _ _ _ _ _ _ _ _ _ _ H ooa oca fsa HLa (by omega) hflj (.inl hone)) (fun _ _ ⟨he, _⟩ => ⟨_, he⟩) ?_
  rintro v w27 ⟨he, GG2, a2, c2, f2, H2, hfl2, hmem2⟩
  cases he
  clear GG H
  have GG := GG2
  have H := H2
  clear GG2 H2
  refine wpList_nil ?_
  refine jN (results_none Try.results33 _ _ _) rfl ?_
  exact ⟨rfl, GG, y, hy, a3, c3, a2, c2, f2, d1, k1, by rw [hcnt, hgts]; exact H, hfl2, fun z hz => (hmem2 z hz).imp (fun h => h) fun h => by rw [← hma]; exact h⟩
  rw [hcm] at kgt
  have hgts : gets r1 (hearS id1 x1 y.1 1 ((n1 + 1 : Nat) : Int)) = r1 ++ [(zEnt (hearS id1 x1 y.1 1 ((n1 + 1 : Nat) : Int)))] := by unfold gets; rw [hcm]; rfl
  refine sv 95 (pK gt 3) (jc 59 _ 3 rfl _ _ rfl _) ?_
  refine nr ?_; intro U h; simp only [z0, z1] at h; subst h
  refine sv 96 (vTr) (je 4 _ rfl gt 3 rfl 59 _ kgt (na4 _) _ rfl) (wpList_nil (ja (wp_cond_true rfl ?_)))
  obtain ⟨M, eM⟩ : ∃ M, w26.heap.size = M := ⟨_, rfl⟩
  have hBM : w0.heap.size ≤ M := eM ▸ GG.size
  have n5 : No5 w26 (blk d1) := fun k hk => by obtain ⟨_, cur, hc⟩ := OY.at H.u1 k hk; exact ⟨_, _, hc, by decide⟩
  refine zd (A := ?Ag6) (blk d1) 18 [(0, 97), (1, 98), (2, 99), (3, 100), (4, 101), (5, 102), (6, 103), (7, 104), (8, 105), (9, 106), (10, 107), (11, 108), (12, 109), (13, 110), (14, 111), (15, 112), (16, 113), (17, 114)] [.val (pK tp 0), .val (iK 1), .val (pK tp 0), .val (iK 1), .val (pK tp 0), .val (pK tp 8), .val (pK tp 9), .val (.slice d1 r1.length k1), .val (.agg (c29 ((hearS id1 x1 y.1 1 ((n1 + 1 : Nat) : Int)).1.mi) ((hearS id1 x1 y.1 1 ((n1 + 1 : Nat) : Int)).1.mn))), .val (.agg (c29 ((hearS id1 x1 y.1 1 ((n1 + 1 : Nat) : Int)).1.pi) ((hearS id1 x1 y.1 1 ((n1 + 1 : Nat) : Int)).1.pn))), .val (pK gt 2), .val (.slice aoa ((hearS id1 x1 y.1 1 ((n1 + 1 : Nat) : Int)).2.tx.length) capa), .val (.string (bas (hearS id1 x1 y.1 1 ((n1 + 1 : Nat) : Int)).2.tx)), .val (.agg (c88 ((hearS id1 x1 y.1 1 ((n1 + 1 : Nat) : Int)).1.mi) ((hearS id1 x1 y.1 1 ((n1 + 1 : Nat) : Int)).1.mn) ((hearS id1 x1 y.1 1 ((n1 + 1 : Nat) : Int)).1.pi) ((hearS id1 x1 y.1 1 ((n1 + 1 : Nat) : Int)).1.pn) (bas (hearS id1 x1 y.1 1 ((n1 + 1 : Nat) : Int)).2.tx))), bsE2 M (zEnt (hearS id1 x1 y.1 1 ((n1 + 1 : Nat) : Int))), asE w0.heap.size M d1 (r1 ++ [(zEnt (hearS id1 x1 y.1 1 ((n1 + 1 : Nat) : Int)))]), .val (pK tp 0), .val (pK tp 8)] 15 follows (by kernel_rfl) rfl (by decide) (fun j hj hne v a b _ hb hp => match j, hj, hne, hp with | 0, _, _, hp => hp | 1, _, _, hp => hp | 2, _, _, hp => hp | 3, _, _, hp => hp | 4, _, _, hp => hp | 5, _, _, hp => hp | 6, _, _, hp => hp | 7, _, _, hp => hp | 8, _, _, hp => hp | 9, _, _, hp => hp | 10, _, _, hp => hp | 11, _, _, hp => hp | 12, _, _, hp => hp | 13, _, _, hp => hp | 14, _, _, hp => Exists.elim hp fun g hp => ⟨g, hp.1, hp.2.1, hb.has hp.2.2 (zN H.u1 eM hp.2.1)⟩ | 15, _, hne, _ => absurd rfl hne | 16, _, _, hp => hp | 17, _, _, hp => hp | m + 18, hj, _, _ => absurd hj (by omega)) ?hAg6 (jp (by decide) ?o0g6 (jp (by decide) ?o1g6 (jp (by decide) ?o2g6 (jp (by decide) ?o3g6 (jp (by decide) ?o4g6 (jp (by decide) ?o5g6 (jp (by decide) ?o6g6 (jp (by decide) ?o7g6 (jp (by decide) ?o8g6 (jp (by decide) ?o9g6 (jp (by decide) ?o10g6 (jp (by decide) ?o11g6 (jp (by decide) ?o12g6 (jp (by decide) ?o13g6 (jp (by decide) ?o14g6 (zW ?o15g6 (jp (by decide) ?o16g6 (jp (by decide) ?o17g6 zy)))))))))))))))))) ?restg6
  case hAg6 =>
    intro ptrs
    simp only [full, foldSlots, filledE, postE, List.foldl_cons, List.foldl_nil, List.getD_cons_zero, List.getD_cons_succ, ju, zQ, yc,  List.set_cons_zero, List.set_cons_succ]
    exact rfl
  case o0g6 => exact fun _ _ _ _ => jj (v := pK tp 0) _ rfl rfl rfl
  case o1g6 => exact fun _ _ _ _ => jj (v := iK 1) _ rfl rfl rfl
  case o2g6 => exact fun _ _ _ _ => jj (v := pK tp 0) _ rfl rfl rfl
  case o3g6 => exact fun _ _ _ _ => jj (v := iK 1) _ rfl rfl rfl
  case o4g6 => exact fun _ _ hw _ => jb (v := pK tp 0) rfl (jl _ rfl _ rfl)
  case o5g6 => exact fun _ _ hw _ => jb (v := pK tp 8) rfl (jc 83 _ 4 rfl _ _ rfl _)
  case o6g6 => exact fun _ _ hw _ => jb (v := pK tp 9) rfl (jY _ _ rfl tp 8 1 (by decide) rfl rfl _)
  case o7g6 => exact fun _ _ hw _ => jb (v := .slice d1 r1.length k1) rfl (je 80 _ rfl tp 9 rfl 83 _ (hw.has ktp (OY.ne H.u1 ktp (by decide))) (na80 _) _ rfl)
  case o8g6 => exact fun _ _ hw _ => jb (v := .agg (c29 ((hearS id1 x1 y.1 1 ((n1 + 1 : Nat) : Int)).1.mi) ((hearS id1 x1 y.1 1 ((n1 + 1 : Nat) : Int)).1.mn))) rfl (jk 29 _ rfl g4 0 2 rfl 29 _ (hw.has kg4 (OY.ne H.u1 kg4 (by decide))) _ Try.underlying29 rfl si29 _)
  case o9g6 => exact fun _ _ hw _ => jb (v := .agg (c29 ((hearS id1 x1 y.1 1 ((n1 + 1 : Nat) : Int)).1.pi) ((hearS id1 x1 y.1 1 ((n1 + 1 : Nat) : Int)).1.pn))) rfl (jk 29 _ rfl g5 0 2 rfl 29 _ (hw.has kg5 (OY.ne H.u1 kg5 (by decide))) _ Try.underlying29 rfl si29 _)
  case o10g6 => exact fun _ _ hw _ => jb (v := pK gt 2) rfl (jc 59 _ 2 rfl _ _ rfl _)
  case o11g6 => exact fun _ _ hw _ => jb (v := .slice aoa ((hearS id1 x1 y.1 1 ((n1 + 1 : Nat) : Int)).2.tx.length) capa) rfl (je 36 _ rfl gt 2 rfl 59 _ (hw.has kgt (OY.ne H.u1 kgt (by decide))) (na36 _) _ rfl)
  case o12g6 => exact fun _ _ hw _ => jb (v := .string (bas (hearS id1 x1 y.1 1 ((n1 + 1 : Nat) : Int)).2.tx)) rfl (zr bT 9 Try.underlying9 _ rfl rfl (HOa.no5 ((GroS.refl _ _).drew.trans hw) n5).nc)
  case o13g6 => exact fun _ _ hw _ => jb (v := .agg (c88 ((hearS id1 x1 y.1 1 ((n1 + 1 : Nat) : Int)).1.mi) ((hearS id1 x1 y.1 1 ((n1 + 1 : Nat) : Int)).1.mn) ((hearS id1 x1 y.1 1 ((n1 + 1 : Nat) : Int)).1.pi) ((hearS id1 x1 y.1 1 ((n1 + 1 : Nat) : Int)).1.pn) (bas (hearS id1 x1 y.1 1 ((n1 + 1 : Nat) : Int)).2.tx))) rfl (jA 88 _ rfl [(0, .agg (c29 ((hearS id1 x1 y.1 1 ((n1 + 1 : Nat) : Int)).1.mi) ((hearS id1 x1 y.1 1 ((n1 + 1 : Nat) : Int)).1.mn))), (1, .agg (c29 ((hearS id1 x1 y.1 1 ((n1 + 1 : Nat) : Int)).1.pi) ((hearS id1 x1 y.1 1 ((n1 + 1 : Nat) : Int)).1.pn))), (2, .string (bas (hearS id1 x1 y.1 1 ((n1 + 1 : Nat) : Int)).2.tx))] rfl _ (by kernel_rfl))
  case o14g6 =>
    intro ptrs x hw hE
    exact za _ rfl (zp 80 1 _ rfl [(0, .agg (c88 ((hearS id1 x1 y.1 1 ((n1 + 1 : Nat) : Int)).1.mi) ((hearS id1 x1 y.1 1 ((n1 + 1 : Nat) : Int)).1.mn) ((hearS id1 x1 y.1 1 ((n1 + 1 : Nat) : Int)).1.pi) ((hearS id1 x1 y.1 1 ((n1 + 1 : Nat) : Int)).1.pn) (bas (hearS id1 x1 y.1 1 ((n1 + 1 : Nat) : Int)).2.tx)))] rfl (by kernel_rfl)) (jR _ _) ⟨x.heap.size, rfl, Nat.le_trans (Nat.le_of_eq eM.symm) hw.size, heap_alloc_new _ _⟩
  case o15g6 =>
    intro ptrs x hw hE
    exact yw (v := ptrs 14) _ _ rfl rfl H.u1 eM hBM hgl ((Gro.refl _).drew.trans hw) rfl rfl hE.1
  case o16g6 => exact fun _ _ hw _ => jb (v := pK tp 0) rfl (jl _ rfl _ rfl)
  case o17g6 => exact fun _ _ hw _ => jb (v := pK tp 8) rfl (jc 83 _ 4 rfl _ _ rfl _)
  intro ptrs w27 GS hxE
  simp only [List.drop_succ_cons, List.drop_zero]
  obtain ⟨_, ⟨a4, c4, hv, HR4, K⟩, _⟩ := hxE
  simp only [hv]
  clear hv
  have GS2 := ((GroS.refl (blk d1) w26).drew.trans GS)
  clear GS
  subst eM
  replace ktp := GS2.has ktp (OY.ne H.u1 ktp (by decide))
  replace kg1 := GS2.has kg1 (OY.ne H.u1 kg1 (by decide))
  replace kg2 := GS2.has kg2 (OY.ne H.u1 kg2 (by decide))
  replace kg3 := GS2.has kg3 (OY.ne H.u1 kg3 (by decide))
  replace kgt := GS2.has kgt (OY.ne H.u1 kgt (by decide))
  replace kg4 := GS2.has kg4 (OY.ne H.u1 kg4 (by decide))
  replace kg5 := GS2.has kg5 (OY.ne H.u1 kg5 (by decide))
  replace HOa := HOa.no5 GS2 n5
  replace HLa := HLa.no46 GS2 (fun k hk => by obtain ⟨_, cur, hc⟩ := OY.at H.u1 k hk; exact ⟨_, _, hc, by decide, by decide⟩)
  replace GG := GS2.gro GG (OY.base H.u1)
  refine sv 115 (pK tp 9) (jY _ _ rfl tp 8 1 (by decide) rfl rfl _) ?_
  refine jo rfl rfl 80 _ _ rfl tp 9 rfl (.slice a4 ((r1 ++ [(zEnt (hearS id1 x1 y.1 1 ((n1 + 1 : Nat) : Int)))]).length) c4) rfl 83 _ ktp #[.slice a4 ((r1 ++ [(zEnt (hearS id1 x1 y.1 1 ((n1 + 1 : Nat) : Int)))]).length) c4] rfl (by kernel_rfl) (nlB rfl) (by kernel_rfl) (c83 (some ⟨q0, 0, none⟩) (some ⟨q1, 0, none⟩) ⟨a0, f0.length, c0⟩ ⟨a3, ((f1.take m ++ f1.drop (m + 1))).length, c3⟩ ((n0 : Nat) : Int) ((n1 + 1 : Nat) : Int) ⟨b0, s0.length, e0⟩ ⟨b1, s1.length, e1⟩ ⟨d0, r0.length, k0⟩ ⟨a4, (r1 ++ [(zEnt (hearS id1 x1 y.1 1 ((n1 + 1 : Nat) : Int)))]).length, c4⟩) (by kernel_rfl) ?_
  intro w29 St
  replace kg1 := St.has (jy kg1 ktp (by decide)) kg1
  replace kg2 := St.has (jy kg2 ktp (by decide)) kg2
  replace kg3 := St.has (jy kg3 ktp (by decide)) kg3
  replace kgt := St.has (jy kgt ktp (by decide)) kgt
  replace kg4 := St.has (jy kg4 ktp (by decide)) kg4
  replace kg5 := St.has (jy kg5 ktp (by decide)) kg5
  replace HOa := HOa.no5 ((GroS.refl [tp] _).st St (.inr (by simp))) (jv ktp (by decide))
  replace HLa := HLa.no46 ((GroS.refl [tp] _).st St (.inr (by simp))) (jK ktp (by decide) (by decide))
  replace GG := GG.store St H.base
  replace H := H.putd1 GS2 K HR4 St
  clear St ktp GS2 K HR4
  have ktp := H.box
  refine wpList_nil (ja (wp_region_lit (mv 116 (pK tp 0) ?_)))
  refine nr ?_; intro U h; simp only [z0, z1] at h; subst h
  refine mv 117 (iK 1) (sv 118 (pK gt 4) (jc 59 _ 4 rfl _ _ rfl _) (sv 119 (.slice ooa fsa.length oca) (je 50 _ rfl gt 4 rfl 59 _ kgt (na50 _) _ rfl) ?_))
  refine nr ?_; intro U h; simp only [z0, z1] at h; subst h
  refine jt 120 rfl rfl _ 32 Try.call32 rfl rfl _ rfl [pK tp 0, iK 1, .slice ooa fsa.length oca] rfl (say1 w0 _ GG _ _ _ _ _ _ _ _ _ _ _ _ _ _ _ _ _ _ _ _ _ _ _ _ _ _ _ H ooa oca fsa HLa (by omega) hflj (.inl hone)) (fun _ _ ⟨he, _⟩ => ⟨_, he⟩) ?_
  rintro v w30 ⟨he, GG2, a2, c2, f2, H2, hfl2, hmem2⟩
  cases he
  clear GG H
  have GG := GG2
  have H := H2
  clear GG2 H2
  refine wpList_nil ?_
  refine jN (results_none Try.results33 _ _ _) rfl ?_
  exact ⟨rfl, GG, y, hy, a3, c3, a2, c2, f2, a4, c4, by rw [hcnt, hgts]; exact H, hfl2, fun z hz => (hmem2 z hz).imp (fun h => h) fun h => by rw [← hma]; exact h⟩
end Go.Proofs.Ytlfanecaglbomaa
