/- The types of this program; an end of a link, as it is told; ends and frames in memory. -/
import Derived.Test.YtlfanecaglbomaaCU2
import Derived.Test.YtlfanecaglbomaaCLaw10
namespace Go.Proofs.Ytlfanecaglbomaa
open Go.RowKit
theorem zv23 (w : World) : (zeroValue 23).run Try.prog w = .ok (.agg (c23 zF)) w := by kernel_rfl
theorem zv29 (w : World) : (zeroValue 29).run Try.prog w = .ok (.agg (c29 0 0)) w := by kernel_rfl
def c98 (x0 : Nat → Nat) (x1 : Bool) (x2 : Bool) (x3 : Int) (x4 : Int) (x5 : Int) (x6 : Int) (x7 : Nat → Nat) (x8 : Option Addr) : Array Value := #[.int .u8 ((x0 0 : Nat) : Int), .int .u8 ((x0 1 : Nat) : Int), .int .u8 ((x0 2 : Nat) : Int), .int .u8 ((x0 3 : Nat) : Int), .int .u8 ((x0 4 : Nat) : Int), .int .u8 ((x0 5 : Nat) : Int), .int .u8 ((x0 6 : Nat) : Int), .int .u8 ((x0 7 : Nat) : Int), .int .u8 ((x0 8 : Nat) : Int), .int .u8 ((x0 9 : Nat) : Int), .int .u8 ((x0 10 : Nat) : Int), .int .u8 ((x0 11 : Nat) : Int), .int .u8 ((x0 12 : Nat) : Int), .int .u8 ((x0 13 : Nat) : Int), .int .u8 ((x0 14 : Nat) : Int), .int .u8 ((x0 15 : Nat) : Int), .bool x1, .bool x2, iK x3, iK x4, iK x5, iK x6, .int .u8 ((x7 0 : Nat) : Int), .int .u8 ((x7 1 : Nat) : Int), .int .u8 ((x7 2 : Nat) : Int), .int .u8 ((x7 3 : Nat) : Int), .int .u8 ((x7 4 : Nat) : Int), .int .u8 ((x7 5 : Nat) : Int), .int .u8 ((x7 6 : Nat) : Int), .int .u8 ((x7 7 : Nat) : Int), .int .u8 ((x7 8 : Nat) : Int), .int .u8 ((x7 9 : Nat) : Int), .int .u8 ((x7 10 : Nat) : Int), .int .u8 ((x7 11 : Nat) : Int), .int .u8 ((x7 12 : Nat) : Int), .int .u8 ((x7 13 : Nat) : Int), .int .u8 ((x7 14 : Nat) : Int), .int .u8 ((x7 15 : Nat) : Int), .pointer x8]
theorem si98 : (Try.prog.info? 98).map (·.size) = some 39 := by kernel_rfl
def c34 (x0 : Nat → Nat) (x1 : Bool) (x2 : Bool) (x3 : Int) (x4 : Int) (x5 : Int) (x6 : Int) (x7 : Nat → Nat) (x8 : Sl) (x9 : Int) (x10 : Int) : Array Value := #[.int .u8 ((x0 0 : Nat) : Int), .int .u8 ((x0 1 : Nat) : Int), .int .u8 ((x0 2 : Nat) : Int), .int .u8 ((x0 3 : Nat) : Int), .int .u8 ((x0 4 : Nat) : Int), .int .u8 ((x0 5 : Nat) : Int), .int .u8 ((x0 6 : Nat) : Int), .int .u8 ((x0 7 : Nat) : Int), .int .u8 ((x0 8 : Nat) : Int), .int .u8 ((x0 9 : Nat) : Int), .int .u8 ((x0 10 : Nat) : Int), .int .u8 ((x0 11 : Nat) : Int), .int .u8 ((x0 12 : Nat) : Int), .int .u8 ((x0 13 : Nat) : Int), .int .u8 ((x0 14 : Nat) : Int), .int .u8 ((x0 15 : Nat) : Int), .bool x1, .bool x2, iK x3, iK x4, iK x5, iK x6, .int .u8 ((x7 0 : Nat) : Int), .int .u8 ((x7 1 : Nat) : Int), .int .u8 ((x7 2 : Nat) : Int), .int .u8 ((x7 3 : Nat) : Int), .int .u8 ((x7 4 : Nat) : Int), .int .u8 ((x7 5 : Nat) : Int), .int .u8 ((x7 6 : Nat) : Int), .int .u8 ((x7 7 : Nat) : Int), .int .u8 ((x7 8 : Nat) : Int), .int .u8 ((x7 9 : Nat) : Int), .int .u8 ((x7 10 : Nat) : Int), .int .u8 ((x7 11 : Nat) : Int), .int .u8 ((x7 12 : Nat) : Int), .int .u8 ((x7 13 : Nat) : Int), .int .u8 ((x7 14 : Nat) : Int), .int .u8 ((x7 15 : Nat) : Int), .slice x8.ao x8.n x8.cap, iK x9, iK x10]
def c59 (x0 : Bool) (x1 : Bool) (x2 : Sl) (x3 : Bool) (x4 : Sl) : Array Value := #[.bool x0, .bool x1, .slice x2.ao x2.n x2.cap, .bool x3, .slice x4.ao x4.n x4.cap]
theorem si59 : (Try.prog.info? 59).map (·.size) = some 5 := by kernel_rfl
theorem zv59 (w : World) : (zeroValue 59).run Try.prog w = .ok (.agg (c59 false false Sl.nil false Sl.nil)) w := by kernel_rfl
def c62 (x0 : Bool) (x1 : Bool) (x2 : Sl) (x3 : Bool) (x4 : Sl) : Array Value := #[.bool x0, .bool x1, .slice x2.ao x2.n x2.cap, .bool x3, .slice x4.ao x4.n x4.cap]
theorem si62 : (Try.prog.info? 62).map (·.size) = some 5 := by kernel_rfl
theorem zv62 (w : World) : (zeroValue 62).run Try.prog w = .ok (.agg (c62 false false Sl.nil false Sl.nil)) w := by kernel_rfl
def c48 (x0 : Int) (x1 : Int) (x2 : Int) (x3 : Sl) (x4 : Int) (x5 : Nat → Nat) (x6 : Int) (x7 : Bool) (x8 : Nat → Nat) (x9 : Nat → Nat) (x10 : Int) (x11 : Int) (x12 : Int) (x13 : Int) (x14 : Int) (x15 : Sl) (x16 : Sl) (x17 : Nat → Nat) (x18 : Int) (x19 : Nat → Nat) (x20 : Sl) (x21 : Int) (x22 : Int) (x23 : Sl) : Array Value := #[iK x0, iK x1, iK x2, .slice x3.ao x3.n x3.cap, iK x4, .int .u8 ((x5 0 : Nat) : Int), .int .u8 ((x5 1 : Nat) : Int), .int .u8 ((x5 2 : Nat) : Int), .int .u8 ((x5 3 : Nat) : Int), .int .u8 ((x5 4 : Nat) : Int), .int .u8 ((x5 5 : Nat) : Int), .int .u8 ((x5 6 : Nat) : Int), .int .u8 ((x5 7 : Nat) : Int), .int .u8 ((x5 8 : Nat) : Int), .int .u8 ((x5 9 : Nat) : Int), .int .u8 ((x5 10 : Nat) : Int), .int .u8 ((x5 11 : Nat) : Int), .int .u8 ((x5 12 : Nat) : Int), .int .u8 ((x5 13 : Nat) : Int), .int .u8 ((x5 14 : Nat) : Int), .int .u8 ((x5 15 : Nat) : Int), iK x6, .bool x7, .int .u8 ((x8 0 : Nat) : Int), .int .u8 ((x8 1 : Nat) : Int), .int .u8 ((x8 2 : Nat) : Int), .int .u8 ((x8 3 : Nat) : Int), .int .u8 ((x8 4 : Nat) : Int), .int .u8 ((x8 5 : Nat) : Int), .int .u8 ((x8 6 : Nat) : Int), .int .u8 ((x8 7 : Nat) : Int), .int .u8 ((x8 8 : Nat) : Int), .int .u8 ((x8 9 : Nat) : Int), .int .u8 ((x8 10 : Nat) : Int), .int .u8 ((x8 11 : Nat) : Int), .int .u8 ((x8 12 : Nat) : Int), .int .u8 ((x8 13 : Nat) : Int), .int .u8 ((x8 14 : Nat) : Int), .int .u8 ((x8 15 : Nat) : Int), .int .u8 ((x9 0 : Nat) : Int), .int .u8 ((x9 1 : Nat) : Int), .int .u8 ((x9 2 : Nat) : Int), .int .u8 ((x9 3 : Nat) : Int), .int .u8 ((x9 4 : Nat) : Int), .int .u8 ((x9 5 : Nat) : Int), .int .u8 ((x9 6 : Nat) : Int), .int .u8 ((x9 7 : Nat) : Int), .int .u8 ((x9 8 : Nat) : Int), .int .u8 ((x9 9 : Nat) : Int), .int .u8 ((x9 10 : Nat) : Int), .int .u8 ((x9 11 : Nat) : Int), .int .u8 ((x9 12 : Nat) : Int), .int .u8 ((x9 13 : Nat) : Int), .int .u8 ((x9 14 : Nat) : Int), .int .u8 ((x9 15 : Nat) : Int), iK x10, iK x11, iK x12, iK x13, iK x14, .slice x15.ao x15.n x15.cap, .slice x16.ao x16.n x16.cap, .int .u8 ((x17 0 : Nat) : Int), .int .u8 ((x17 1 : Nat) : Int), .int .u8 ((x17 2 : Nat) : Int), .int .u8 ((x17 3 : Nat) : Int), .int .u8 ((x17 4 : Nat) : Int), .int .u8 ((x17 5 : Nat) : Int), .int .u8 ((x17 6 : Nat) : Int), .int .u8 ((x17 7 : Nat) : Int), .int .u8 ((x17 8 : Nat) : Int), .int .u8 ((x17 9 : Nat) : Int), .int .u8 ((x17 10 : Nat) : Int), .int .u8 ((x17 11 : Nat) : Int), .int .u8 ((x17 12 : Nat) : Int), .int .u8 ((x17 13 : Nat) : Int), .int .u8 ((x17 14 : Nat) : Int), .int .u8 ((x17 15 : Nat) : Int), iK x18, .int .u8 ((x19 0 : Nat) : Int), .int .u8 ((x19 1 : Nat) : Int), .int .u8 ((x19 2 : Nat) : Int), .int .u8 ((x19 3 : Nat) : Int), .int .u8 ((x19 4 : Nat) : Int), .int .u8 ((x19 5 : Nat) : Int), .int .u8 ((x19 6 : Nat) : Int), .int .u8 ((x19 7 : Nat) : Int), .int .u8 ((x19 8 : Nat) : Int), .int .u8 ((x19 9 : Nat) : Int), .int .u8 ((x19 10 : Nat) : Int), .int .u8 ((x19 11 : Nat) : Int), .int .u8 ((x19 12 : Nat) : Int), .int .u8 ((x19 13 : Nat) : Int), .int .u8 ((x19 14 : Nat) : Int), .int .u8 ((x19 15 : Nat) : Int), .slice x20.ao x20.n x20.cap, iK x21, iK x22, .slice x23.ao x23.n x23.cap]
theorem si48 : (Try.prog.info? 48).map (·.size) = some 99 := by kernel_rfl
theorem zv48 (w : World) : (zeroValue 48).run Try.prog w = .ok (.agg (c48 0 0 0 Sl.nil 0 zF 0 false zF zF 0 0 0 0 0 Sl.nil Sl.nil zF 0 zF Sl.nil 0 0 Sl.nil)) w := by kernel_rfl
theorem si110 : (Try.prog.info? 110).map (·.size) = some 20 := by kernel_rfl
theorem na50 (w : World) : (isAgg 50).run Try.prog w = .ok false w := by kernel_rfl
theorem na95 (w : World) : (isAgg 95).run Try.prog w = .ok false w := by kernel_rfl
theorem uq {P : Program} {fn : Func} {p q : Tmp} {ty ty2 : TypeId} (h : fn.results = #[.cell p ty, .cell q ty2]) (tmps : Array Value) (w : World) (g g2 : Nat) (t t2 : TypeId) (cs cs2 : Array Value) (d d2 : TypeDesc)
    (hp : tmps.getD p undef = pK g 0) (hq : tmps.getD q undef = pK g2 0) (hg : w.heap[g]? = some (.cells cs t (0, 0))) (hg2 : w.heap[g2]? = some (.cells cs2 t2 (0, 0)))
    (hu : P.underlying ty = some d) (hd : (match d with | .struct _ | .array _ _ => true | _ => false) = true) (hi : (P.info? ty).map (·.size) = some cs.size)
    (hu2 : P.underlying ty2 = some d2) (hd2 : (match d2 with | .struct _ | .array _ _ => true | _ => false) = true) (hi2 : (P.info? ty2).map (·.size) = some cs2.size) : (results fn tmps).run P w = .ok (.tuple #[.agg cs, .agg cs2]) w := by
  have hp' : tmps[p]?.getD undef = pK g 0 := by simpa using hp
  have hq' : tmps[q]?.getD undef = pK g2 0 := by simpa using hq
  simp [results, h, hp', hq', asAddr, run_loadVar_row w g t ty cs (0, 0) d hg hu hd hi, run_loadVar_row w g2 t2 ty2 cs2 (0, 0) d2 hg2 hu2 hd2 hi2]
section
variable {t t2 : TypeId} {cs cs2 : Array Value} {w w' : World} {p B r B2 : Nat} {ao so : Option Addr} {cap sc : Nat} {q u : List RV}
theorem WX.stT (H : WX t cs w p B ao cap q) {g : Nat} {t' : TypeId} (ht : t ≠ t') (h36 : t' ≠ 36) (h5 : t' ≠ 5) {c : Array Value} {x : Obj} (hg : w.heap[g]? = some (.cells c t' (0, 0))) (St : Stored w w' g x) : WX t cs w' p B ao cap q :=
  H.gros (S := [g]) ((GroS.refl [g] w).st St (.inr (by simp))) (fun h => by cases List.mem_singleton.1 h; exact jJ H.box hg ht rfl) (fun k hk h => by cases List.mem_singleton.1 h; exact H.row.ne hg h36 hk)
    (H.f5 fun k hk => by cases List.mem_singleton.1 hk; exact ⟨_, _, hg, h5⟩)
end
structure ES where
  up : Bool
  op : Bool
  mi : Int
  mn : Int
  pi : Int
  pn : Int
  oth : Nat → Nat
  k : Nat
  q : List (List Nat)
  c : Nat
def ES.new : ES := ⟨false, false, 0, 0, 0, 0, zF, 0, [], 0⟩
structure PF where
  kind : Int
  a : Nat → Nat
  fi : Int
  fn : Int
  ti : Int
  tn : Int
  n : Int
  tx : List Nat
structure PT where
  died : Bool
  opened : Bool
  tx : List Nat
  came : Bool
  out : List PF
def PT.no : PT := ⟨false, false, [], false, []⟩
def greetF (id : Nat → Nat) (x : ES) : PF := ⟨1, id, x.mi, x.mn, x.pi, x.pn, 0, []⟩
def ackF (x : ES) : PF := ⟨3, zF, x.mi, x.mn, x.pi, x.pn, (x.c : Int), []⟩
def dataF (x : ES) (n : Int) (l : List Nat) : PF := ⟨2, zF, x.mi, x.mn, x.pi, x.pn, n, l⟩
def lessN (ai an bi bn : Int) : Bool := if ai = bi then decide (an < bn) else decide (ai < bi)
def anewS (x : ES) (m : PF) (ni nn : Int) : ES := ⟨x.up, false, if x.op then ni else x.mi, if x.op then nn else x.mn, m.fi, m.fn, m.a, 0, [], 0⟩
def metS (id : Nat → Nat) (died : Bool) (x : ES) (m : PF) : ES × PT :=
  if m.ti = x.mi ∧ m.tn = x.mn then
    if x.op then (x, ⟨false, false, [], false, [ackF x]⟩) else ({ x with op := true }, ⟨died, true, [], false, [greetF id x]⟩)
  else (x, ⟨died, false, [], false, [greetF id x]⟩)
def helloS (id : Nat → Nat) (x : ES) (m : PF) (ni nn : Int) : ES × PT :=
  if lessN m.fi m.fn x.pi x.pn = true ∨ (m.fi = 0 ∧ m.fn = 0) then (x, PT.no)
  else if lessN x.pi x.pn m.fi m.fn = true then metS id x.op (anewS x m ni nn) m
  else metS id false x m
def ackS (x : ES) (n : Int) : ES := if (x.k : Int) < n ∧ n ≤ ((x.k + x.q.length : Nat) : Int) then { x with k := n.toNat, q := x.q.drop (n.toNat - x.k) } else x
abbrev withinS (x : ES) (m : PF) : Prop := (m.fi = x.pi ∧ m.fn = x.pn) ∧ m.ti = x.mi ∧ m.tn = x.mn
def cameS (x : ES) (m : PF) : ES × PT :=
  if m.n = (x.c : Int) + 1 then ({ x with op := true, c := x.c + 1 }, ⟨false, !x.op, m.tx, true, [ackF { x with c := x.c + 1 }]⟩)
  else ({ x with op := true }, ⟨false, !x.op, [], false, [ackF x]⟩)
def hearS (id : Nat → Nat) (x : ES) (m : PF) (ni nn : Int) : ES × PT :=
  if x.up = true then
    if m.kind = 1 then helloS id x m ni nn
    else if m.kind = 2 then (if withinS x m then cameS x m else (x, PT.no))
    else if m.kind = 3 then (if withinS x m then (ackS { x with op := true } m.n, ⟨false, !x.op, [], false, []⟩) else (x, PT.no))
    else (x, PT.no)
  else (x, PT.no)
def riseS (id : Nat → Nat) (x : ES) (i n : Int) : ES × List PF := if x.up = true then (x, []) else ({ x with up := true, mi := i, mn := n }, [greetF id { x with mi := i, mn := n }])
def ticksF (x : ES) : Nat → List (List Nat) → List PF
  | _, [] => []
  | n, l :: r => dataF x ((n : Nat) : Int) l :: ticksF x (n + 1) r
def tickS (id : Nat → Nat) (x : ES) : List PF := if x.up = true then (if x.op = true then ticksF x (x.k + 1) x.q else [greetF id x]) else []
def pfr (m : PF) (s1 s2 s3 s4 : Sl) : Fr := ⟨m.kind, zF, 0, false, m.a, zF, m.n, m.fi, m.fn, m.ti, m.tn, s1, s2, zF, 0, zF, s3, 0, 0, s4⟩
def pfd (m : PF) : FD := ⟨[], [], [], m.tx⟩
def pin (f : Fr) (d : FD) : PF := ⟨f.kind, f.a, f.fi, f.fn, f.ti, f.tn, f.n, d.tx⟩
structure NoR (s : Sl) : Prop where
  n : s.n = 0
  bare : s.ao = none → s.cap = 0
theorem NoR.nil : NoR Sl.nil := ⟨rfl, fun _ => rfl⟩
theorem NoR.xc {s : Sl} (h : NoR s) (w : World) (sz : Nat) : XC w sz s.ao s.cap s.n [] := ⟨by rw [h.n]; simp, by rw [h.n]; exact Nat.zero_le _, h.bare, (fun _ _ _ _ h => by simp at h), fun _ h => by cases h⟩
theorem NoR.of {w : World} {sz : Nat} {s : Sl} (hz : 0 < sz) (h : XC w sz s.ao s.cap s.n []) : NoR s := ⟨by
  have h1 := h.len
  rcases Nat.eq_zero_or_pos s.n with h0 | h0
  · exact h0
  · have := Nat.mul_pos h0 hz
    simp at h1
    omega, h.bare⟩
structure FV (w : World) (m : PF) (f : Fr) : Prop where
  eq : ∃ s1 s2 s3 : Sl, ∃ ao cap, f = pfr m s1 s2 s3 ⟨ao, m.tx.length, cap⟩ ∧ NoR s1 ∧ NoR s2 ∧ NoR s3 ∧ OB w 5 .u8 0 ao cap m.tx
theorem Jj {w : World} {B : Nat} {ao : Option Addr} {cap n : Nat} {l : List Nat} (h : OX w 5 1 B ao cap n (bL l)) (hl : ∀ x ∈ l, x < 256) : n = l.length ∧ OB w 5 .u8 0 ao cap l := by
  have hn := jX (g := fun r : Nat => Value.int .u8 (r : Int)) h.xc
  subst hn
  exact ⟨rfl, (h.mono (Nat.zero_le _)).own, fun x hx => by rw [vg]; have := hl x hx; omega⟩
theorem fv_of {w : World} {B : Nat} {m : PF} {s1 s2 s3 s4 : Sl} (h : FrO w B (pfr m s1 s2 s3 s4) (pfd m)) : FV w m (pfr m s1 s2 s3 s4) := by
  obtain ⟨h1, h2⟩ := Jj h.tx h.otx
  obtain ⟨ao, n, cap⟩ := s4
  simp only [pfr] at h1
  subst h1
  exact ⟨s1, s2, s3, ao, cap, rfl, NoR.of (by decide) h.tr.xc, NoR.of (by decide) h.ids.xc, NoR.of (by decide) h.val.xc, h2⟩
theorem OB.xb {w : World} {B : Nat} {ao : Option Addr} {cap : Nat} {l : List Nat} (h : OB w 5 .u8 B ao cap l) : XC w 1 ao cap l.length (bL l) := h.ox.xc
theorem FV.frw {w : World} {m : PF} {f : Fr} (h : FV w m f) : FrW w f (pfd m) := by
  obtain ⟨s1, s2, s3, ao, cap, rfl, h1, h2, h3, h4⟩ := h.eq
  exact ⟨h1.xc w 1, h2.xc w 16, h3.xc w 1, h4.xb, (fun _ h => by cases h), (fun _ h => by cases h), h4.nc.lt256⟩
theorem FV.gro {w w' : World} {m : PF} {f : Fr} (h : FV w m f) (G : Gro w w') : FV w' m f := by
  obtain ⟨s1, s2, s3, ao, cap, rfl, h1, h2, h3, h4⟩ := h.eq
  exact ⟨s1, s2, s3, ao, cap, rfl, h1, h2, h3, h4.gro G⟩
def No5 (w : World) (S : List Nat) : Prop := ∀ k ∈ S, ∃ c t', w.heap[k]? = some (.cells c t' (0, 0)) ∧ t' ≠ 5
theorem OB.no5 {w w' : World} {B : Nat} {ao : Option Addr} {cap : Nat} {l : List Nat} {S : List Nat} (h : OB w 5 .u8 B ao cap l) (G : GroS S w w') (hS : No5 w S) : OB w' 5 .u8 B ao cap l :=
  h.gros G fun ad ha hm => by
    obtain ⟨cur, hc⟩ := h.blk5 ha
    obtain ⟨c, t', h1, h2⟩ := hS _ hm
    exact jJ h1 hc h2 rfl
theorem FV.no5 {w w' : World} {m : PF} {f : Fr} {S : List Nat} (h : FV w m f) (G : GroS S w w') (hS : No5 w S) : FV w' m f := by
  obtain ⟨s1, s2, s3, ao, cap, rfl, h1, h2, h3, h4⟩ := h.eq
  exact ⟨s1, s2, s3, ao, cap, rfl, h1, h2, h3, h4.no5 G hS⟩
def cellsF (fs : List (PF × Fr)) : List Value := fs.flatMap fun x => (frA x.2).toList
theorem rF : RowT Try.prog 50 46 95 264 (.agg (c46 0 zF 0 false zF zF 0 0 0 0 0 Sl.nil Sl.nil zF 0 zF Sl.nil 0 0 Sl.nil)) := ⟨Try.underlying50, yA (by kernel_rfl), by kernel_rfl, by decide⟩
theorem zR (f : Fr) : (frA f).toList.length = 95 := by kernel_rfl
theorem Zi (f : Fr) : ∀ v ∈ (frA f).toList, v.oneCell' = true := by
  have h : (frA f).toList.all (·.oneCell') = true := by kernel_rfl
  exact List.all_eq_true.1 h
theorem yK (fs : List (PF × Fr)) : (cellsF fs).length = fs.length * 95 := by
  induction fs with
  | nil => rfl
  | cons x r ih =>
    have : cellsF (x :: r) = (frA x.2).toList ++ cellsF r := rfl
    rw [this, List.length_append, ih, zR, List.length_cons]
    omega
theorem vL (fs : List (PF × Fr)) : ∀ v ∈ cellsF fs, v.oneCell' = true := fun v hv => by
  obtain ⟨x, _, hx⟩ := List.mem_flatMap.1 hv
  exact Zi _ _ hx
theorem vM (a b : List (PF × Fr)) : cellsF (a ++ b) = cellsF a ++ cellsF b := List.flatMap_append
theorem ZJ (fs : List (PF × Fr)) (i : Nat) (x : PF × Fr) (h : fs[i]? = some x) (j : Nat) (v : Value) (hv : (frA x.2).toList[j]? = some v) : (cellsF fs)[i * 95 + j]? = some v := by
  induction fs generalizing i with
  | nil => cases h
  | cons y r ih =>
    have e : cellsF (y :: r) = (frA y.2).toList ++ cellsF r := rfl
    have hj := (List.getElem?_eq_some_iff.1 hv).1
    rw [zR] at hj
    cases i with
    | zero =>
      cases h
      rw [e, List.getElem?_append_left (by rw [zR]; omega), Nat.zero_mul, Nat.zero_add]
      exact hv
    | succ i =>
      rw [e, List.getElem?_append_right (by rw [zR]; omega), zR]
      have := ih i (by simpa using h)
      rw [← this]
      congr 1
      omega
structure LF (w : World) (B : Nat) (ao : Option Addr) (cap : Nat) (fs : List (PF × Fr)) : Prop where
  row : OY w 46 95 B ao cap fs.length (cellsF fs)
  fv : ∀ x ∈ fs, FV w x.1 x.2
theorem LF.gro {w w' : World} {B : Nat} {ao : Option Addr} {cap : Nat} {fs : List (PF × Fr)} (h : LF w B ao cap fs) (G : Gro w w') : LF w' B ao cap fs := ⟨h.row.gro G, fun x hx => (h.fv x hx).gro G⟩
theorem LF.nil (w : World) (B : Nat) : LF w B none 0 [] := ⟨OY.nil _ _ _ _, fun _ h => by cases h⟩
theorem LF.gros {w w' : World} {B : Nat} {ao : Option Addr} {cap : Nat} {fs : List (PF × Fr)} {S : List Nat} (h : LF w B ao cap fs) (G : GroS S w w') (h5 : No5 w S) (hs : ∀ k ∈ blk ao, k ∉ S) : LF w' B ao cap fs := ⟨h.row.gros G hs, fun x hx => (h.fv x hx).no5 G h5⟩
theorem LF.one {w : World} {B g : Nat} {m : PF} {f : Fr} (hg : w.heap[g]? = some (.cells (frA f) 46 (0, 0))) (hB : B ≤ g) (h : FV w m f) : LF w B (some ⟨g, 0, none⟩) 1 [(m, f)] := by
  have e : cellsF [(m, f)] = (frA f).toList := by simp [cellsF]
  refine ⟨⟨yK _, .inr ⟨g, 0, frA f, rfl, hB, hg, Nat.le_refl _, by decide, ?_, ?_⟩, vL _⟩, fun x hx => ?_⟩
  · have := zR f
    simp at this
    omega
  · rw [e, List.drop_zero, List.take_of_length_le]
    rw [zR]
    exact Nat.le_refl _
  · cases List.mem_singleton.1 hx
    exact h
structure EW (w : World) (p wp B : Nat) (id : Nat → Nat) (up op : Bool) (mi mn pi pn : Int) (oth : Nat → Nat) (ro : Option Addr) (rc : Nat) (q : List RV) (k c : Nat) : Prop where
  box : w.heap[p]? = some (.cells (c98 id up op mi mn pi pn oth (some ⟨wp, 0, none⟩)) 98 (0, 0))
  win : WX 121 (c121 ((k + q.length : Nat) : Int) ⟨ro, q.length, rc⟩ ((c : Nat) : Int)) w wp B ro rc q
def PlP (w : World) (m : PF) (e : Ending) (w' : World) : Prop := ∃ (s1 s2 s3 : Sl) (ao : Option Addr) (cap : Nat), e = .returned (.agg (frA (pfr m s1 s2 s3 ⟨ao, m.tx.length, cap⟩))) ∧ FV w' m (pfr m s1 s2 s3 ⟨ao, m.tx.length, cap⟩) ∧ Gro w w'
theorem JJ {w w' : World} {B : Nat} {m : PF} {s1 s2 s3 s4 : Sl} {e : Ending} (he : e = .returned (.agg (frA (pfr m s1 s2 s3 s4)))) (h : FrO w' B (pfr m s1 s2 s3 s4) (pfd m)) (G : Gro w w') : PlP w m e w' := by
  obtain ⟨t1, t2, t3, ao, cap, h1, h2⟩ := (fv_of h).eq
  rw [h1] at he
  exact ⟨t1, t2, t3, ao, cap, he, ⟨t1, t2, t3, ao, cap, rfl, h2⟩, G⟩
theorem plain_h (w : World) (id : Nat → Nat) (mi mn pi pn : Int) : Calls Try.prog 50 #[.iface 110 (.agg (c110 mi mn pi pn id))] w (PlP w ⟨1, id, mi, mn, pi, pn, 0, []⟩) :=
  (ve 1 (by decide) (by decide) (pfr ⟨1, id, mi, mn, pi, pn, 0, []⟩ Sl.nil Sl.nil Sl.nil Sl.nil) ⟨[], [], [], []⟩ w ⟨XC.nil _ _, XC.nil _ _, XC.nil _ _, XC.nil _ _, (fun _ h => by cases h), (fun _ h => by cases h), (fun _ h => by cases h)⟩ ⟨zl _, zl _, zl _, zl _⟩).mono
    fun _ _ ⟨_, _, _, _, he, hO, G⟩ => JJ he hO G
theorem plain_a (w : World) (mi mn pi pn n : Int) : Calls Try.prog 50 #[.iface 129 (.agg (c129 mi mn pi pn n))] w (PlP w ⟨3, zF, mi, mn, pi, pn, n, []⟩) :=
  (ve 3 (by decide) (by decide) (pfr ⟨3, zF, mi, mn, pi, pn, n, []⟩ Sl.nil Sl.nil Sl.nil Sl.nil) ⟨[], [], [], []⟩ w ⟨XC.nil _ _, XC.nil _ _, XC.nil _ _, XC.nil _ _, (fun _ h => by cases h), (fun _ h => by cases h), (fun _ h => by cases h)⟩ ⟨zl _, zl _, zl _, zl _⟩).mono
    fun _ _ ⟨_, _, _, _, he, hO, G⟩ => JJ he hO G
theorem NC.xb {w : World} {ao : Option Addr} {cap : Nat} {l : List Nat} (h : NC w .u8 ao cap l) : XC w 1 ao cap l.length (bL l) := h.xc
theorem plain_d (w : World) (mi mn pi pn n : Int) (ao : Option Addr) (cap : Nat) (l : List Nat) (H : NC w .u8 ao cap l) (hl : l.length ≤ 140737488355000) : Calls Try.prog 50 #[.iface 125 (.agg (c125 mi mn pi pn n ⟨ao, l.length, cap⟩))] w (PlP w ⟨2, zF, mi, mn, pi, pn, n, l⟩) :=
  (ve 2 (by decide) (by decide) (pfr ⟨2, zF, mi, mn, pi, pn, n, l⟩ Sl.nil Sl.nil Sl.nil ⟨ao, l.length, cap⟩) ⟨[], [], [], l⟩ w ⟨XC.nil _ _, XC.nil _ _, XC.nil _ _, H.xb, (fun _ h => by cases h), (fun _ h => by cases h), H.lt256⟩ ⟨zl _, zl _, zl _, ⟨by show l.length * 1 ≤ _; omega⟩⟩).mono
    fun _ _ ⟨_, _, _, _, he, hO, G⟩ => JJ he hO G
end Go.Proofs.Ytlfanecaglbomaa
