/- What a Setup says, what comes of it: pure, and in memory. -/
import Derived.Test.YtkjnefgenffhcaaGA2
import Derived.Test.YtkjnefgenffhcaaGT4
import Derived.Test.YtkjnefgenffhcaaGK1
namespace Go.Proofs.Ytkjnefgenffhcaa
open Go.RowKit Go.Maps
/-- What a plain frame says, as far as it counts here. -/
structure Msg where
  kind : Int
  p : Pa
  a : Nat
  b : Nat
  l : List Int
structure Msg.ok (m : Msg) : Prop where
  p : m.p.ok
  a : m.a < top
  b : m.b < top
def mDrop (p : Pa) : Msg := ⟨5, p, 0, 0, []⟩
def mSet (p : Pa) (a b : Nat) (l : List Int) : Msg := ⟨4, p, a, b, l⟩
/-- What came of it. -/
structure Ed where
  out : Option (Int × Msg)
  mine : Bool
  full : Bool
def ed0 : Ed := ⟨none, false, false⟩
def edNo (p : Pa) (n : Int) (f : Bool) : Ed := ⟨some (n, mDrop p), false, f⟩
def isO (o : List Bool) (n : Int) : Bool := decide (0 ≤ n) && (decide (n < o.length) && o.getD n.toNat false)
def lead (N : Int) (way : List Int) : Bool := decide (2 ≤ way.length) && (decide (way.length ≤ 64) && (decide (way.getD 0 0 = N) && decide way.Nodup))
def xS (ID : Nat) (p : Pa) (b : Nat) (way : List Int) : En := ⟨p, ID, b, -1, way.getD 1 0⟩
/-- A path begins: what comes of it, its number, what the table has then. -/
def stE (room : Nat) (L : List En) (N : Int) (ID : Nat) (p : Pa) (b : Nat) (way : List Int) (o : List Bool) : Ed :=
  if lead N way = true ∧ b ≠ ID then
    if isO o (way.getD 1 0) = true then
      if addC room L (xS ID p b way) = 0 then ⟨some (way.getD 1 0, mSet p ID b way), true, false⟩ else ⟨none, false, decide (addC room L (xS ID p b way) = 5)⟩
    else ed0
  else ed0
def stC (room : Nat) (L : List En) (N : Int) (ID : Nat) (p : Pa) (b : Nat) (way : List Int) (o : List Bool) : Int :=
  if lead N way = true ∧ b ≠ ID then
    if isO o (way.getD 1 0) = true then addC room L (xS ID p b way) else 10
  else 1
def stL (room : Nat) (L : List En) (N : Int) (ID : Nat) (p : Pa) (b : Nat) (way : List Int) (o : List Bool) : List En :=
  if lead N way = true ∧ b ≠ ID then
    if isO o (way.getD 1 0) = true then addL room L (xS ID p b way) else L
  else L
/-- The place of a node on a Setup's trail, if the Setup is for it. -/
def forMe (N from_ : Int) (M : Msg) : Bool := decide (M.kind = 4) && (decide M.l.Nodup && (decide (1 ≤ plc M.l N) && decide (M.l.getD ((plc M.l N).toNat - 1) 0 = from_)))
def nxt (N : Int) (M : Msg) : Int := M.l.getD ((plc M.l N).toNat + 1) 0
def mid (N : Int) (M : Msg) : Bool := decide ((plc M.l N).toNat + 1 < M.l.length)
def xT (from_ : Int) (M : Msg) (nx : Int) : En := ⟨M.p, M.a, M.b, from_, nx⟩
/-- A Setup comes through the middle. -/
def psE (room : Nat) (L : List En) (from_ : Int) (M : Msg) (nx : Int) (o : List Bool) : Ed :=
  if isO o nx = true then
    if addC room L (xT from_ M nx) = 0 then ⟨some (nx, mSet M.p M.a M.b M.l), false, false⟩ else edNo M.p from_ (decide (addC room L (xT from_ M nx) = 5))
  else edNo M.p from_ false
def psL (room : Nat) (L : List En) (from_ : Int) (M : Msg) (nx : Int) (o : List Bool) : List En := if isO o nx = true then addL room L (xT from_ M nx) else L
/-- A Setup comes to its end. -/
def enE (room : Nat) (L : List En) (from_ : Int) (M : Msg) (ID : Nat) : Ed :=
  if M.b = ID then
    if addC room L (xT from_ M (-1)) = 0 then ⟨none, true, false⟩ else edNo M.p from_ (decide (addC room L (xT from_ M (-1)) = 5))
  else edNo M.p from_ false
def enL' (room : Nat) (L : List En) (from_ : Int) (M : Msg) (ID : Nat) : List En := if M.b = ID then addL room L (xT from_ M (-1)) else L
def tkE (room : Nat) (L : List En) (N : Int) (ID : Nat) (from_ : Int) (M : Msg) (o : List Bool) : Ed :=
  if forMe N from_ M = true then if mid N M = true then psE room L from_ M (nxt N M) o else enE room L from_ M ID else ed0
def tkL (room : Nat) (L : List En) (N : Int) (ID : Nat) (from_ : Int) (M : Msg) (o : List Bool) : List En :=
  if forMe N from_ M = true then if mid N M = true then psL room L from_ M (nxt N M) o else enL' room L from_ M ID else L
/-! ### Cells -/
theorem byt_0 : byt 0 = zF := by funext i; simp [byt, zF]
def suA (p : Pa) (a b : Nat) (ao : Option Addr) (n cap : Nat) : Array Value := c88 (byt p.who) p.n (byt a) (byt b) ⟨ao, n, cap⟩
def drA (p : Pa) : Array Value := c126 (byt p.who) p.n
def seA (N : Int) (i : Nat) : Array Value := (Value.int .i64 N :: (idA i).toList).toArray
def edA (ao : Option Addr) (n : Nat) (m f : Bool) : Array Value := #[.slice ao n n, .bool m, .bool f]
/-- A frame that says this much, the rest as it was. -/
def frY (M : Msg) (ao : Option Addr) (cap : Nat) (g : Fr) : Fr := { g with kind := M.kind, pw := byt M.p.who, pn := M.p.n, a := byt M.a, b := byt M.b, tr := ⟨ao, M.l.length, cap⟩ }
def gz (s2 s3 s4 : Sl) : Fr := ⟨0, zF, 0, false, zF, zF, 0, 0, 0, 0, 0, Sl.nil, s2, zF, 0, zF, s3, 0, 0, s4⟩
def gN : Fr := gz Sl.nil Sl.nil Sl.nil
def hopA (n : Int) (f : Fr) : Array Value := (Value.int .i64 n :: (frA f).toList).toArray
def dM (M : Msg) : FD := ⟨M.l, [], [], []⟩
structure FrQ (w : World) (B : Nat) (f : Fr) (d : FD) : Prop where
  tr : OY w 3 1 B f.tr.ao f.tr.cap f.tr.n (d.tr.map (Value.int .i64 ·))
  ids : OX w 24 16 B f.ids.ao f.ids.cap f.ids.n (cellsIa d.ids)
  val : OX w 5 1 B f.val.ao f.val.cap f.val.n (bL d.val)
  tx : OX w 5 1 B f.tx.ao f.tx.cap f.tx.n (bL d.tx)
  oids : ok16 d.ids
  oval : ∀ x ∈ d.val, x < 256
  otx : ∀ x ∈ d.tx, x < 256
theorem FrO.q {w : World} {B : Nat} {f : Fr} {d : FD} (h : FrO w B f d) : FrQ w B f d := ⟨h.tr.oy, h.ids, h.val, h.tx, h.oids, h.oval, h.otx⟩
theorem FrQ.w {w : World} {B : Nat} {f : Fr} {d : FD} (h : FrQ w B f d) : FrW w f d := ⟨h.tr.xc, h.ids.xc, h.val.xc, h.tx.xc, h.oids, h.oval, h.otx⟩
theorem FrQ.gro {w w' : World} {B : Nat} {f : Fr} {d : FD} (h : FrQ w B f d) (G : Gro w w') : FrQ w' B f d := ⟨h.tr.gro G, h.ids.gro G, h.val.gro G, h.tx.gro G, h.oids, h.oval, h.otx⟩
theorem FrQ.mono {w : World} {B B' : Nat} {f : Fr} {d : FD} (h : FrQ w B f d) (hB : B' ≤ B) : FrQ w B' f d := ⟨h.tr.mono hB, h.ids.mono hB, h.val.mono hB, h.tx.mono hB, h.oids, h.oval, h.otx⟩
theorem FrQ.gros {w w' : World} {B : Nat} {f : Fr} {d : FD} {S : List Nat} (h : FrQ w B f d) (G : GroS S w w') (hs : ∀ k ∈ S, k < B) : FrQ w' B f d :=
  ⟨h.tr.gros G (fun k hk hm => by have := h.tr.base k hk; have := hs _ hm; omega), h.ids.gros G (fun ad ha hm => by have := (h.ids.ge ad ha).1; have := hs _ hm; omega), h.val.gros G (fun ad ha hm => by have := (h.val.ge ad ha).1; have := hs _ hm; omega), h.tx.gros G (fun ad ha hm => by have := (h.tx.ge ad ha).1; have := hs _ hm; omega), h.oids, h.oval, h.otx⟩
/-- A write elsewhere: only blocks of other kinds. -/
theorem FrQ.grosT {w w' : World} {B : Nat} {f : Fr} {d : FD} {S : List Nat} (h : FrQ w B f d) (G : GroS S w w') (hs : ∀ k ∈ S, ∀ c t, w.heap[k]? = some (.cells c t (0, 0)) → t ≠ 3 ∧ t ≠ 24 ∧ t ≠ 5) : FrQ w' B f d := by
  refine ⟨h.tr.gros G fun k hk hm => ?_, h.ids.gros G fun ad ha hm => ?_, h.val.gros G fun ad ha hm => ?_, h.tx.gros G fun ad ha hm => ?_, h.oids, h.oval, h.otx⟩
  · obtain ⟨_, c, hc⟩ := h.tr.at k hk; exact (hs _ hm c _ hc).1 rfl
  · obtain ⟨c, hc⟩ := h.ids.ty ha; exact (hs _ hm c _ hc).2.1 rfl
  · obtain ⟨c, hc⟩ := h.val.ty ha; exact (hs _ hm c _ hc).2.2 rfl
  · obtain ⟨c, hc⟩ := h.tx.ty ha; exact (hs _ hm c _ hc).2.2 rfl
/-- What is said to a neighbour, in memory. -/
def OutP (w : World) (B : Nat) (o : Option (Int × Msg)) (ao : Option Addr) (n : Nat) : Prop :=
  match o with
  | none => ao = none ∧ n = 0
  | some (k, M) => ∃ q a2 c2 s2 s3 s4, ao = some ⟨q, 0, none⟩ ∧ n = 1 ∧ w.heap[q]? = some (.cells (hopA k (frY M a2 c2 (gz s2 s3 s4))) 71 (0, 0)) ∧ B ≤ q ∧ FrQ w B (frY M a2 c2 (gz s2 s3 s4)) (dM M)
section
variable {w w' : World} {B : Nat} {o : Option (Int × Msg)} {ao : Option Addr} {n : Nat}
theorem OutP.gro (h : OutP w B o ao n) (G : Gro w w') : OutP w' B o ao n := by
  cases o with
  | none => exact h
  | some x =>
    obtain ⟨q, a2, c2, s2, s3, s4, h1, h2, h3, h4, h5⟩ := h
    exact ⟨q, a2, c2, s2, s3, s4, h1, h2, G.has h3, h4, h5.gro G⟩
theorem OutP.mono (h : OutP w B o ao n) {B' : Nat} (hB : B' ≤ B) : OutP w B' o ao n := by
  cases o with
  | none => exact h
  | some x =>
    obtain ⟨q, a2, c2, s2, s3, s4, h1, h2, h3, h4, h5⟩ := h
    exact ⟨q, a2, c2, s2, s3, s4, h1, h2, h3, Nat.le_trans hB h4, h5.mono hB⟩
theorem OutP.gros {S : List Nat} (h : OutP w B o ao n) (G : GroS S w w') (hs : ∀ k ∈ S, k < B) : OutP w' B o ao n := by
  cases o with
  | none => exact h
  | some x =>
    obtain ⟨q, a2, c2, s2, s3, s4, h1, h2, h3, h4, h5⟩ := h
    exact ⟨q, a2, c2, s2, s3, s4, h1, h2, G.has h3 (fun hm => by have := hs q hm; omega), h4, h5.gros G hs⟩
theorem OutP.grosT {S : List Nat} (h : OutP w B o ao n) (G : GroS S w w') (hs : ∀ k ∈ S, ∀ c t, w.heap[k]? = some (.cells c t (0, 0)) → t ≠ 3 ∧ t ≠ 24 ∧ t ≠ 5 ∧ t ≠ 71) : OutP w' B o ao n := by
  cases o with
  | none => exact h
  | some x =>
    obtain ⟨q, a2, c2, s2, s3, s4, h1, h2, h3, h4, h5⟩ := h
    exact ⟨q, a2, c2, s2, s3, s4, h1, h2, G.has h3 (fun hm => (hs q hm _ _ h3).2.2.2 rfl), h4, h5.grosT G fun k hk c t hc => ⟨(hs k hk c t hc).1, (hs k hk c t hc).2.1, (hs k hk c t hc).2.2.1⟩⟩
theorem OutP.st {g : Nat} {cs cs' : Array Value} {t : TypeId} (h : OutP w B o ao n) (St : Stored w w' g (.cells cs' t (0, 0))) (hk : w.heap[g]? = some (.cells cs t (0, 0))) (ht : t ≠ 3 ∧ t ≠ 24 ∧ t ≠ 5 ∧ t ≠ 71) : OutP w' B o ao n :=
  h.grosT St.gros fun k hm c t' hc => by
    rw [List.mem_singleton] at hm
    subst hm
    rw [hk] at hc
    injection hc with hc
    injection hc with _ hc
    subst hc
    exact ht
theorem OutP.mapw {b : Nat} {L : List En} (h : OutP w B o ao n) (HT : TM w b L) (G : GroS [b] w w') : OutP w' B o ao n :=
  h.grosT G fun k hm c t hc => by
    rw [List.mem_singleton] at hm
    subst hm
    exact absurd rfl (HT.nec hc)
end
theorem FrQ.st {w w' : World} {B g : Nat} {f : Fr} {d : FD} {cs cs' : Array Value} {t : TypeId} (h : FrQ w B f d) (St : Stored w w' g (.cells cs' t (0, 0))) (hk : w.heap[g]? = some (.cells cs t (0, 0))) (ht : t ≠ 3 ∧ t ≠ 24 ∧ t ≠ 5) : FrQ w' B f d :=
  h.grosT St.gros fun k hm c t' hc => by
    rw [List.mem_singleton] at hm
    subst hm
    rw [hk] at hc
    injection hc with hc
    injection hc with _ hc
    subst hc
    exact ht
theorem FrQ.mapw {w w' : World} {B b : Nat} {f : Fr} {d : FD} {L : List En} (h : FrQ w B f d) (HT : TM w b L) (G : GroS [b] w w') : FrQ w' B f d :=
  h.grosT G fun k hm c t hc => by
    rw [List.mem_singleton] at hm
    subst hm
    exact absurd rfl (HT.nec hc)
/-- A call that answers what came of it. -/
def EndP (w : World) (E : Ed) (e : Ending) (w' : World) : Prop := ∃ ao n, e = .returned (.agg (edA ao n E.mine E.full)) ∧ Gro w w' ∧ OutP w' w.heap.size E.out ao n
/-- Rows of bools. -/
def kB : Kd Bool := ⟨fun b => [.bool b], 1, fun _ => True, false, fun _ => rfl, fun _ v hv => by rw [List.mem_singleton.1 hv]; rfl⟩
theorem rB : RowT Try.prog 27 4 1 1 (.bool false) := ⟨Try.underlying27, info_of (by kernel_rfl), rfl, by decide⟩
theorem na39 (w : World) : (isAgg 39).run Try.prog w = .ok false w := by kernel_rfl
section
variable {o : Oper} {A : Act} {w : World} {ao : Option Addr} {cap : Nat}
theorem run_ldKB {l : List Bool} (h : RK kB w ao cap l) (x : Operand) (ho : o.op = .load 4 x) (j : Nat) (hx : A.eval x = .pointer (pK kB ao j 0)) (hj : j < l.length) : (execOp A.eval o).run Try.prog w = .ok (.value (.bool (l.getD j false))) w :=
  run_ldKc h 4 (na4 w) 0 (by decide) x ho j hx hj _ rfl
end
theorem siU : (Try.prog.info? 88).map (·.size) = some 50 := by kernel_rfl
theorem szU (p : Pa) (a b : Nat) (ao : Option Addr) (n cap : Nat) : (suA p a b ao n cap).size = 50 := by kernel_rfl
theorem siU' (p : Pa) (a b : Nat) (ao : Option Addr) (n cap : Nat) : (Try.prog.info? 88).map (·.size) = some (suA p a b ao n cap).size := by rw [szU]; exact siU
theorem oneU (p : Pa) (a b : Nat) (ao : Option Addr) (n cap : Nat) : (suA p a b ao n cap).all (·.oneCell') = true := by kernel_rfl
theorem szS (N : Int) (i : Nat) : (seA N i).size = 17 := by kernel_rfl
theorem siD : (Try.prog.info? 41).map (·.size) = some 3 := by kernel_rfl
theorem szD (ao : Option Addr) (n : Nat) (m f : Bool) : (edA ao n m f).size = 3 := by kernel_rfl
theorem siD' (ao : Option Addr) (n : Nat) (m f : Bool) : (Try.prog.info? 41).map (·.size) = some (edA ao n m f).size := by rw [szD]; exact siD
theorem oneD (ao : Option Addr) (n : Nat) (m f : Bool) : (edA ao n m f).all (·.oneCell') = true := by kernel_rfl
theorem siF : (Try.prog.info? 64).map (·.size) = some 95 := by kernel_rfl
theorem szF (M : Msg) (ao : Option Addr) (cap : Nat) (g : Fr) : (frA (frY M ao cap g)).size = 95 := by kernel_rfl
theorem szH (k : Int) (M : Msg) (ao : Option Addr) (cap : Nat) (g : Fr) : (hopA k (frY M ao cap g)).size = 96 := by kernel_rfl
theorem ldU_p {o : Oper} {A : Act} {w : World} {p : Pa} {a b : Nat} {ao : Option Addr} {n cap : Nat} (y_ : Operand) (ho : o.op = .load 31 y_) (g_ : Nat) (hx : A.eval y_ = .pointer (some ⟨g_, 0, none⟩)) (hg : w.heap[g_]? = some (.cells (suA p a b ao n cap) 88 (0, 0))) : (execOp A.eval o).run Try.prog w = .ok (.value (.agg (paA p))) w :=
  run_lda 31 y_ ho g_ 0 17 hx 88 _ hg _ Try.underlying31 rfl si31 (by rw [szU]; decide) _ (by kernel_rfl)
theorem ldU_a {o : Oper} {A : Act} {w : World} {p : Pa} {a b : Nat} {ao : Option Addr} {n cap : Nat} (y_ : Operand) (ho : o.op = .load 24 y_) (g_ : Nat) (hx : A.eval y_ = .pointer (some ⟨g_, 17, none⟩)) (hg : w.heap[g_]? = some (.cells (suA p a b ao n cap) 88 (0, 0))) : (execOp A.eval o).run Try.prog w = .ok (.value (.agg (idA a))) w :=
  run_lda 24 y_ ho g_ 17 16 hx 88 _ hg _ Try.underlying24 rfl size23 (by rw [szU]; decide) _ (by kernel_rfl)
theorem ldU_b {o : Oper} {A : Act} {w : World} {p : Pa} {a b : Nat} {ao : Option Addr} {n cap : Nat} (y_ : Operand) (ho : o.op = .load 24 y_) (g_ : Nat) (hx : A.eval y_ = .pointer (some ⟨g_, 33, none⟩)) (hg : w.heap[g_]? = some (.cells (suA p a b ao n cap) 88 (0, 0))) : (execOp A.eval o).run Try.prog w = .ok (.value (.agg (idA b))) w :=
  run_lda 24 y_ ho g_ 33 16 hx 88 _ hg _ Try.underlying24 rfl size23 (by rw [szU]; decide) _ (by kernel_rfl)
theorem ldU_t {o : Oper} {A : Act} {w : World} {p : Pa} {a b : Nat} {ao : Option Addr} {n cap : Nat} (y_ : Operand) (ho : o.op = .load 32 y_) (g_ : Nat) (hx : A.eval y_ = .pointer (some ⟨g_, 49, none⟩)) (hg : w.heap[g_]? = some (.cells (suA p a b ao n cap) 88 (0, 0))) : (execOp A.eval o).run Try.prog w = .ok (.value (.slice ao n cap)) w :=
  run_ldc 32 y_ ho g_ 49 hx 88 _ hg (na32 w) _ (by kernel_rfl)
theorem ldU_0 {o : Oper} {A : Act} {w : World} {p : Pa} {a b : Nat} {ao : Option Addr} {n cap : Nat} (y_ : Operand) (ho : o.op = .load 88 y_) (g_ : Nat) (hx : A.eval y_ = .pointer (some ⟨g_, 0, none⟩)) (hg : w.heap[g_]? = some (.cells (suA p a b ao n cap) 88 (0, 0))) : (execOp A.eval o).run Try.prog w = .ok (.value (.agg (suA p a b ao n cap))) w :=
  run_lda 88 y_ ho g_ 0 50 hx 88 _ hg _ Try.underlying88 rfl siU (by rw [szU]; decide) _ (by kernel_rfl)
theorem ldS_n {o : Oper} {A : Act} {w : World} {N : Int} {i : Nat} (y_ : Operand) (ho : o.op = .load 3 y_) (g_ : Nat) (hx : A.eval y_ = .pointer (some ⟨g_, 0, none⟩)) (hg : w.heap[g_]? = some (.cells (seA N i) 26 (0, 0))) : (execOp A.eval o).run Try.prog w = .ok (.value (.int .i64 N)) w :=
  run_ldc 3 y_ ho g_ 0 hx 26 _ hg (na3 w) _ (by kernel_rfl)
theorem ldS_i {o : Oper} {A : Act} {w : World} {N : Int} {i : Nat} (y_ : Operand) (ho : o.op = .load 24 y_) (g_ : Nat) (hx : A.eval y_ = .pointer (some ⟨g_, 1, none⟩)) (hg : w.heap[g_]? = some (.cells (seA N i) 26 (0, 0))) : (execOp A.eval o).run Try.prog w = .ok (.value (.agg (idA i))) w :=
  run_lda 24 y_ ho g_ 1 16 hx 26 _ hg _ Try.underlying24 rfl size23 (by rw [szS]; decide) _ (by kernel_rfl)
theorem ldD_o {o : Oper} {A : Act} {w : World} {ao : Option Addr} {n : Nat} {m f : Bool} (y_ : Operand) (ho : o.op = .load 39 y_) (g_ : Nat) (hx : A.eval y_ = .pointer (some ⟨g_, 0, none⟩)) (hg : w.heap[g_]? = some (.cells (edA ao n m f) 41 (0, 0))) : (execOp A.eval o).run Try.prog w = .ok (.value (.slice ao n n)) w :=
  run_ldc 39 y_ ho g_ 0 hx 41 _ hg (na39 w) _ (by kernel_rfl)
theorem ldD_m {o : Oper} {A : Act} {w : World} {ao : Option Addr} {n : Nat} {m f : Bool} (y_ : Operand) (ho : o.op = .load 4 y_) (g_ : Nat) (hx : A.eval y_ = .pointer (some ⟨g_, 1, none⟩)) (hg : w.heap[g_]? = some (.cells (edA ao n m f) 41 (0, 0))) : (execOp A.eval o).run Try.prog w = .ok (.value (.bool m)) w :=
  run_ldc 4 y_ ho g_ 1 hx 41 _ hg (na4 w) _ (by kernel_rfl)
theorem ldD_0 {o : Oper} {A : Act} {w : World} {ao : Option Addr} {n : Nat} {m f : Bool} (y_ : Operand) (ho : o.op = .load 41 y_) (g_ : Nat) (hx : A.eval y_ = .pointer (some ⟨g_, 0, none⟩)) (hg : w.heap[g_]? = some (.cells (edA ao n m f) 41 (0, 0))) : (execOp A.eval o).run Try.prog w = .ok (.value (.agg (edA ao n m f))) w :=
  run_lda 41 y_ ho g_ 0 3 hx 41 _ hg _ Try.underlying41 rfl siD (by rw [szD]; decide) _ (by kernel_rfl)
theorem ldF_0 {o : Oper} {A : Act} {w : World} {M : Msg} {ao : Option Addr} {cap : Nat} {g : Fr} (y_ : Operand) (ho : o.op = .load 64 y_) (g_ : Nat) (hx : A.eval y_ = .pointer (some ⟨g_, 0, none⟩)) (hg : w.heap[g_]? = some (.cells (frA (frY M ao cap g)) 64 (0, 0))) : (execOp A.eval o).run Try.prog w = .ok (.value (.agg (frA (frY M ao cap g)))) w :=
  run_lda 64 y_ ho g_ 0 95 hx 64 _ hg _ Try.underlying64 rfl siF (by rw [szF]; decide) _ (by kernel_rfl)
theorem ldH_n {o : Oper} {A : Act} {w : World} {k : Int} {M : Msg} {ao : Option Addr} {cap : Nat} {g : Fr} (y_ : Operand) (ho : o.op = .load 3 y_) (g_ : Nat) (hx : A.eval y_ = .pointer (some ⟨g_, 0, none⟩)) (hg : w.heap[g_]? = some (.cells (hopA k (frY M ao cap g)) 71 (0, 0))) : (execOp A.eval o).run Try.prog w = .ok (.value (.int .i64 k)) w :=
  run_ldc 3 y_ ho g_ 0 hx 71 _ hg (na3 w) _ (by kernel_rfl)
theorem ldH_f {o : Oper} {A : Act} {w : World} {k : Int} {M : Msg} {ao : Option Addr} {cap : Nat} {g : Fr} (y_ : Operand) (ho : o.op = .load 64 y_) (g_ : Nat) (hx : A.eval y_ = .pointer (some ⟨g_, 1, none⟩)) (hg : w.heap[g_]? = some (.cells (hopA k (frY M ao cap g)) 71 (0, 0))) : (execOp A.eval o).run Try.prog w = .ok (.value (.agg (frA (frY M ao cap g)))) w :=
  run_lda 64 y_ ho g_ 1 95 hx 71 _ hg _ Try.underlying64 rfl siF (by rw [szH]; decide) _ (by kernel_rfl)
theorem ldH_k {o : Oper} {A : Act} {w : World} {k : Int} {M : Msg} {ao : Option Addr} {cap : Nat} {g : Fr} (y_ : Operand) (ho : o.op = .load 3 y_) (g_ : Nat) (hx : A.eval y_ = .pointer (some ⟨g_, 1, none⟩)) (hg : w.heap[g_]? = some (.cells (hopA k (frY M ao cap g)) 71 (0, 0))) : (execOp A.eval o).run Try.prog w = .ok (.value (.int .i64 M.kind)) w :=
  run_ldc 3 y_ ho g_ 1 hx 71 _ hg (na3 w) _ (by kernel_rfl)
theorem zvU (w : World) : (zeroValue 88).run Try.prog w = .ok (.agg (suA zP 0 0 none 0 0)) w := by rw [Try.zeroValue88]; kernel_rfl
theorem zvD (w : World) : (zeroValue 41).run Try.prog w = .ok (.agg (edA none 0 false false)) w := by kernel_rfl
def m0 : Msg := ⟨0, zP, 0, 0, []⟩
/-! ### Builds -/
theorem bdE5 (p : Pa) (a b : Nat) (na nb : Int) (w : World) : (Instr.build 73 #[(0, .agg (paA p)), (1, .agg (idA a)), (2, .agg (idA b)), (3, .int .i64 na), (4, .int .i64 nb)]).run Try.prog w = .ok (.agg (enA ⟨p, a, b, na, nb⟩)) w := by kernel_rfl
theorem bdU4 (p : Pa) (a b : Nat) (ao : Option Addr) (n cap : Nat) (w : World) : (Instr.build 88 #[(0, .agg (paA p)), (1, .agg (idA a)), (2, .agg (idA b)), (3, .slice ao n cap)]).run Try.prog w = .ok (.agg (suA p a b ao n cap)) w := by kernel_rfl
theorem bdR1 (p : Pa) (w : World) : (Instr.build 126 #[(0, .agg (paA p))]).run Try.prog w = .ok (.agg (drA p)) w := by kernel_rfl
theorem bdH2 (n : Int) (f : Fr) (w : World) : (Instr.build 71 #[(0, .int .i64 n), (1, .agg (frA f))]).run Try.prog w = .ok (.agg (hopA n f)) w := by kernel_rfl
theorem bdS2 (n : Int) (i : Nat) (w : World) : (Instr.build 26 #[(0, .int .i64 n), (1, .agg (idA i))]).run Try.prog w = .ok (.agg (seA n i)) w := by kernel_rfl
theorem bdP1 (n : Int) (w : World) : (Instr.build 31 #[(1, .int .i64 n)]).run Try.prog w = .ok (.agg (paA ⟨0, n⟩)) w := by kernel_rfl
def i1 (x : Nat) : Nat := x * 1329227995784915872903807060280344576
def i2 (x y : Nat) : Nat := x * 1329227995784915872903807060280344576 + y * 5192296858534827628530496329220096
theorem bdD_ (w : World) : (Instr.build 41 #[]).run Try.prog w = .ok (.agg (edA none 0 false false)) w := by kernel_rfl
theorem bdD2 (f : Bool) (w : World) : (Instr.build 41 #[(2, .bool f)]).run Try.prog w = .ok (.agg (edA none 0 false f)) w := by kernel_rfl
theorem bdD1 (m : Bool) (w : World) : (Instr.build 41 #[(1, .bool m)]).run Try.prog w = .ok (.agg (edA none 0 m false)) w := by kernel_rfl
theorem bdD0 (ao : Option Addr) (n : Nat) (w : World) : (Instr.build 41 #[(0, .slice ao n n)]).run Try.prog w = .ok (.agg (edA ao n false false)) w := by kernel_rfl
theorem bdD01 (ao : Option Addr) (n : Nat) (m : Bool) (w : World) : (Instr.build 41 #[(0, .slice ao n n), (1, .bool m)]).run Try.prog w = .ok (.agg (edA ao n m false)) w := by kernel_rfl
theorem bsH (n : Int) (f : Fr) (w : World) : (Instr.buildSlice 39 1 #[(0, .agg (hopA n f))]).run Try.prog w = .ok (.slice (some ⟨w.heap.size, 0, none⟩) 1 1) (w.alloc (.cells (hopA n f) 71)) := by kernel_rfl
theorem spD_f (ao : Option Addr) (n : Nat) (m f f2 : Bool) : splice (edA ao n m f) 2 #[.bool f2] = edA ao n m f2 := by kernel_rfl
theorem spE_na (x : En) (n : Int) : splice (enA x) 49 #[.int .i64 n] = enA { x with na := n } := by kernel_rfl
theorem spE_nb (x : En) (n : Int) : splice (enA x) 50 #[.int .i64 n] = enA { x with nb := n } := by kernel_rfl
theorem b_one (b : Bool) : (#[Value.bool b]).all (·.oneCell') = true := by kernel_rfl
theorem si32 : (Try.prog.info? 32).map (·.size) = some 1 := by kernel_rfl
theorem ta_yes (p : Pa) (a b : Nat) (ao : Option Addr) (n cap : Nat) (w : World) : (Instr.typeAssert (.iface 88 (.agg (suA p a b ao n cap))) 102 88 true).run Try.prog w = .ok (.tuple #[.agg (suA p a b ao n cap), .bool true]) w := by kernel_rfl
theorem ta_nil (w : World) : (Instr.typeAssert .nilIface 102 88 true).run Try.prog w = .ok (.tuple #[.agg (suA zP 0 0 none 0 0), .bool false]) w := by kernel_rfl
theorem ta_no (k : Nat) (f : Fr) (h1 : 1 ≤ k) (h2 : k ≤ 12) (h4 : k ≠ 4) (w : World) : (Instr.typeAssert (bodyV k f) 102 88 true).run Try.prog w = .ok (.tuple #[.agg (suA zP 0 0 none 0 0), .bool false]) w := by
  rcases is12 h1 h2 with rfl | rfl | rfl | rfl | rfl | rfl | rfl | rfl | rfl | rfl | rfl | rfl <;> first | (exact absurd rfl h4) | kernel_rfl
/-! ### Rows of ints -/
section
variable {w w' : World} {ao : Option Addr} {cap B b g : Nat} {l : List Int} {L : List En}
theorem RC.lt (h : RC w ao cap l) : ∀ ad, ao = some ad → 0 < (ci l).length → ad.block < w.heap.size := h.xc.lt
theorem RC.ne (h : RC w ao cap l) (e : w.heap.size = g) : NE ao (ci l).length g := fun ad ha h0 => by
  have := h.lt ad ha h0
  omega
theorem RC.neG (h : RC w ao cap l) (c : w.heap.size ≤ g) : NE ao (ci l).length g := fun ad ha h0 => by
  have := h.lt ad ha h0
  omega
theorem RK.neG {α : Type} {K : Kd α} {l : List α} (h : RK K w ao cap l) (c : w.heap.size ≤ g) : NE ao (l.flatMap K.E).length g := fun ad ha h0 => by
  have := h.lt ad ha h0
  omega
theorem RE.neG {l : List En} (h : RE w ao cap l) (c : w.heap.size ≤ g) : NE ao (flE l).length g := fun ad ha h0 => by
  have := h.lt ad ha h0
  omega
theorem OE.neG {l : List En} (h : OE w B ao cap l) (c : w.heap.size ≤ g) : g ∉ Go.Proofs.Ytkjnefgenffhcaa.blk ao := fun hm => by
  have := h.own.lt g hm
  omega
theorem TM.neG (h : TM w b L) (c : w.heap.size ≤ g) : b ≠ g := by have := h.lt; omega
theorem RC.st {x : Obj} (h : RC w ao cap l) (St : Stored w w' g x) (hn : NE ao (ci l).length g) : RC w' ao cap l := ⟨XC.st h.xc St hn, h.all⟩
theorem RC.gros {S : List Nat} (h : RC w ao cap l) (G : GroS S w w') (hs : ∀ ad, ao = some ad → 0 < (ci l).length → ad.block ∉ S) : RC w' ao cap l :=
  ⟨⟨h.xc.len, h.xc.fit, h.xc.bare, fun ad ha j v hv => by
    have h0 : 0 < (ci l).length := by have := (List.getElem?_eq_some_iff.1 hv).1; omega
    exact (World.cell?_of_block (by rw [add_block]; exact G.old _ (h.lt ad ha h0) (hs ad ha h0))).trans (h.xc.cell ad ha j v hv), h.xc.one⟩, h.all⟩
theorem RC.mapw (h : RC w ao cap l) (HT : TM w b L) (G : GroS [b] w w') : RC w' ao cap l := h.gros G fun ad ha h0 => by
  have := h.xc.cell ad ha 0 (ci l)[0] (List.getElem?_eq_getElem h0)
  have h1 := HT.cell this
  rw [add_block] at h1
  simpa using h1
theorem TM.mapw {b2 : Nat} {L2 : List En} (h : TM w b L) (_HT : TM w b2 L2) (G : GroS [b2] w w') (hn : b ≠ b2) : TM w' b L := h.gros G (by simpa using hn)
theorem ne_cells {a b : Nat} {A B : Array Value} {t1 t2 : TypeId} (h1 : w.heap[a]? = some (.cells A t1 (0, 0))) (h2 : w.heap[b]? = some (.cells B t2 (0, 0))) (ht : t1 ≠ t2) : a ∉ [b] := fun hm => by
  rw [List.mem_singleton] at hm
  rw [hm, h2] at h1
  injection h1 with h1
  injection h1 with _ h1
  exact ht h1.symm
theorem OI.ne (h : OI w B ao cap l) (e : w.heap.size = g) : ∀ ad, ao = some ad → ad.block ≠ g := fun ad ha => by
  have := (h.own.ge ad ha).2
  omega
theorem OI.neG (h : OI w B ao cap l) (c : w.heap.size ≤ g) : ∀ ad, ao = some ad → ad.block ≠ g := fun ad ha => by
  have := (h.own.ge ad ha).2
  omega
theorem OI.neL (h : OI w B ao cap l) (hg : g < B) : ∀ ad, ao = some ad → ad.block ≠ g := fun ad ha => by
  have := (h.own.ge ad ha).1
  omega
theorem ne_blk {q n : Nat} (h : g < q) : NE (some ⟨q, 0, none⟩) n g := fun ad ha _ => by
  cases ha
  exact Nat.ne_of_gt h
theorem OI.st {x : Obj} (h : OI w B ao cap l) (St : Stored w w' g x) (hn : ∀ ad, ao = some ad → ad.block ≠ g) : OI w' B ao cap l := ⟨h.own.apart St hn, h.all⟩
theorem OI.gros {S : List Nat} (h : OI w B ao cap l) (G : GroS S w w') (hs : ∀ ad, ao = some ad → ad.block ∉ S) : OI w' B ao cap l := ⟨h.own.gros G hs, h.all⟩
theorem OI.mapw (h : OI w B ao cap l) (HT : TM w b L) (G : GroS [b] w w') : OI w' B ao cap l := h.gros G fun ad ha => by
  obtain ⟨c, hc⟩ := h.own.ty ha
  simpa using HT.nec hc
theorem RC.frw {M : Msg} (h : RC w ao cap M.l) : FrW w (frY M ao cap gN) (dM M) := ⟨h.xc, XC.nil w 16, XC.nil w 1, XC.nil w 1, fun _ h => (by cases h), fun _ h => (by cases h), fun _ h => (by cases h)⟩
theorem frs_of {M : Msg} (hl : M.l.length ≤ 17592186044416) : FrS (frY M ao cap gN) := ⟨⟨by show M.l.length * 8 ≤ _; omega⟩, small_nil _, small_nil _, small_nil _⟩
variable {o : Oper} {A : Act}
theorem rH : RowT Try.prog 39 71 96 272 (.agg (hopA 0 (frY m0 none 0 gN))) := ⟨Try.underlying39, info_of (by kernel_rfl), by kernel_rfl, by decide⟩
theorem run_ixH (q : Nat) (x y : Operand) (ho : o.op = .indexAddr 39 x y) (hx : A.eval x = .slice (some ⟨q, 0, none⟩) 1 1) (hy : A.eval y = .int .i64 0) :
    (execOp A.eval o).run Try.prog w = .ok (.value (.pointer (some ⟨q, 0, none⟩))) w := by
  exact run_idxX rH x y ho ⟨q, 0, none⟩ 1 1 0 hx hy (by omega) w
end
end Go.Proofs.Ytkjnefgenffhcaa
