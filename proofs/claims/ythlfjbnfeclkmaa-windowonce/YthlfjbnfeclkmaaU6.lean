/- Whatever comes of what one end said: once and in order (WindowOnce). -/
import Derived.Test.YthlfjbnfeclkmaaU3
import Derived.Test.YthlfjbnfeclkmaaFrW
namespace Go.Proofs.Ythlfjbnfeclkmaa
open Go.RowKit
def c49 (x0 : Int) (x1 : Int) : Array Value := #[.int .i64 x0, .int .i64 x1]
theorem cz49 (x0 : Int) (x1 : Int) : (c49 x0 x1).size = 2 := by kernel_rfl
theorem co49 (x0 : Int) (x1 : Int) : (c49 x0 x1).all (·.oneCell') = true := by kernel_rfl
theorem si49 : (Try.prog.info? 49).map (·.size) = some 2 := by kernel_rfl
theorem sc49 (x0 : Int) (x1 : Int) : (Try.prog.info? 49).map (·.size) = some (c49 x0 x1).size := by kernel_rfl
theorem zv49 (w : World) : (zeroValue 49).run Try.prog w = .ok (.agg (c49 0 0)) w := by kernel_rfl
def c51 (x0 : Int) (x1 : Value) : Array Value := #[.int .i64 x0, x1]
theorem cz51 (x0 : Int) (x1 : Value) : (c51 x0 x1).size = 2 := by kernel_rfl
theorem si51 : (Try.prog.info? 51).map (·.size) = some 2 := by kernel_rfl
theorem sc51 (x0 : Int) (x1 : Value) : (Try.prog.info? 51).map (·.size) = some (c51 x0 x1).size := by kernel_rfl
theorem zv51 (w : World) : (zeroValue 51).run Try.prog w = .ok (.agg (c51 0 (.string ByteArray.empty))) w := by kernel_rfl
theorem si9 : (Try.prog.info? 9).map (·.size) = some 1 := by kernel_rfl
theorem na9 (w : World) : (isAgg 9).run Try.prog w = .ok false w := by kernel_rfl

theorem conv345n {o : Oper} {A : Act} (x : Operand) (ho : o.op = .convert 3 52 x) (n : Nat) (hn : n < 9223372036854775808) (hx : A.eval x = .int .i64 (n : Int)) (w : World) : (execOp A.eval o).run Try.prog w = .ok (.value (.int .u64 (n : Int))) w := by
  rw [conv345 x ho n hx w, uN_nat n hn]
/-- A text with its number. -/
def sdp (n : Nat) (l : List Nat) : Nat × List Nat := (n, l)
def sdV (x : Nat × List Nat) : List Value := [.int .i64 ((x.1 : Nat) : Int), .string (bas x.2)]
def stV (l : List Nat) : Value := .string (bas l)
def inV (n : Nat) : Value := .int .i64 ((n : Nat) : Int)
theorem sdT : RowT Try.prog 45 51 2 24 (.agg (c51 0 (.string ByteArray.empty))) := ⟨Try.underlying45, info_of (by kernel_rfl), rfl, by decide⟩
theorem stT : RowT Try.prog 47 9 1 16 (.string ByteArray.empty) := ⟨Try.underlying47, info_of (by kernel_rfl), rfl, by decide⟩
theorem wyT : RowT Try.prog 44 49 2 16 (.agg (c49 0 0)) := ⟨Try.underlying44, info_of (by kernel_rfl), rfl, by decide⟩
theorem flat_at {α : Type} (f : α → List Value) (n : Nat) (hf : ∀ x, (f x).length = n) : ∀ (l : List α) (j : Nat) (o : α), l[j]? = some o → ((l.flatMap f).drop (j * n)).take n = f o
  | x :: os, 0, o, h => by
    simp at h
    subst h
    rw [Nat.zero_mul, List.drop_zero, List.flatMap_cons, List.take_left' (hf x)]
  | x :: os, j + 1, o, h => by
    simp only [List.getElem?_cons_succ] at h
    have := flat_at f n hf os j o h
    rw [List.flatMap_cons, Nat.add_mul, Nat.one_mul, Nat.add_comm, ← List.drop_drop, List.drop_left' (hf x)]
    exact this
  | [], _, _, h => by simp at h
theorem ld_said {w : World} {o : Oper} {A : Act} (x : Operand) (ho : o.op = .load 51 x) (ad : Addr) (j : Nat) (hx : A.eval x = .pointer (some (ad.add (j * 2)))) {cap : Nat} {l : List (Nat × List Nat)} (h : XC w 2 (some ad) cap l.length (l.flatMap sdV)) (q : Nat × List Nat) (hq : l[j]? = some q) :
    (execOp A.eval o).run Try.prog w = .ok (.value (.agg (c51 ((q.1 : Nat) : Int) (.string (bas q.2))))) w := by
  have hj : j < l.length := (List.getElem?_eq_some_iff.1 hq).1
  rw [run_ldX sdT _ Try.underlying51 rfl x ho ad j hx w h hj, flat_at sdV 2 (fun _ => rfl) l j q hq]
  rfl
theorem ld_way {w : World} {o : Oper} {A : Act} (x : Operand) (ho : o.op = .load 49 x) (ad : Addr) (j : Nat) (hx : A.eval x = .pointer (some (ad.add (j * 2)))) {cap : Nat} {l : List (Int × Int)} (h : XC w 2 (some ad) cap l.length (l.flatMap wayV)) (q : Int × Int) (hq : l[j]? = some q) :
    (execOp A.eval o).run Try.prog w = .ok (.value (.agg (c49 q.1 q.2))) w := by
  have hj : j < l.length := (List.getElem?_eq_some_iff.1 hq).1
  rw [run_ldX wyT _ Try.underlying49 rfl x ho ad j hx w h hj, flat_at wayV 2 (fun _ => rfl) l j q hq]
  rfl
theorem run_idx47 {o : Oper} {A : Act} (x y : Operand) (ho : o.op = .indexAddr 47 x y) (ad : Addr) (n cap j : Nat) (hx : A.eval x = .slice (some ad) n cap) (hy : A.eval y = .int .i64 (j : Int)) (hj : j < n) (w : World) :
    (execOp A.eval o).run Try.prog w = .ok (.value (.pointer (some (ad.add j)))) w := by
  rw [run_idxX stT x y ho ad n cap j hx hy hj w, Nat.mul_one]
theorem run_ld9 {o : Oper} {A : Act} {w : World} (x : Operand) (ho : o.op = .load 9 x) (ad : Addr) (hx : A.eval x = .pointer (some ad)) (v : Value) (h : w.cell? ad = some v) : (execOp A.eval o).run Try.prog w = .ok (.value v) w := by
  unfold execOp
  simp only [ho, hx]
  simp [go_sem, h]
theorem xc_two {w : World} {g : Nat} {u v : Value} {t : TypeId} (hg : w.heap[g]? = some (.cells #[u, v] t (0, 0))) (h1 : u.oneCell' = true) (h2 : v.oneCell' = true) : XC w 2 (some ⟨g, 0, none⟩) 1 1 [u, v] := by
  refine ⟨rfl, Nat.le_refl _, fun h => by (cases h), fun ad ha j x hx => ?_, fun x hx => ?_⟩
  · cases ha
    rw [add_at, Nat.zero_add, cell_of_row w g _ _ t _ hg]
    simpa using hx
  · rcases List.mem_cons.1 hx with rfl | hx
    · exact h1
    · cases List.mem_singleton.1 hx
      exact h2
theorem oy_one {w : World} {g B : Nat} {v : Value} {t : TypeId} (hg : w.heap[g]? = some (.cells #[v] t (0, 0))) (hB : B ≤ g) (h1 : v.oneCell' = true) : OY w t 1 B (some ⟨g, 0, none⟩) 1 1 [v] :=
  ⟨rfl, .inr ⟨g, 0, #[v], rfl, hB, hg, Nat.le_refl _, by simp only [maxLen]; omega, Nat.le_refl _, rfl⟩, fun x hx => by cases List.mem_singleton.1 hx; exact h1⟩
theorem OY.elem {w : World} {e : TypeId} {B : Nat} {ao : Option Addr} {cap n : Nat} {cs : List Value} (h : OY w e 1 B ao cap n cs) {j : Nat} {v : Value} (hv : cs[j]? = some v) : ∃ ad, ao = some ad ∧ w.cell? (ad.add j) = some v := by
  have hj := (List.getElem?_eq_some_iff.1 hv).1
  have hl := h.len
  obtain ⟨ad, ha⟩ := h.xc.some (by omega)
  exact ⟨ad, ha, h.xc.cell ad ha j v hv⟩
/-- Blocks of known types. -/
def TS (w : World) (S : List Nat) (P : TypeId → Prop) : Prop := ∀ k ∈ S, ∃ c t, w.heap[k]? = some (.cells c t (0, 0)) ∧ P t
section
variable {w w' : World} {e t : TypeId} {sz B p : Nat} {ao : Option Addr} {cap n : Nat} {cs : List Value} {cc : Array Value} {q : List RV} {S : List Nat} {P : TypeId → Prop}
theorem OY.ts (h : OY w e sz B ao cap n cs) : TS w (blk ao) (· = e) := fun k hk => by
  obtain ⟨_, cur, hc⟩ := h.at k hk
  exact ⟨cur, e, hc, rfl⟩
theorem WX.ts (H : WX t cc w p B ao cap q) : TS w (p :: blk ao) (fun x => x = t ∨ x = 30) := fun k hk => by
  rcases List.mem_cons.1 hk with rfl | hk
  · exact ⟨_, _, H.box, .inl rfl⟩
  · obtain ⟨c, t', h1, h2⟩ := H.row.ts k hk
    exact ⟨c, t', h1, .inr h2⟩
theorem WX.ts1 (H : WX t cc w p B ao cap q) : TS w [p] (· = t) := fun k hk => by
  cases List.mem_singleton.1 hk
  exact ⟨_, _, H.box, rfl⟩
theorem OY.keep (h : OY w e sz B ao cap n cs) (G : GroS S w w') (hS : TS w S P) (hP : ∀ x, P x → x ≠ e) : OY w' e sz B ao cap n cs :=
  h.gros G fun k hk hm => by
    obtain ⟨_, cur, hc⟩ := h.at k hk
    obtain ⟨c, t', h1, h2⟩ := hS k hm
    exact ne_type h1 hc (hP _ h2) rfl
theorem WX.keep (H : WX t cc w p B ao cap q) (G : GroS S w w') (hp : p ∉ S) (hS : TS w S P) (hP : ∀ x, P x → x ≠ 30 ∧ x ≠ 5) : WX t cc w' p B ao cap q :=
  H.gros G hp (fun k hk hm => by
    obtain ⟨_, cur, hc⟩ := H.row.at k hk
    obtain ⟨c, t', h1, h2⟩ := hS k hm
    exact ne_type h1 hc (hP _ h2).1 rfl) (H.f5 fun k hk => by
    obtain ⟨c, t', h1, h2⟩ := hS k hk
    exact ⟨c, t', h1, (hP _ h2).2⟩)
theorem WX.nots (H : WX t cc w p B ao cap q) (hS : TS w S P) (hP : ∀ x, P x → x ≠ t) : p ∉ S := fun hm => by
  obtain ⟨c, t', h1, h2⟩ := hS p hm
  exact ne_type h1 H.box (hP _ h2) rfl
theorem AL.keep {M g : Nat} {r : List (Nat × List Nat)} (h : AL w M g r) (G : GroS S w w') (hS : TS w S P) (hP : ∀ x, P x → x ≠ 30 ∧ x ≠ 5) : AL w' M g r :=
  ⟨h.base, G.has h.row (fun hm => by obtain ⟨c, t', h1, h2⟩ := hS _ hm; exact ne_type h1 h.row (hP _ h2).1 rfl), fun x hx => ⟨(h.fr x hx).1, G.has (h.fr x hx).2.1 (fun hm => by obtain ⟨c, t', h1, h2⟩ := hS _ hm; exact ne_type h1 (h.fr x hx).2.1 (hP _ h2).2 rfl), (h.fr x hx).2.2⟩⟩
end
/-- Two ends and what was said between them, in memory. -/
structure SM (w : World) (B pa pb : Nat) (ro : Option Addr) (rc : Nat) (q : List RV) (k c : Nat) (xo : Option Addr) (xc : Nat) (al : List (Nat × List Nat)) (ko : Option Addr) (kc : Nat) (ac : List Nat) (so : Option Addr) (sc : Nat) (se : List (List Nat)) (go : Option Addr) (gc : Nat) (gt : List (List Nat)) : Prop where
  a : WX 57 (c57 ((k + q.length : Nat) : Int) ⟨ro, q.length, rc⟩ ((0 : Nat) : Int)) w pa B ro rc q
  b : WX 57 (c57 ((0 + ([] : List RV).length : Nat) : Int) ⟨none, ([] : List RV).length, 0⟩ ((c : Nat) : Int)) w pb B none 0 []
  ne : pa ≠ pb
  al : OY w 51 2 B xo xc al.length (al.flatMap sdV)
  ac : OY w 2 1 B ko kc ac.length (ac.map inV)
  se : OY w 9 1 B so sc se.length (se.map stV)
  gt : OY w 9 1 B go gc gt.length (gt.map stV)
  dis : ∀ x ∈ blk so, x ∉ blk go
section
variable {w w' : World} {B pa pb : Nat} {ro ro2 : Option Addr} {rc rc2 : Nat} {q q2 : List RV} {k k2 c c2 : Nat} {xo xo2 : Option Addr} {xc xc2 : Nat} {al al2 : List (Nat × List Nat)} {ko ko2 : Option Addr} {kc kc2 : Nat} {ac ac2 : List Nat} {so so2 : Option Addr} {sc sc2 : Nat} {se se2 : List (List Nat)} {go go2 : Option Addr} {gc gc2 : Nat} {gt gt2 : List (List Nat)}
theorem SM.gro (H : SM w B pa pb ro rc q k c xo xc al ko kc ac so sc se go gc gt) (G : Gro w w') : SM w' B pa pb ro rc q k c xo xc al ko kc ac so sc se go gc gt := ⟨H.a.gro G, H.b.gro G, H.ne, H.al.gro G, H.ac.gro G, H.se.gro G, H.gt.gro G, H.dis⟩
theorem SM.send (H : SM w B pa pb ro rc q k c xo xc al ko kc ac so sc se go gc gt) (G : GroS (pa :: blk ro) w w') (HA : WX 57 (c57 ((k2 + q2.length : Nat) : Int) ⟨ro2, q2.length, rc2⟩ ((0 : Nat) : Int)) w' pa B ro2 rc2 q2) : SM w' B pa pb ro2 rc2 q2 k2 c xo xc al ko kc ac so sc se go gc gt :=
  ⟨HA, H.b.gros G (fun hm => by
    rcases List.mem_cons.1 hm with h | h
    · exact H.ne h.symm
    · exact H.a.row.ne H.b.box (by decide) h) (fun k hk => by simp [blk] at hk) (fun x hx => by cases hx), H.ne,
   H.al.keep G H.a.ts (by rintro x (rfl | rfl) <;> decide), H.ac.keep G H.a.ts (by rintro x (rfl | rfl) <;> decide), H.se.keep G H.a.ts (by rintro x (rfl | rfl) <;> decide), H.gt.keep G H.a.ts (by rintro x (rfl | rfl) <;> decide), H.dis⟩
theorem SM.came (H : SM w B pa pb ro rc q k c xo xc al ko kc ac so sc se go gc gt) (G : GroS [pb] w w') (HB : WX 57 (c57 ((0 + ([] : List RV).length : Nat) : Int) ⟨none, ([] : List RV).length, 0⟩ ((c2 : Nat) : Int)) w' pb B none 0 []) : SM w' B pa pb ro rc q k c2 xo xc al ko kc ac so sc se go gc gt :=
  ⟨H.a.keep G (fun hm => H.ne (List.mem_singleton.1 hm)) H.b.ts1 (by rintro x rfl; decide), HB, H.ne,
   H.al.keep G H.b.ts1 (by rintro x rfl; decide), H.ac.keep G H.b.ts1 (by rintro x rfl; decide), H.se.keep G H.b.ts1 (by rintro x rfl; decide), H.gt.keep G H.b.ts1 (by rintro x rfl; decide), H.dis⟩
theorem SM.sal (H : SM w B pa pb ro rc q k c xo xc al ko kc ac so sc se go gc gt) (G : GroS (blk xo) w w') (h : OY w' 51 2 B xo2 xc2 al2.length (al2.flatMap sdV)) : SM w' B pa pb ro rc q k c xo2 xc2 al2 ko kc ac so sc se go gc gt :=
  ⟨H.a.keep G (H.a.nots H.al.ts (by rintro x rfl; decide)) H.al.ts (by rintro x rfl; decide), H.b.keep G (H.b.nots H.al.ts (by rintro x rfl; decide)) H.al.ts (by rintro x rfl; decide), H.ne, h,
   H.ac.keep G H.al.ts (by rintro x rfl; decide), H.se.keep G H.al.ts (by rintro x rfl; decide), H.gt.keep G H.al.ts (by rintro x rfl; decide), H.dis⟩
theorem SM.sac (H : SM w B pa pb ro rc q k c xo xc al ko kc ac so sc se go gc gt) (G : GroS (blk ko) w w') (h : OY w' 2 1 B ko2 kc2 ac2.length (ac2.map inV)) : SM w' B pa pb ro rc q k c xo xc al ko2 kc2 ac2 so sc se go gc gt :=
  ⟨H.a.keep G (H.a.nots H.ac.ts (by rintro x rfl; decide)) H.ac.ts (by rintro x rfl; decide), H.b.keep G (H.b.nots H.ac.ts (by rintro x rfl; decide)) H.ac.ts (by rintro x rfl; decide), H.ne,
   H.al.keep G H.ac.ts (by rintro x rfl; decide), h, H.se.keep G H.ac.ts (by rintro x rfl; decide), H.gt.keep G H.ac.ts (by rintro x rfl; decide), H.dis⟩
theorem SM.sse (H : SM w B pa pb ro rc q k c xo xc al ko kc ac so sc se go gc gt) (G : GroS (blk so) w w') (h : OY w' 9 1 B so2 sc2 se2.length (se2.map stV)) (hk : Kept w.heap.size so so2) : SM w' B pa pb ro rc q k c xo xc al ko kc ac so2 sc2 se2 go gc gt :=
  ⟨H.a.keep G (H.a.nots H.se.ts (by rintro x rfl; decide)) H.se.ts (by rintro x rfl; decide), H.b.keep G (H.b.nots H.se.ts (by rintro x rfl; decide)) H.se.ts (by rintro x rfl; decide), H.ne,
   H.al.keep G H.se.ts (by rintro x rfl; decide), H.ac.keep G H.se.ts (by rintro x rfl; decide), h, H.gt.gros G (fun k hk hm => H.dis k hm hk), fun x hx hm => by
    rcases hk x hx with h1 | h1
    · exact H.dis x h1 hm
    · have := H.gt.lt x hm
      omega⟩
theorem SM.sgt (H : SM w B pa pb ro rc q k c xo xc al ko kc ac so sc se go gc gt) (G : GroS (blk go) w w') (h : OY w' 9 1 B go2 gc2 gt2.length (gt2.map stV)) (hk : Kept w.heap.size go go2) : SM w' B pa pb ro rc q k c xo xc al ko kc ac so sc se go2 gc2 gt2 :=
  ⟨H.a.keep G (H.a.nots H.gt.ts (by rintro x rfl; decide)) H.gt.ts (by rintro x rfl; decide), H.b.keep G (H.b.nots H.gt.ts (by rintro x rfl; decide)) H.gt.ts (by rintro x rfl; decide), H.ne,
   H.al.keep G H.gt.ts (by rintro x rfl; decide), H.ac.keep G H.gt.ts (by rintro x rfl; decide), H.se.gros G (fun k hk hm => H.dis k hk hm), h, fun x hx hm => by
    rcases hk x hm with h1 | h1
    · exact H.dis x hx h1
    · have := H.se.lt x hx
      omega⟩
/-- What is said, taken and acknowledged. -/
structure Inv (q : List RV) (k c : Nat) (al : List (Nat × List Nat)) (ac : List Nat) (se gt : List (List Nat)) : Prop where
  h1 : k + q.length = se.length
  h2 : q.map (·.l) = se.drop k
  h3 : gt = se.take c
  h4 : k ≤ c
  h5 : c ≤ se.length
  h6 : ∀ x ∈ al, 1 ≤ x.1 ∧ se[x.1 - 1]? = some x.2
  h7 : ∀ n ∈ ac, n ≤ c
  h8 : 0 < ac.length
theorem Inv.send (H : Inv q k c al ac se gt) (y : RV) : Inv (q ++ [y]) k c (al ++ [sdp (k + (q ++ [y]).length) y.l]) ac (se ++ [y.l]) gt := by
  have h1 := H.h1
  refine ⟨by simp; omega, ?_, ?_, H.h4, by have := H.h5; simp; omega, fun x hx => ?_, H.h7, H.h8⟩
  · rw [List.map_append, H.h2, List.drop_append_of_le_length (by omega)]
    rfl
  · rw [H.h3, List.take_append_of_le_length H.h5]
  · rcases List.mem_append.1 hx with hx | hx
    · obtain ⟨h2, h3⟩ := H.h6 x hx
      exact ⟨h2, by rw [List.getElem?_append_left (List.getElem?_eq_some_iff.1 h3).1]; exact h3⟩
    · cases List.mem_singleton.1 hx
      refine ⟨by show 1 ≤ k + (q ++ [y]).length; simp; omega, ?_⟩
      have e : k + (q ++ [y]).length - 1 = se.length := by simp; omega
      show (se ++ [y.l])[k + (q ++ [y]).length - 1]? = some y.l
      rw [e]
      simp
theorem Inv.came (H : Inv q k c al ac se gt) {x : Nat × List Nat} (hx : x ∈ al) (hn : x.1 = c + 1) : Inv q k (c + 1) al ac se (gt ++ [x.2]) := by
  obtain ⟨h2, h3⟩ := H.h6 x hx
  rw [hn, Nat.add_sub_cancel] at h3
  have hlt := (List.getElem?_eq_some_iff.1 h3).1
  exact ⟨H.h1, H.h2, by rw [H.h3, List.take_add_one, h3]; rfl, by have := H.h4; omega, hlt, H.h6, fun n hn => by have := H.h7 n hn; omega, H.h8⟩
theorem Inv.ack (H : Inv q k c al ac se gt) : Inv q k c al (ac ++ [c]) se gt := ⟨H.h1, H.h2, H.h3, H.h4, H.h5, H.h6, fun n hn => by
  rcases List.mem_append.1 hn with hn | hn
  · exact H.h7 n hn
  · cases List.mem_singleton.1 hn
    exact Nat.le_refl _, by simp⟩
theorem Inv.acked (H : Inv q k c al ac se gt) {m : Nat} (hm : m ≤ q.length) (hc : k + m ≤ c) : Inv (q.drop m) (k + m) c al ac se gt :=
  ⟨by have := H.h1; rw [List.length_drop]; omega, by rw [List.map_drop, H.h2, List.drop_drop], H.h3, hc, H.h5, H.h6, H.h7, H.h8⟩
theorem Inv.said (H : Inv q k c al ac se gt) {e : Nat} {l : List Nat} (hl : (q.map (·.l))[e]? = some l) : Inv q k c (al ++ [sdp (k + 1 + e) l]) ac se gt :=
  ⟨H.h1, H.h2, H.h3, H.h4, H.h5, fun x hx => by
    rcases List.mem_append.1 hx with hx | hx
    · exact H.h6 x hx
    · cases List.mem_singleton.1 hx
      refine ⟨by show 1 ≤ k + 1 + e; omega, ?_⟩
      show se[k + 1 + e - 1]? = _
      have e1 : k + 1 + e - 1 = k + e := by omega
      rw [H.h2, List.getElem?_drop] at hl
      rw [e1]
      exact hl, H.h7, H.h8⟩
theorem Inv.glen (H : Inv q k c al ac se gt) : gt.length = c := by
  have := H.h5
  rw [H.h3, List.length_take]
  omega
end
theorem WX.nots1 {t : TypeId} {cs : Array Value} {w : World} {p B : Nat} {ao : Option Addr} {cap : Nat} {q : List RV} (H : WX t cs w p B ao cap q) {g : Nat} {t' : TypeId} {c : Array Value} (hg : w.heap[g]? = some (.cells c t' (0, 0))) (ht : t' ≠ t) (h30 : t' ≠ 30) : g ∉ p :: blk ao := fun h => by
  rcases List.mem_cons.1 h with rfl | h
  · exact ne_type hg H.box ht rfl
  · exact H.row.ne hg h30 h
set_option maxRecDepth 100000 in
set_option maxHeartbeats 4000000 in
theorem windowOnce_any (w : World) (to : Option Addr) (tc : Nat) (ls : List (List Nat)) (HT : LC w to tc ls) (hal : ls.length ≤ 140737488355000) (hlens : ∀ l ∈ ls, l.length ≤ 140737488355000) (yo : Option Addr) (yc : Nat) (ys : List (Int × Int)) (HY : XC w 2 yo yc ys.length (ys.flatMap wayV)) (hys : ys.length < 9223372036854775808) : Calls Try.prog 4 #[.slice to ls.length tc, .slice yo ys.length yc] w fun e w' => e = .returned (.bool true) ∧ Gro w w' := by
  refine s_enter Try.func4 rfl Try.ntmps4 [.slice to ls.length tc, .slice yo ys.length yc] [.slice to ls.length tc, .slice yo ys.length yc, undef, undef, undef, undef, undef, undef, undef, undef, undef, undef, undef, undef, undef, undef, undef, undef, undef, undef, undef, undef, undef, undef, undef, undef, undef, undef, undef, undef, undef, undef, undef, undef, undef, undef, undef, undef, undef, undef, undef, undef, undef, undef, undef, undef, undef, undef, undef, undef, undef, undef, undef, undef, undef, undef, undef, undef, undef, undef, undef, undef, undef, undef, undef, undef, undef, undef, undef, undef, undef, undef, undef, undef, undef, undef, undef, undef, undef, undef, undef, undef, undef, undef, undef, undef, undef, undef, undef, undef, undef, undef, undef, undef, undef, undef, undef, undef, undef, undef, undef, undef, undef, undef, undef, undef, undef, undef, undef, undef, undef, undef, undef, undef, undef, undef, undef, undef, undef, undef, undef, undef, undef, undef, undef, undef, undef, undef, undef, undef, undef, undef, undef, undef, undef, undef, undef, undef, undef, undef, undef, undef, undef, undef, undef, undef, undef, undef, undef, undef, undef, undef, undef, undef, undef, undef, undef, undef, undef, undef, undef, undef, undef, undef, undef, undef, undef, undef, undef, undef, undef, undef, undef, undef, undef, undef, undef, undef, undef, undef, undef, undef, undef, undef, undef, undef, undef, undef, undef, undef, undef, undef, undef, undef, undef, undef, undef, undef, undef, undef, undef, undef, undef, undef, undef, undef, undef, undef, undef, undef, undef, undef, undef, undef, undef, undef, undef, undef, undef, undef, undef, undef, undef, undef, undef, undef, undef, undef, undef, undef, undef, undef, undef, undef, undef, undef, undef, undef, undef, undef, undef, undef, undef] rfl ?_
  have GG := Gro.refl w
  refine wp_seq ?_
  refine wp_region_lit ?_
  refine s_val 4 rfl rfl (.bool false) (rfl) ?_
  refine nr ?_; intro U h; simp only [z0, z1] at h; subst h
  refine wpList_nil ?_
  refine then_n ?_
  refine wp_seq ?_
  refine wp_region_lit ?_
  refine s_callx 25 rfl rfl _ 7 Try.call7 rfl rfl _ rfl [] rfl (new_any _) (fun _ _ ⟨_, he, _⟩ => ⟨_, he⟩) ?_
  rintro v w1 ⟨pa, he, G, bpa, HA0⟩
  cases he
  replace bpa := Nat.le_trans GG.size bpa
  replace GG := GG.trans G
  clear G
  have HA : WX 57 (c57 ((0 + ([] : List RV).length : Nat) : Int) ⟨none, ([] : List RV).length, 0⟩ ((0 : Nat) : Int)) _ pa w.heap.size none 0 [] := WX.new HA0.box bpa (by decide)
  clear HA0
  refine nr ?_; intro U h; simp only [z0, z1] at h; subst h
  have hal := HA.lt
  refine s_callx 26 rfl rfl _ 7 Try.call7 rfl rfl _ rfl [] rfl (new_any _) (fun _ _ ⟨_, he, _⟩ => ⟨_, he⟩) ?_
  rintro v w2 ⟨pb, he, G, bpb, HB0⟩
  cases he
  have hne : pa ≠ pb := by omega
  replace bpb := Nat.le_trans GG.size bpb
  replace HA := HA.gro G
  replace GG := GG.trans G
  clear G
  have HB : WX 57 (c57 ((0 + ([] : List RV).length : Nat) : Int) ⟨none, ([] : List RV).length, 0⟩ ((0 : Nat) : Int)) _ pb w.heap.size none 0 [] := WX.new HB0.box bpb (by decide)
  clear HB0
  refine nr ?_; intro U h; simp only [z0, z1] at h; subst h
  refine s_val 5 rfl rfl (.pointer (some ⟨pa, 0, none⟩)) (rfl) ?_
  refine nr ?_; intro U h; simp only [z0, z1] at h; subst h
  refine s_val 6 rfl rfl (.pointer (some ⟨pb, 0, none⟩)) (rfl) ?_
  refine nr ?_; intro U h; simp only [z0, z1] at h; subst h
  refine wpList_nil ?_
  refine then_n ?_
  refine wp_seq ?_
  refine wp_seq ?_
  refine wp_region_opq ?_
  intro OPS hY
  have y2 := hY 2 29 rfl
  have y6 := hY 6 33 rfl
  clear hY
  refine s_val 27 rfl rfl (.pointer (some ⟨pa, 0, none⟩)) (rfl) ?_
  refine nr ?_; intro U h; simp only [z0, z1] at h; subst h
  refine s_val 28 rfl rfl (.bool false) (run_eqnp 23 _ _ _ rfl _ rfl rfl Try.underlying23 _) ?_
  refine nr ?_; intro U h; simp only [z0, z1] at h; subst h
  refine s_val 29 rfl rfl (.bool false) (rfl) ?_
  refine nr ?_; intro U h; simp only [z0, z1] at h; subst h
  refine s_gvalY 30 rfl rfl y2 rfl (.pointer (some ⟨pb, 0, none⟩)) (rfl) ?_
  refine nr ?_; intro U h; simp only [z0, z1] at h; subst h
  refine s_gvalY 31 rfl rfl y2 rfl (.bool false) (run_eqnp 23 _ _ _ rfl _ rfl rfl Try.underlying23 _) ?_
  refine nr ?_; intro U h; simp only [z0, z1] at h; subst h
  refine s_val 32 rfl rfl (.bool false) (rfl) ?_
  refine nr ?_; intro U h; simp only [z0, z1] at h; subst h
  refine s_val 33 rfl rfl (.bool false) (rfl) ?_
  refine nr ?_; intro U h; simp only [z0, z1] at h; subst h
  refine s_gcallvY 34 rfl rfl y6 rfl _ 8 Try.call8 rfl rfl _ rfl [] rfl (fixed_true _) ?_
  intro w3 G
  replace HA := HA.gro G
  replace HB := HB.gro G
  replace GG := GG.trans G
  clear G
  refine nr ?_; intro U h; simp only [z0, z1] at h; subst h
  refine s_gvalY 35 rfl rfl y6 rfl (.bool false) (run_nt _ _ rfl true rfl) ?_
  refine nr ?_; intro U h; simp only [z0, z1] at h; subst h
  refine s_val 36 rfl rfl (.bool false) (rfl) ?_
  refine nr ?_; intro U h; simp only [z0, z1] at h; subst h
  refine wpList_nil ?_
  refine then_n ?_
  refine wp_cond_false rfl ?_
  refine wp_skip ?_
  refine then_n ?_
  refine wp_seq ?_
  refine wp_region_lit ?_
  refine s_val 7 rfl rfl (.slice none 0 0) (rfl) ?_
  refine nr ?_; intro U h; simp only [z0, z1] at h; subst h
  refine wpList_nil ?_
  refine then_n ?_
  refine wp_seq ?_
  refine wp_region_lit ?_
  refine s_bsl 37 rfl rfl 46 1 _ rfl [(0, .int .i64 0)] rfl #[.int .i64 0] 2 (by kernel_rfl) ?_
  intro w4 gk G egk kgk
  have bgk := size_base GG egk
  clear egk
  replace HA := HA.gro G
  replace HB := HB.gro G
  replace GG := GG.trans G
  clear G
  have HS : SM _ w.heap.size pa pb none 0 [] 0 0 none 0 [] (some ⟨gk, 0, none⟩) 1 [0] none 0 [] none 0 [] := ⟨HA, HB, hne, OY.nil _ _ _ _, oy_one kgk bgk rfl, OY.nil _ _ _ _, OY.nil _ _ _ _, fun x hx => by simp [blk] at hx⟩
  clear kgk HA HB
  refine nr ?_; intro U h; simp only [z0, z1] at h; subst h
  refine s_val 8 rfl rfl (.slice (some ⟨gk, 0, none⟩) 1 1) (rfl) ?_
  refine nr ?_; intro U h; simp only [z0, z1] at h; subst h
  refine wpList_nil ?_
  refine then_n ?_
  refine wp_seq ?_
  refine wp_region_lit ?_
  refine s_val 9 rfl rfl (.slice none 0 0) (rfl) ?_
  refine nr ?_; intro U h; simp only [z0, z1] at h; subst h
  refine s_val 10 rfl rfl (.slice none 0 0) (rfl) ?_
  refine nr ?_; intro U h; simp only [z0, z1] at h; subst h
  refine wpList_nil ?_
  refine then_n ?_
  refine wp_seq ?_
  refine wp_seq ?_
  refine wp_region_lit ?_
  refine s_val 38 rfl rfl (.slice yo ys.length yc) (rfl) ?_
  refine nr ?_; intro U h; simp only [z0, z1] at h; subst h
  refine s_val 39 rfl rfl (.int .i64 ((ys.length : Nat) : Int)) (run_len Try.underlying44 _ rfl _ _ _ rfl _) ?_
  refine nr ?_; intro U h; simp only [z0, z1] at h; subst h
  refine s_val 40 rfl rfl (.int .i64 0) (rfl) ?_
  refine nr ?_; intro U h; simp only [z0, z1] at h; subst h
  refine wpList_nil ?_
  refine then_n ?_
  refine wp_block ?_
  refine wp_loopN (fun mz az wv => ∃ (j : Nat) (ro : Option Addr) (rc : Nat) (q : List RV) (k : Nat) (c : Nat) (xo : Option Addr) (xc : Nat) (al : List (Nat × List Nat)) (ko : Option Addr) (kc : Nat) (ac : List Nat) (so : Option Addr) (sc : Nat) (se : List (List Nat)) (go : Option Addr) (gc : Nat) (gt : List (List Nat)) (us1 : Nat → Value), mz = ys.length - j ∧ az = ⟨[.slice to ls.length tc, .slice yo ys.length yc, undef, undef, us1 0, .pointer (some ⟨pa, 0, none⟩), .pointer (some ⟨pb, 0, none⟩), .slice xo al.length xc, .slice ko ac.length kc, .slice so se.length sc, .slice go gt.length gc, us1 1, us1 2, us1 3, us1 4, us1 5, us1 6, us1 7, us1 8, us1 9, us1 10, undef, undef, undef, undef, .pointer (some ⟨pa, 0, none⟩), .pointer (some ⟨pb, 0, none⟩), .pointer (some ⟨pa, 0, none⟩), .bool false, .bool false, .pointer (some ⟨pb, 0, none⟩), .bool false, .bool false, .bool false, .bool true, .bool false, .bool false, .slice (some ⟨gk, 0, none⟩) 1 1, .slice yo ys.length yc, .int .i64 ((ys.length : Nat) : Int), .int .i64 ((j : Nat) : Int), us1 11, us1 12, us1 13, us1 14, us1 15, us1 16, us1 17, us1 18, us1 19, us1 20, us1 21, us1 22, us1 23, us1 24, us1 25, us1 26, us1 27, us1 28, us1 29, us1 30, us1 31, us1 32, us1 33, us1 34, us1 35, us1 36, us1 37, us1 38, us1 39, us1 40, us1 41, us1 42, us1 43, us1 44, us1 45, us1 46, us1 47, us1 48, us1 49, us1 50, us1 51, us1 52, us1 53, us1 54, us1 55, us1 56, us1 57, us1 58, us1 59, us1 60, us1 61, us1 62, us1 63, us1 64, us1 65, us1 66, us1 67, us1 68, us1 69, us1 70, us1 71, us1 72, us1 73, us1 74, us1 75, us1 76, us1 77, us1 78, us1 79, us1 80, us1 81, us1 82, us1 83, us1 84, us1 85, us1 86, us1 87, us1 88, us1 89, us1 90, us1 91, us1 92, us1 93, us1 94, us1 95, us1 96, us1 97, us1 98, us1 99, us1 100, us1 101, us1 102, us1 103, us1 104, us1 105, us1 106, us1 107, us1 108, us1 109, us1 110, us1 111, us1 112, us1 113, us1 114, us1 115, us1 116, us1 117, us1 118, us1 119, us1 120, us1 121, us1 122, us1 123, us1 124, us1 125, us1 126, us1 127, us1 128, us1 129, us1 130, us1 131, us1 132, us1 133, us1 134, us1 135, us1 136, us1 137, us1 138, us1 139, us1 140, undef, undef, undef, undef, undef, undef, undef, undef, undef, undef, undef, undef, undef, undef, undef, undef, undef, undef, undef, undef, undef, undef, undef, undef, undef, undef, undef, undef, undef, undef, undef, undef, undef, undef, undef, undef, undef, undef, undef, undef, undef, undef, undef, undef, undef, undef, undef, undef, undef, undef, undef, undef, undef, undef, undef, undef, undef, undef, undef, undef, undef, undef, undef, undef, undef, undef, undef, undef, undef, undef, undef, undef].toArray, []⟩ ∧ j ≤ ys.length ∧ j ≤ 301 ∧ se.length ≤ j ∧ al.length ≤ 2000 + j ∧ ac.length ≤ j + 1 ∧ Gro w wv ∧ SM wv w.heap.size pa pb ro rc q k c xo xc al ko kc ac so sc se go gc gt ∧ Inv q k c al ac se gt) ?_ _ ⟨0, none, 0, [], 0, 0, none, 0, [], some ⟨gk, 0, none⟩, 1, [0], none, 0, [], none, 0, [], (fun kz => ([.bool false, undef, undef, undef, undef, undef, undef, undef, undef, undef, undef, undef, undef, undef, undef, undef, undef, undef, undef, undef, undef, undef, undef, undef, undef, undef, undef, undef, undef, undef, undef, undef, undef, undef, undef, undef, undef, undef, undef, undef, undef, undef, undef, undef, undef, undef, undef, undef, undef, undef, undef, undef, undef, undef, undef, undef, undef, undef, undef, undef, undef, undef, undef, undef, undef, undef, undef, undef, undef, undef, undef, undef, undef, undef, undef, undef, undef, undef, undef, undef, undef, undef, undef, undef, undef, undef, undef, undef, undef, undef, undef, undef, undef, undef, undef, undef, undef, undef, undef, undef, undef, undef, undef, undef, undef, undef, undef, undef, undef, undef, undef, undef, undef, undef, undef, undef, undef, undef, undef, undef, undef, undef, undef, undef, undef, undef, undef, undef, undef, undef, undef, undef, undef, undef, undef, undef, undef, undef, undef, undef, undef] : List Value).getD kz undef), rfl, rfl, Nat.zero_le _, Nat.zero_le _, Nat.zero_le _, Nat.zero_le _, Nat.le_refl _, GG, HS, ⟨rfl, rfl, rfl, Nat.le_refl _, Nat.le_refl _, (fun x hx => by cases hx), (fun n hn => by cases List.mem_singleton.1 hn; exact Nat.le_refl _), Nat.zero_lt_one⟩⟩
  clear GG HS
  rintro mz az wv ⟨j, ro, rc, q, k, c, xo, xc, al, ko, kc, ac, so, sc, se, go, gc, gt, us1, rfl, rfl, hj, hj2, hz1, hz2, hz3, GG, HS, HI⟩
  have hi1 := HI.h1
  have hi4 := HI.h4
  have hi5 := HI.h5
  refine wp_seq ?_
  refine wp_region_lit ?_
  obtain ⟨p1, hp1⟩ : ∃ p, decide (((j : Nat) : Int) < ((ys.length : Nat) : Int)) = p := ⟨_, rfl⟩
  refine s_val 41 rfl rfl (.bool p1) (run_lssT 3 _ _ _ rfl ((j : Nat) : Int) ((ys.length : Nat) : Int) rfl rfl p1 hp1 _) ?_
  refine nr ?_; intro U h; simp only [z0, z1] at h; subst h
  cases p1
  · refine wpList_nil ?_
    refine then_n ?_
    refine wp_seq ?_
    refine wp_cond_false rfl ?_
    refine wp_exit ?_
    refine then_x ?_
    refine then_x ?_
    refine blk_x ?_
    refine then_n ?_
    refine wp_seq ?_
    refine wp_region_lit ?_
    refine s_val 172 rfl rfl (.pointer (some ⟨pa, 0, none⟩)) (rfl) ?_
    refine nr ?_; intro U h; simp only [z0, z1] at h; subst h
    refine s_callx 173 rfl rfl _ 15 Try.call15 rfl rfl _ rfl [.pointer (some ⟨pa, 0, none⟩)] rfl (waits_any _ pa w.heap.size ro rc q k 0 HS.a (by omega) (by omega)) (fun _ _ ⟨_, _, he, _⟩ => ⟨_, he⟩) ?_
    rintro v w5 ⟨gl, rr, he, G, hr, HL⟩
    cases he
    have hrl : rr.length = q.length := by have := congrArg List.length hr; simpa using this
    replace HS := HS.gro G
    replace GG := GG.trans G
    clear G
    refine nr ?_; intro U h; simp only [z0, z1] at h; subst h
    have hgl := HI.glen
    have hqq := HI.h1
    refine s_val 171 rfl rfl (.tuple #[.int .i64 ((k + 1 : Nat) : Int), .slice (some ⟨gl, 0, none⟩) rr.length rr.length]) (rfl) ?_
    refine nr ?_; intro U h; simp only [z0, z1] at h; subst h
    refine s_val 174 rfl rfl (.int .i64 ((k + 1 : Nat) : Int)) (rfl) ?_
    refine nr ?_; intro U h; simp only [z0, z1] at h; subst h
    refine s_val 175 rfl rfl (.slice (some ⟨gl, 0, none⟩) rr.length rr.length) (rfl) ?_
    refine nr ?_; intro U h; simp only [z0, z1] at h; subst h
    refine s_val 21 rfl rfl (.int .i64 ((k + 1 : Nat) : Int)) (rfl) ?_
    refine nr ?_; intro U h; simp only [z0, z1] at h; subst h
    refine s_val 22 rfl rfl (.slice (some ⟨gl, 0, none⟩) rr.length rr.length) (rfl) ?_
    refine nr ?_; intro U h; simp only [z0, z1] at h; subst h
    refine wpList_nil ?_
    refine then_n ?_
    refine wp_seq ?_
    refine wp_seq ?_
    refine wp_region_opq ?_
    intro OPS hY
    have y5 := hY 5 181 rfl
    have y12 := hY 12 188 rfl
    have y16 := hY 16 192 rfl
    have y23 := hY 23 199 rfl
    clear hY
    refine s_val 176 rfl rfl (.slice go gt.length gc) (rfl) ?_
    refine nr ?_; intro U h; simp only [z0, z1] at h; subst h
    refine s_val 177 rfl rfl (.int .i64 ((gt.length : Nat) : Int)) (run_len Try.underlying47 _ rfl _ _ _ rfl _) ?_
    refine nr ?_; intro U h; simp only [z0, z1] at h; subst h
    refine s_val 178 rfl rfl (.slice so se.length sc) (rfl) ?_
    refine nr ?_; intro U h; simp only [z0, z1] at h; subst h
    refine s_val 179 rfl rfl (.int .i64 ((se.length : Nat) : Int)) (run_len Try.underlying47 _ rfl _ _ _ rfl _) ?_
    refine nr ?_; intro U h; simp only [z0, z1] at h; subst h
    refine s_val 180 rfl rfl (.bool false) (run_gtrT 3 _ _ _ rfl ((gt.length : Nat) : Int) ((se.length : Nat) : Int) rfl rfl false (decide_eq_false (by omega)) _) ?_
    refine nr ?_; intro U h; simp only [z0, z1] at h; subst h
    refine s_val 181 rfl rfl (.bool false) (rfl) ?_
    refine nr ?_; intro U h; simp only [z0, z1] at h; subst h
    refine s_gvalY 182 rfl rfl y5 rfl (.pointer (some ⟨pb, 0, none⟩)) (rfl) ?_
    refine nr ?_; intro U h; simp only [z0, z1] at h; subst h
    refine s_gcallvY 183 rfl rfl y5 rfl _ 18 Try.call18 rfl rfl _ rfl [.pointer (some ⟨pb, 0, none⟩)] rfl (got_any _ pb w.heap.size none 0 [] 0 c HS.b (by simp) (by omega)) ?_
    intro w6 G
    replace HS := HS.gro G
    replace HL := HL.gro G
    replace GG := GG.trans G
    clear G
    refine nr ?_; intro U h; simp only [z0, z1] at h; subst h
    refine s_gvalY 184 rfl rfl y5 rfl (.slice go gt.length gc) (rfl) ?_
    refine nr ?_; intro U h; simp only [z0, z1] at h; subst h
    refine s_gvalY 185 rfl rfl y5 rfl (.int .i64 ((gt.length : Nat) : Int)) (run_len Try.underlying47 _ rfl _ _ _ rfl _) ?_
    refine nr ?_; intro U h; simp only [z0, z1] at h; subst h
    refine s_gvalY 186 rfl rfl y5 rfl (.bool false) (run_neq_k 3 .i64 _ _ _ rfl Try.underlying3 ((c : Nat) : Int) ((gt.length : Nat) : Int) rfl rfl false (decide_eq_true (by omega)) _) ?_
    refine nr ?_; intro U h; simp only [z0, z1] at h; subst h
    refine s_val 187 rfl rfl (.bool false) (rfl) ?_
    refine nr ?_; intro U h; simp only [z0, z1] at h; subst h
    refine s_val 188 rfl rfl (.bool false) (rfl) ?_
    refine nr ?_; intro U h; simp only [z0, z1] at h; subst h
    refine s_gvalY 189 rfl rfl y12 rfl (.int .i64 ((k + 1 : Nat) : Int)) (rfl) ?_
    refine nr ?_; intro U h; simp only [z0, z1] at h; subst h
    refine s_gvalY 190 rfl rfl y12 rfl (.bool false) (run_lssT 2 _ _ _ rfl ((k + 1 : Nat) : Int) 1 rfl rfl false (decide_eq_false (by omega)) _) ?_
    refine nr ?_; intro U h; simp only [z0, z1] at h; subst h
    refine s_val 191 rfl rfl (.bool false) (rfl) ?_
    refine nr ?_; intro U h; simp only [z0, z1] at h; subst h
    refine s_val 192 rfl rfl (.bool false) (rfl) ?_
    refine nr ?_; intro U h; simp only [z0, z1] at h; subst h
    refine s_gvalY 193 rfl rfl y16 rfl (.int .i64 ((k + 1 : Nat) : Int)) (rfl) ?_
    refine nr ?_; intro U h; simp only [z0, z1] at h; subst h
    refine s_gvalY 194 rfl rfl y16 rfl (.int .i64 ((k : Nat) : Int)) (run_subI 3 _ _ _ rfl ((k + 1 : Nat) : Int) 1 ((k : Nat) : Int) rfl rfl (by omega) (by omega) (by omega) _) ?_
    refine nr ?_; intro U h; simp only [z0, z1] at h; subst h
    refine s_gvalY 195 rfl rfl y16 rfl (.slice go gt.length gc) (rfl) ?_
    refine nr ?_; intro U h; simp only [z0, z1] at h; subst h
    refine s_gvalY 196 rfl rfl y16 rfl (.int .i64 ((gt.length : Nat) : Int)) (run_len Try.underlying47 _ rfl _ _ _ rfl _) ?_
    refine nr ?_; intro U h; simp only [z0, z1] at h; subst h
    refine s_gvalY 197 rfl rfl y16 rfl (.bool false) (run_gtrT 3 _ _ _ rfl ((k : Nat) : Int) ((gt.length : Nat) : Int) rfl rfl false (decide_eq_false (by omega)) _) ?_
    refine nr ?_; intro U h; simp only [z0, z1] at h; subst h
    refine s_val 198 rfl rfl (.bool false) (rfl) ?_
    refine nr ?_; intro U h; simp only [z0, z1] at h; subst h
    refine s_val 199 rfl rfl (.bool false) (rfl) ?_
    refine nr ?_; intro U h; simp only [z0, z1] at h; subst h
    refine s_gvalY 200 rfl rfl y23 rfl (.slice (some ⟨gl, 0, none⟩) rr.length rr.length) (rfl) ?_
    refine nr ?_; intro U h; simp only [z0, z1] at h; subst h
    refine s_gvalY 201 rfl rfl y23 rfl (.int .i64 ((rr.length : Nat) : Int)) (run_len Try.underlying26 _ rfl _ _ _ rfl _) ?_
    refine nr ?_; intro U h; simp only [z0, z1] at h; subst h
    refine s_gvalY 202 rfl rfl y23 rfl (.slice so se.length sc) (rfl) ?_
    refine nr ?_; intro U h; simp only [z0, z1] at h; subst h
    refine s_gvalY 203 rfl rfl y23 rfl (.int .i64 ((se.length : Nat) : Int)) (run_len Try.underlying47 _ rfl _ _ _ rfl _) ?_
    refine nr ?_; intro U h; simp only [z0, z1] at h; subst h
    refine s_gvalY 204 rfl rfl y23 rfl (.int .i64 ((k + 1 : Nat) : Int)) (rfl) ?_
    refine nr ?_; intro U h; simp only [z0, z1] at h; subst h
    refine s_gvalY 205 rfl rfl y23 rfl (.int .i64 (((q.length : Nat) : Int) - 1)) (run_subI 3 _ _ _ rfl ((se.length : Nat) : Int) ((k + 1 : Nat) : Int) (((q.length : Nat) : Int) - 1) rfl rfl (by omega) (by omega) (by omega) _) ?_
    refine nr ?_; intro U h; simp only [z0, z1] at h; subst h
    refine s_gvalY 206 rfl rfl y23 rfl (.int .i64 ((q.length : Nat) : Int)) (run_addI 3 _ _ _ rfl (((q.length : Nat) : Int) - 1) 1 ((q.length : Nat) : Int) rfl rfl (by omega) (by omega) (by omega) _) ?_
    refine nr ?_; intro U h; simp only [z0, z1] at h; subst h
    refine s_gvalY 207 rfl rfl y23 rfl (.bool false) (run_neq_k 3 .i64 _ _ _ rfl Try.underlying3 ((rr.length : Nat) : Int) ((q.length : Nat) : Int) rfl rfl false (decide_eq_true (by omega)) _) ?_
    refine nr ?_; intro U h; simp only [z0, z1] at h; subst h
    refine s_val 208 rfl rfl (.bool false) (rfl) ?_
    refine nr ?_; intro U h; simp only [z0, z1] at h; subst h
    refine wpList_nil ?_
    refine then_n ?_
    refine wp_cond_false rfl ?_
    refine wp_skip ?_
    refine then_n ?_
    refine wp_seq ?_
    refine wp_seq ?_
    refine wp_region_lit ?_
    refine s_val 209 rfl rfl (.slice go gt.length gc) (rfl) ?_
    refine nr ?_; intro U h; simp only [z0, z1] at h; subst h
    refine s_val 210 rfl rfl (.int .i64 ((gt.length : Nat) : Int)) (run_len Try.underlying47 _ rfl _ _ _ rfl _) ?_
    refine nr ?_; intro U h; simp only [z0, z1] at h; subst h
    refine s_val 211 rfl rfl (.int .i64 0) (rfl) ?_
    refine nr ?_; intro U h; simp only [z0, z1] at h; subst h
    refine wpList_nil ?_
    refine then_n ?_
    refine wp_block ?_
    have hgl := HI.glen
    have hqq := HI.h1
    refine wp_loopN (fun mz az wv => ∃ (e4 : Nat) (us2 : Nat → Value), mz = gt.length - e4 ∧ az = ⟨[.slice to ls.length tc, .slice yo ys.length yc, undef, undef, us2 0, .pointer (some ⟨pa, 0, none⟩), .pointer (some ⟨pb, 0, none⟩), .slice xo al.length xc, .slice ko ac.length kc, .slice so se.length sc, .slice go gt.length gc, us1 1, us1 2, us1 3, us1 4, us1 5, us1 6, us1 7, us1 8, us1 9, us1 10, .int .i64 ((k + 1 : Nat) : Int), .slice (some ⟨gl, 0, none⟩) rr.length rr.length, us2 1, undef, .pointer (some ⟨pa, 0, none⟩), .pointer (some ⟨pb, 0, none⟩), .pointer (some ⟨pa, 0, none⟩), .bool false, .bool false, .pointer (some ⟨pb, 0, none⟩), .bool false, .bool false, .bool false, .bool true, .bool false, .bool false, .slice (some ⟨gk, 0, none⟩) 1 1, .slice yo ys.length yc, .int .i64 ((ys.length : Nat) : Int), .int .i64 ((j : Nat) : Int), .bool false, us1 12, us1 13, us1 14, us1 15, us1 16, us1 17, us1 18, us1 19, us1 20, us1 21, us1 22, us1 23, us1 24, us1 25, us1 26, us1 27, us1 28, us1 29, us1 30, us1 31, us1 32, us1 33, us1 34, us1 35, us1 36, us1 37, us1 38, us1 39, us1 40, us1 41, us1 42, us1 43, us1 44, us1 45, us1 46, us1 47, us1 48, us1 49, us1 50, us1 51, us1 52, us1 53, us1 54, us1 55, us1 56, us1 57, us1 58, us1 59, us1 60, us1 61, us1 62, us1 63, us1 64, us1 65, us1 66, us1 67, us1 68, us1 69, us1 70, us1 71, us1 72, us1 73, us1 74, us1 75, us1 76, us1 77, us1 78, us1 79, us1 80, us1 81, us1 82, us1 83, us1 84, us1 85, us1 86, us1 87, us1 88, us1 89, us1 90, us1 91, us1 92, us1 93, us1 94, us1 95, us1 96, us1 97, us1 98, us1 99, us1 100, us1 101, us1 102, us1 103, us1 104, us1 105, us1 106, us1 107, us1 108, us1 109, us1 110, us1 111, us1 112, us1 113, us1 114, us1 115, us1 116, us1 117, us1 118, us1 119, us1 120, us1 121, us1 122, us1 123, us1 124, us1 125, us1 126, us1 127, us1 128, us1 129, us1 130, us1 131, us1 132, us1 133, us1 134, us1 135, us1 136, us1 137, us1 138, us1 139, us1 140, .tuple #[.int .i64 ((k + 1 : Nat) : Int), .slice (some ⟨gl, 0, none⟩) rr.length rr.length], .pointer (some ⟨pa, 0, none⟩), .tuple #[.int .i64 ((k + 1 : Nat) : Int), .slice (some ⟨gl, 0, none⟩) rr.length rr.length], .int .i64 ((k + 1 : Nat) : Int), .slice (some ⟨gl, 0, none⟩) rr.length rr.length, .slice go gt.length gc, .int .i64 ((gt.length : Nat) : Int), .slice so se.length sc, .int .i64 ((se.length : Nat) : Int), .bool false, .bool false, .pointer (some ⟨pb, 0, none⟩), .int .i64 ((c : Nat) : Int), .slice go gt.length gc, .int .i64 ((gt.length : Nat) : Int), .bool false, .bool false, .bool false, .int .i64 ((k + 1 : Nat) : Int), .bool false, .bool false, .bool false, .int .i64 ((k + 1 : Nat) : Int), .int .i64 ((k : Nat) : Int), .slice go gt.length gc, .int .i64 ((gt.length : Nat) : Int), .bool false, .bool false, .bool false, .slice (some ⟨gl, 0, none⟩) rr.length rr.length, .int .i64 ((rr.length : Nat) : Int), .slice so se.length sc, .int .i64 ((se.length : Nat) : Int), .int .i64 ((k + 1 : Nat) : Int), .int .i64 (((q.length : Nat) : Int) - 1), .int .i64 ((q.length : Nat) : Int), .bool false, .bool false, .slice go gt.length gc, .int .i64 ((gt.length : Nat) : Int), .int .i64 ((e4 : Nat) : Int), us2 2, us2 3, us2 4, us2 5, us2 6, us2 7, us2 8, us2 9, us2 10, us2 11, us2 12, us2 13, undef, undef, undef, undef, undef, undef, undef, undef, undef, undef, undef, undef, undef, undef, undef, undef, undef, undef, undef].toArray, []⟩ ∧ e4 ≤ gt.length ∧ Gro w wv ∧ SM wv w.heap.size pa pb ro rc q k c xo xc al ko kc ac so sc se go gc gt ∧ ∃ M9, AL wv M9 gl rr) ?_ _ ⟨0, (fun kz => ([us1 0, undef, undef, undef, undef, undef, undef, undef, undef, undef, undef, undef, undef, undef] : List Value).getD kz undef), rfl, rfl, Nat.zero_le _, GG, HS, ⟨_, HL⟩⟩
    clear GG HS HL
    rintro mz az wv ⟨e4, us2, rfl, rfl, he4, GG, HS, HL⟩
    obtain ⟨M9, HL⟩ := HL
    refine wp_seq ?_
    refine wp_region_lit ?_
    obtain ⟨p2, hp2⟩ : ∃ p, decide (((e4 : Nat) : Int) < ((gt.length : Nat) : Int)) = p := ⟨_, rfl⟩
    refine s_val 212 rfl rfl (.bool p2) (run_lssT 3 _ _ _ rfl ((e4 : Nat) : Int) ((gt.length : Nat) : Int) rfl rfl p2 hp2 _) ?_
    refine nr ?_; intro U h; simp only [z0, z1] at h; subst h
    cases p2
    · refine wpList_nil ?_
      refine then_n ?_
      refine wp_seq ?_
      refine wp_cond_false rfl ?_
      refine wp_exit ?_
      refine then_x ?_
      refine then_x ?_
      refine blk_x ?_
      refine then_n ?_
      refine wp_seq ?_
      refine wp_seq ?_
      refine wp_region_lit ?_
      refine s_val 224 rfl rfl (.slice (some ⟨gl, 0, none⟩) rr.length rr.length) (rfl) ?_
      refine nr ?_; intro U h; simp only [z0, z1] at h; subst h
      refine s_val 225 rfl rfl (.int .i64 ((rr.length : Nat) : Int)) (run_len Try.underlying26 _ rfl _ _ _ rfl _) ?_
      refine nr ?_; intro U h; simp only [z0, z1] at h; subst h
      refine s_val 226 rfl rfl (.int .i64 0) (rfl) ?_
      refine nr ?_; intro U h; simp only [z0, z1] at h; subst h
      refine wpList_nil ?_
      refine then_n ?_
      refine wp_block ?_
      refine wp_loopN (fun mz az wv => ∃ (e5 : Nat) (us3 : Nat → Value), mz = rr.length - e5 ∧ az = ⟨[.slice to ls.length tc, .slice yo ys.length yc, undef, undef, us3 0, .pointer (some ⟨pa, 0, none⟩), .pointer (some ⟨pb, 0, none⟩), .slice xo al.length xc, .slice ko ac.length kc, .slice so se.length sc, .slice go gt.length gc, us1 1, us1 2, us1 3, us1 4, us1 5, us1 6, us1 7, us1 8, us1 9, us1 10, .int .i64 ((k + 1 : Nat) : Int), .slice (some ⟨gl, 0, none⟩) rr.length rr.length, us2 1, us3 1, .pointer (some ⟨pa, 0, none⟩), .pointer (some ⟨pb, 0, none⟩), .pointer (some ⟨pa, 0, none⟩), .bool false, .bool false, .pointer (some ⟨pb, 0, none⟩), .bool false, .bool false, .bool false, .bool true, .bool false, .bool false, .slice (some ⟨gk, 0, none⟩) 1 1, .slice yo ys.length yc, .int .i64 ((ys.length : Nat) : Int), .int .i64 ((j : Nat) : Int), .bool false, us1 12, us1 13, us1 14, us1 15, us1 16, us1 17, us1 18, us1 19, us1 20, us1 21, us1 22, us1 23, us1 24, us1 25, us1 26, us1 27, us1 28, us1 29, us1 30, us1 31, us1 32, us1 33, us1 34, us1 35, us1 36, us1 37, us1 38, us1 39, us1 40, us1 41, us1 42, us1 43, us1 44, us1 45, us1 46, us1 47, us1 48, us1 49, us1 50, us1 51, us1 52, us1 53, us1 54, us1 55, us1 56, us1 57, us1 58, us1 59, us1 60, us1 61, us1 62, us1 63, us1 64, us1 65, us1 66, us1 67, us1 68, us1 69, us1 70, us1 71, us1 72, us1 73, us1 74, us1 75, us1 76, us1 77, us1 78, us1 79, us1 80, us1 81, us1 82, us1 83, us1 84, us1 85, us1 86, us1 87, us1 88, us1 89, us1 90, us1 91, us1 92, us1 93, us1 94, us1 95, us1 96, us1 97, us1 98, us1 99, us1 100, us1 101, us1 102, us1 103, us1 104, us1 105, us1 106, us1 107, us1 108, us1 109, us1 110, us1 111, us1 112, us1 113, us1 114, us1 115, us1 116, us1 117, us1 118, us1 119, us1 120, us1 121, us1 122, us1 123, us1 124, us1 125, us1 126, us1 127, us1 128, us1 129, us1 130, us1 131, us1 132, us1 133, us1 134, us1 135, us1 136, us1 137, us1 138, us1 139, us1 140, .tuple #[.int .i64 ((k + 1 : Nat) : Int), .slice (some ⟨gl, 0, none⟩) rr.length rr.length], .pointer (some ⟨pa, 0, none⟩), .tuple #[.int .i64 ((k + 1 : Nat) : Int), .slice (some ⟨gl, 0, none⟩) rr.length rr.length], .int .i64 ((k + 1 : Nat) : Int), .slice (some ⟨gl, 0, none⟩) rr.length rr.length, .slice go gt.length gc, .int .i64 ((gt.length : Nat) : Int), .slice so se.length sc, .int .i64 ((se.length : Nat) : Int), .bool false, .bool false, .pointer (some ⟨pb, 0, none⟩), .int .i64 ((c : Nat) : Int), .slice go gt.length gc, .int .i64 ((gt.length : Nat) : Int), .bool false, .bool false, .bool false, .int .i64 ((k + 1 : Nat) : Int), .bool false, .bool false, .bool false, .int .i64 ((k + 1 : Nat) : Int), .int .i64 ((k : Nat) : Int), .slice go gt.length gc, .int .i64 ((gt.length : Nat) : Int), .bool false, .bool false, .bool false, .slice (some ⟨gl, 0, none⟩) rr.length rr.length, .int .i64 ((rr.length : Nat) : Int), .slice so se.length sc, .int .i64 ((se.length : Nat) : Int), .int .i64 ((k + 1 : Nat) : Int), .int .i64 (((q.length : Nat) : Int) - 1), .int .i64 ((q.length : Nat) : Int), .bool false, .bool false, .slice go gt.length gc, .int .i64 ((gt.length : Nat) : Int), .int .i64 ((e4 : Nat) : Int), .bool false, us2 3, us2 4, us2 5, us2 6, us2 7, us2 8, us2 9, us2 10, us2 11, us2 12, us2 13, .slice (some ⟨gl, 0, none⟩) rr.length rr.length, .int .i64 ((rr.length : Nat) : Int), .int .i64 ((e5 : Nat) : Int), us3 2, us3 3, us3 4, us3 5, us3 6, us3 7, us3 8, us3 9, us3 10, us3 11, us3 12, us3 13, us3 14, us3 15, us3 16, us3 17].toArray, []⟩ ∧ e5 ≤ rr.length ∧ Gro w wv ∧ SM wv w.heap.size pa pb ro rc q k c xo xc al ko kc ac so sc se go gc gt ∧ ∃ M9, AL wv M9 gl rr) ?_ _ ⟨0, (fun kz => ([us2 0, undef, undef, undef, undef, undef, undef, undef, undef, undef, undef, undef, undef, undef, undef, undef, undef, undef] : List Value).getD kz undef), rfl, rfl, Nat.zero_le _, GG, HS, ⟨_, HL⟩⟩
      clear GG HS HL
      rintro mz az wv ⟨e5, us3, rfl, rfl, he5, GG, HS, HL⟩
      obtain ⟨M9, HL⟩ := HL
      refine wp_seq ?_
      refine wp_region_lit ?_
      obtain ⟨p3, hp3⟩ : ∃ p, decide (((e5 : Nat) : Int) < ((rr.length : Nat) : Int)) = p := ⟨_, rfl⟩
      refine s_val 227 rfl rfl (.bool p3) (run_lssT 3 _ _ _ rfl ((e5 : Nat) : Int) ((rr.length : Nat) : Int) rfl rfl p3 hp3 _) ?_
      refine nr ?_; intro U h; simp only [z0, z1] at h; subst h
      cases p3
      · refine wpList_nil ?_
        refine then_n ?_
        refine wp_seq ?_
        refine wp_cond_false rfl ?_
        refine wp_exit ?_
        refine then_x ?_
        refine then_x ?_
        refine blk_x ?_
        refine then_n ?_
        refine wp_seq ?_
        refine wp_region_lit ?_
        refine s_val 4 rfl rfl (.bool true) (rfl) ?_
        refine nr ?_; intro U h; simp only [z0, z1] at h; subst h
        refine wpList_nil ?_
        refine then_n ?_
        refine wp_ret ?_
        refine bodyPost_ret (results_tmp Try.results4 _ _ _) rfl ?_
        exact ⟨rfl, GG⟩
      have he5n : e5 < rr.length := by have := of_decide_eq_true hp3; omega
      obtain ⟨zr, hzr⟩ : ∃ x, rr[e5]? = some x := ⟨_, List.getElem?_eq_getElem he5n⟩
      have hzm := List.mem_of_getElem? hzr
      have hls : se[k + e5]? = some zr.2 := by rw [← List.getElem?_drop, ← HI.h2, ← hr, List.getElem?_map, hzr]; rfl
      obtain ⟨ads, hso, hsc⟩ := HS.se.elem (j := k + e5) (v := stV zr.2) (by rw [List.getElem?_map, hls]; rfl)
      refine wpList_nil ?_
      refine then_n ?_
      refine wp_seq ?_
      refine wp_cond_true rfl ?_
      refine wp_skip ?_
      refine then_n ?_
      refine wp_seq ?_
      refine wp_block ?_
      refine wp_seq ?_
      refine wp_region_lit ?_
      refine s_val 228 rfl rfl (.int .i64 ((e5 : Nat) : Int)) (rfl) ?_
      refine nr ?_; intro U h; simp only [z0, z1] at h; subst h
      refine s_val 24 rfl rfl (.int .i64 ((e5 : Nat) : Int)) (rfl) ?_
      refine nr ?_; intro U h; simp only [z0, z1] at h; subst h
      refine wpList_nil ?_
      refine then_n ?_
      refine wp_seq ?_
      refine wp_region_exA (A := ?Ax1) 12 [(0, 229), (1, 230), (2, 231), (3, 232), (4, 233), (5, 234), (6, 235), (7, 236), (8, 237), (9, 238), (10, 239), (11, 240)] [.val (.slice (some ⟨gl, 0, none⟩) rr.length rr.length), .val (.int .i64 ((e5 : Nat) : Int)), .val (.pointer (some ⟨gl, e5, none⟩)), .val (.slice (some ⟨zr.1, 0, none⟩) zr.2.length zr.2.length), .val (.string (bas zr.2)), .val (.slice so se.length sc), .val (.int .i64 ((k + 1 : Nat) : Int)), .val (.int .i64 ((k : Nat) : Int)), .val (.int .i64 ((e5 : Nat) : Int)), .val (.int .i64 ((k + e5 : Nat) : Int)), .val (.pointer (some (ads.add (k + e5)))), .val (.string (bas zr.2))] follows (by kernel_rfl) rfl ?hAx1 (opsA_cons ?o0x1 (opsA_cons ?o1x1 (opsA_cons ?o2x1 (opsA_cons ?o3x1 (opsA_cons ?o4x1 (opsA_cons ?o5x1 (opsA_cons ?o6x1 (opsA_cons ?o7x1 (opsA_cons ?o8x1 (opsA_cons ?o9x1 (opsA_cons ?o10x1 (opsA_cons ?o11x1 opsA_nil)))))))))))) ?restx1
      case hAx1 =>
        intro ptrs
        simp only [full, foldSlots, filledE, postE, List.foldl_cons, List.foldl_nil, List.getD_cons_zero, List.getD_cons_succ, fill_val, List.set_cons_zero, List.set_cons_succ]
        exact rfl
      case o0x1 => exact fun _ _ _ _ => opE_move (v := .slice (some ⟨gl, 0, none⟩) rr.length rr.length) _ rfl rfl rfl
      case o1x1 => exact fun _ _ _ _ => opE_move (v := .int .i64 ((e5 : Nat) : Int)) _ rfl rfl rfl
      case o2x1 => exact fun _ _ hw _ => opE_value (v := .pointer (some ⟨gl, e5, none⟩)) rfl (run_idxg _ _ rfl gl rr.length rr.length e5 rfl rfl he5n _)
      case o3x1 => exact fun _ _ hw _ => opE_value (v := .slice (some ⟨zr.1, 0, none⟩) zr.2.length zr.2.length) rfl (run_ld24 _ rfl _ rfl _ _ (gro_cell ((Gro.refl _).drew.trans hw) (by exact HL.at hzr)))
      case o4x1 => exact fun _ _ hw _ => opE_value (v := .string (bas zr.2)) rfl (run_text_op bT 9 Try.underlying9 _ rfl rfl (nc_all (hw.has (HL.fr zr hzm).2.1) (HL.fr zr hzm).2.2))
      case o5x1 => exact fun _ _ _ _ => opE_move (v := .slice so se.length sc) _ rfl rfl rfl
      case o6x1 => exact fun _ _ _ _ => opE_move (v := .int .i64 ((k + 1 : Nat) : Int)) _ rfl rfl rfl
      case o7x1 => exact fun _ _ hw _ => opE_value (v := .int .i64 ((k : Nat) : Int)) rfl (run_subI 3 _ _ _ rfl ((k + 1 : Nat) : Int) 1 ((k : Nat) : Int) rfl rfl (by omega) (by omega) (by omega) _)
      case o8x1 => exact fun _ _ _ _ => opE_move (v := .int .i64 ((e5 : Nat) : Int)) _ rfl rfl rfl
      case o9x1 => exact fun _ _ hw _ => opE_value (v := .int .i64 ((k + e5 : Nat) : Int)) rfl (run_addI 3 _ _ _ rfl ((k : Nat) : Int) ((e5 : Nat) : Int) ((k + e5 : Nat) : Int) rfl rfl (by omega) (by omega) (by omega) _)
      case o10x1 => exact fun _ _ hw _ => opE_value (v := .pointer (some (ads.add (k + e5)))) rfl (run_idx47 _ _ rfl ads se.length sc (k + e5) (by exact congrArg (fun a => Value.slice a se.length sc) hso) rfl (by omega) _)
      case o11x1 => exact fun _ _ hw _ => opE_value (v := .string (bas zr.2)) rfl (run_ld9 _ rfl _ rfl _ (gro_cell ((Gro.refl _).drew.trans hw) hsc))
      intro ptrs w7 GD hxE
      simp only [List.drop_succ_cons, List.drop_zero]
      replace HS := HS.gro ((Gro.refl _).drew.trans GD)
      replace HL := HL.gro ((Gro.refl _).drew.trans GD)
      replace GG := GG.drew.trans GD
      clear GD
      refine s_val 241 rfl rfl (.bool false) (run_nes_op _ _ _ rfl _ _ rfl rfl false (decide_eq_true rfl) _) ?_
      refine nr ?_; intro U h; simp only [z0, z1] at h; subst h
      refine wpList_nil ?_
      refine then_n ?_
      refine wp_cond_false rfl ?_
      refine wp_skip ?_
      refine blk_n ?_
      refine then_n ?_
      refine wp_region_lit ?_
      refine s_val 242 rfl rfl (.int .i64 ((e5 + 1 : Nat) : Int)) (run_addI 3 _ _ _ rfl ((e5 : Nat) : Int) 1 ((e5 + 1 : Nat) : Int) rfl rfl (by omega) (by omega) (by omega) _) ?_
      refine nr ?_; intro U h; simp only [z0, z1] at h; subst h
      refine s_val 226 rfl rfl (.int .i64 ((e5 + 1 : Nat) : Int)) (rfl) ?_
      refine nr ?_; intro U h; simp only [z0, z1] at h; subst h
      refine wpList_nil ?_
      refine then_n ?_
      exact ⟨_, (by omega : rr.length - (e5 + 1) < rr.length - e5), e5 + 1, (fun kz => ([us3 0, .int .i64 ((e5 : Nat) : Int), .bool true, .int .i64 ((e5 : Nat) : Int), .slice (some ⟨gl, 0, none⟩) rr.length rr.length, .int .i64 ((e5 : Nat) : Int), .pointer (some ⟨gl, e5, none⟩), .slice (some ⟨zr.1, 0, none⟩) zr.2.length zr.2.length, .string (bas zr.2), .slice so se.length sc, .int .i64 ((k + 1 : Nat) : Int), .int .i64 ((k : Nat) : Int), .int .i64 ((e5 : Nat) : Int), .int .i64 ((k + e5 : Nat) : Int), .pointer (some (ads.add (k + e5))), .string (bas zr.2), .bool false, .int .i64 ((e5 + 1 : Nat) : Int)] : List Value).getD kz undef), rfl, rfl, he5n, GG, HS, ⟨_, HL⟩⟩
    have he4n : e4 < gt.length := by have := of_decide_eq_true hp2; omega
    obtain ⟨lg, hlg⟩ : ∃ x, gt[e4]? = some x := ⟨_, List.getElem?_eq_getElem he4n⟩
    have hls : se[e4]? = some lg := by rw [HI.h3, List.getElem?_take, if_pos (by omega)] at hlg; exact hlg
    obtain ⟨adg, hgo, hgc⟩ := HS.gt.elem (j := e4) (v := stV lg) (by rw [List.getElem?_map, hlg]; rfl)
    obtain ⟨ads, hso, hsc⟩ := HS.se.elem (j := e4) (v := stV lg) (by rw [List.getElem?_map, hls]; rfl)
    refine wpList_nil ?_
    refine then_n ?_
    refine wp_seq ?_
    refine wp_cond_true rfl ?_
    refine wp_skip ?_
    refine then_n ?_
    refine wp_seq ?_
    refine wp_block ?_
    refine wp_seq ?_
    refine wp_region_lit ?_
    refine s_val 213 rfl rfl (.int .i64 ((e4 : Nat) : Int)) (rfl) ?_
    refine nr ?_; intro U h; simp only [z0, z1] at h; subst h
    refine s_val 23 rfl rfl (.int .i64 ((e4 : Nat) : Int)) (rfl) ?_
    refine nr ?_; intro U h; simp only [z0, z1] at h; subst h
    refine wpList_nil ?_
    refine then_n ?_
    refine wp_seq ?_
    refine wp_region_exA (A := ?Ax2) 8 [(0, 214), (1, 215), (2, 216), (3, 217), (4, 218), (5, 219), (6, 220), (7, 221)] [.val (.slice go gt.length gc), .val (.int .i64 ((e4 : Nat) : Int)), .val (.pointer (some (adg.add e4))), .val (.string (bas lg)), .val (.slice so se.length sc), .val (.int .i64 ((e4 : Nat) : Int)), .val (.pointer (some (ads.add e4))), .val (.string (bas lg))] follows (by kernel_rfl) rfl ?hAx2 (opsA_cons ?o0x2 (opsA_cons ?o1x2 (opsA_cons ?o2x2 (opsA_cons ?o3x2 (opsA_cons ?o4x2 (opsA_cons ?o5x2 (opsA_cons ?o6x2 (opsA_cons ?o7x2 opsA_nil)))))))) ?restx2
    case hAx2 =>
      intro ptrs
      simp only [full, foldSlots, filledE, postE, List.foldl_cons, List.foldl_nil, List.getD_cons_zero, List.getD_cons_succ, fill_val, List.set_cons_zero, List.set_cons_succ]
      exact rfl
    case o0x2 => exact fun _ _ _ _ => opE_move (v := .slice go gt.length gc) _ rfl rfl rfl
    case o1x2 => exact fun _ _ _ _ => opE_move (v := .int .i64 ((e4 : Nat) : Int)) _ rfl rfl rfl
    case o2x2 => exact fun _ _ hw _ => opE_value (v := .pointer (some (adg.add e4))) rfl (run_idx47 _ _ rfl adg gt.length gc e4 (by exact congrArg (fun a => Value.slice a gt.length gc) hgo) rfl he4n _)
    case o3x2 => exact fun _ _ hw _ => opE_value (v := .string (bas lg)) rfl (run_ld9 _ rfl _ rfl _ (gro_cell ((Gro.refl _).drew.trans hw) hgc))
    case o4x2 => exact fun _ _ _ _ => opE_move (v := .slice so se.length sc) _ rfl rfl rfl
    case o5x2 => exact fun _ _ _ _ => opE_move (v := .int .i64 ((e4 : Nat) : Int)) _ rfl rfl rfl
    case o6x2 => exact fun _ _ hw _ => opE_value (v := .pointer (some (ads.add e4))) rfl (run_idx47 _ _ rfl ads se.length sc e4 (by exact congrArg (fun a => Value.slice a se.length sc) hso) rfl (by omega) _)
    case o7x2 => exact fun _ _ hw _ => opE_value (v := .string (bas lg)) rfl (run_ld9 _ rfl _ rfl _ (gro_cell ((Gro.refl _).drew.trans hw) hsc))
    intro ptrs w7 GD hxE
    simp only [List.drop_succ_cons, List.drop_zero]
    replace HS := HS.gro ((Gro.refl _).drew.trans GD)
    replace HL := HL.gro ((Gro.refl _).drew.trans GD)
    replace GG := GG.drew.trans GD
    clear GD
    refine s_val 222 rfl rfl (.bool false) (run_nes_op _ _ _ rfl _ _ rfl rfl false (decide_eq_true rfl) _) ?_
    refine nr ?_; intro U h; simp only [z0, z1] at h; subst h
    refine wpList_nil ?_
    refine then_n ?_
    refine wp_cond_false rfl ?_
    refine wp_skip ?_
    refine blk_n ?_
    refine then_n ?_
    refine wp_region_lit ?_
    refine s_val 223 rfl rfl (.int .i64 ((e4 + 1 : Nat) : Int)) (run_addI 3 _ _ _ rfl ((e4 : Nat) : Int) 1 ((e4 + 1 : Nat) : Int) rfl rfl (by omega) (by omega) (by omega) _) ?_
    refine nr ?_; intro U h; simp only [z0, z1] at h; subst h
    refine s_val 211 rfl rfl (.int .i64 ((e4 + 1 : Nat) : Int)) (rfl) ?_
    refine nr ?_; intro U h; simp only [z0, z1] at h; subst h
    refine wpList_nil ?_
    refine then_n ?_
    exact ⟨_, (by omega : gt.length - (e4 + 1) < gt.length - e4), e4 + 1, (fun kz => ([us2 0, .int .i64 ((e4 : Nat) : Int), .bool true, .int .i64 ((e4 : Nat) : Int), .slice go gt.length gc, .int .i64 ((e4 : Nat) : Int), .pointer (some (adg.add e4)), .string (bas lg), .slice so se.length sc, .int .i64 ((e4 : Nat) : Int), .pointer (some (ads.add e4)), .string (bas lg), .bool false, .int .i64 ((e4 + 1 : Nat) : Int)] : List Value).getD kz undef), rfl, rfl, he4n, GG, HS, ⟨_, HL⟩⟩
  have hjn : j < ys.length := by have := of_decide_eq_true hp1; omega
  obtain ⟨yq, hyq⟩ : ∃ x, ys[j]? = some x := ⟨_, List.getElem?_eq_getElem hjn⟩
  obtain ⟨ady, hyo⟩ := HY.some (by omega)
  refine wpList_nil ?_
  refine then_n ?_
  refine wp_seq ?_
  refine wp_cond_true rfl ?_
  refine wp_skip ?_
  refine then_n ?_
  refine wp_seq ?_
  refine wp_block ?_
  refine wp_seq ?_
  refine wp_region_lit ?_
  refine s_val 42 rfl rfl (.int .i64 ((j : Nat) : Int)) (rfl) ?_
  refine nr ?_; intro U h; simp only [z0, z1] at h; subst h
  refine s_val 43 rfl rfl (.pointer (some (ady.add (j * 2)))) (run_idxX wyT _ _ rfl ady ys.length yc j (by exact congrArg (fun a => Value.slice a ys.length yc) hyo) rfl hjn _) ?_
  refine nr ?_; intro U h; simp only [z0, z1] at h; subst h
  refine s_val 44 rfl rfl (.agg (c49 yq.1 yq.2)) (ld_way _ rfl ady j rfl (by rw [← hyo]; exact HY.gro GG) yq hyq) ?_
  refine nr ?_; intro U h; simp only [z0, z1] at h; subst h
  refine s_alloc 12 rfl rfl 49 rfl _ zv49 _ rfl ?_
  intro w5 g1 GX eg1 kg1
  have bg1 := size_base GG eg1
  replace GG := GG.trans GX
  refine nr ?_; intro U h; simp only [z0, z1] at h; subst h
  refine s_val 11 rfl rfl (.int .i64 ((j : Nat) : Int)) (rfl) ?_
  refine nr ?_; intro U h; simp only [z0, z1] at h; subst h
  refine s_store rfl rfl 49 _ _ rfl g1 0 rfl (.agg (c49 yq.1 yq.2)) rfl 49 _ kg1 (c49 yq.1 yq.2) rfl (by kernel_rfl) (Nat.le_of_ble_eq_true rfl) (by kernel_rfl) (c49 yq.1 yq.2) (by kernel_rfl) ?_
  intro w6 St
  replace GX := GX.store St (Nat.le_of_eq eg1)
  replace GG := GG.store St bg1
  replace kg1 := St.new
  replace HS := HS.gro GX
  clear St GX
  refine wpList_nil ?_
  refine then_n ?_
  refine wp_seq ?_
  refine wp_seq ?_
  refine wp_region_lit ?_
  refine s_val 45 rfl rfl (.int .i64 ((j : Nat) : Int)) (rfl) ?_
  refine nr ?_; intro U h; simp only [z0, z1] at h; subst h
  obtain ⟨p2, hp2⟩ : ∃ p, decide (300 < ((j : Nat) : Int)) = p := ⟨_, rfl⟩
  refine s_val 46 rfl rfl (.bool p2) (run_gtrT 3 _ _ _ rfl ((j : Nat) : Int) 300 rfl rfl p2 hp2 _) ?_
  refine nr ?_; intro U h; simp only [z0, z1] at h; subst h
  cases p2
  · have hj3 : j ≤ 300 := by have := of_decide_eq_false hp2; omega
    refine wpList_nil ?_
    refine then_n ?_
    refine wp_cond_false rfl ?_
    refine wp_skip ?_
    refine then_n ?_
    refine wp_seq ?_
    refine wp_region_lit ?_
    refine s_val 47 rfl rfl (.pointer (some ⟨g1, 0, none⟩)) (run_fld 49 _ 0 rfl _ _ rfl _ (by kernel_rfl)) ?_
    refine nr ?_; intro U h; simp only [z0, z1] at h; subst h
    refine s_val 48 rfl rfl (.int .i64 yq.1) (run_ldc 3 _ rfl g1 0 rfl 49 _ kg1 (na3 _) _ rfl) ?_
    refine nr ?_; intro U h; simp only [z0, z1] at h; subst h
    refine wpList_nil ?_
    refine then_n ?_
    refine wp_block ?_
    refine wp_seq ?_
    refine wp_region_lit ?_
    obtain ⟨p3, hp3⟩ : ∃ p, decide (yq.1 = 0) = p := ⟨_, rfl⟩
    refine s_val 55 rfl rfl (.bool p3) (run_eq_k 3 .i64 _ _ _ rfl Try.underlying3 yq.1 0 rfl rfl p3 hp3 _) ?_
    refine nr ?_; intro U h; simp only [z0, z1] at h; subst h
    cases p3
    · refine s_val _ rfl rfl (.bool false) rfl ?_
      refine nr ?_; intro U h; simp only [z0, z1] at h; subst h
      refine wpList_nil ?_
      refine then_n ?_
      refine wp_cond_false rfl ?_
      refine wp_seq ?_
      refine wp_region_lit ?_
      obtain ⟨p4, hp4⟩ : ∃ p, decide (yq.1 = 1) = p := ⟨_, rfl⟩
      refine s_val 99 rfl rfl (.bool p4) (run_eq_k 3 .i64 _ _ _ rfl Try.underlying3 yq.1 1 rfl rfl p4 hp4 _) ?_
      refine nr ?_; intro U h; simp only [z0, z1] at h; subst h
      cases p4
      · refine s_val _ rfl rfl (.bool false) rfl ?_
        refine nr ?_; intro U h; simp only [z0, z1] at h; subst h
        refine wpList_nil ?_
        refine then_n ?_
        refine wp_cond_false rfl ?_
        refine wp_seq ?_
        refine wp_region_lit ?_
        obtain ⟨p5, hp5⟩ : ∃ p, decide (yq.1 = 2) = p := ⟨_, rfl⟩
        refine s_val 129 rfl rfl (.bool p5) (run_eq_k 3 .i64 _ _ _ rfl Try.underlying3 yq.1 2 rfl rfl p5 hp5 _) ?_
        refine nr ?_; intro U h; simp only [z0, z1] at h; subst h
        cases p5
        · refine s_val _ rfl rfl (.bool false) rfl ?_
          refine nr ?_; intro U h; simp only [z0, z1] at h; subst h
          refine wpList_nil ?_
          refine then_n ?_
          refine wp_cond_false rfl ?_
          refine wp_seq ?_
          refine wp_region_lit ?_
          obtain ⟨p6, hp6⟩ : ∃ p, decide (yq.1 = 3) = p := ⟨_, rfl⟩
          refine s_val 144 rfl rfl (.bool p6) (run_eq_k 3 .i64 _ _ _ rfl Try.underlying3 yq.1 3 rfl rfl p6 hp6 _) ?_
          refine nr ?_; intro U h; simp only [z0, z1] at h; subst h
          cases p6
          · refine s_val _ rfl rfl (.bool false) rfl ?_
            refine nr ?_; intro U h; simp only [z0, z1] at h; subst h
            refine wpList_nil ?_
            refine then_n ?_
            refine wp_cond_false rfl ?_
            refine wp_region_lit ?_
            refine s_val 49 rfl rfl (.slice ko ac.length kc) (rfl) ?_
            refine nr ?_; intro U h; simp only [z0, z1] at h; subst h
            refine s_val 50 rfl rfl (.pointer (some ⟨pb, 0, none⟩)) (rfl) ?_
            refine nr ?_; intro U h; simp only [z0, z1] at h; subst h
            refine s_callv 51 rfl rfl _ 18 Try.call18 rfl rfl _ rfl [.pointer (some ⟨pb, 0, none⟩)] rfl (got_any _ pb w.heap.size none 0 [] 0 c HS.b (by simp) (by omega)) ?_
            intro w7 G
            replace kg1 := G.has kg1
            replace HS := HS.gro G
            replace GG := GG.trans G
            clear G
            refine nr ?_; intro U h; simp only [z0, z1] at h; subst h
            refine s_bsl 52 rfl rfl 46 1 _ rfl [(0, .int .i64 ((c : Nat) : Int))] rfl #[.int .i64 ((c : Nat) : Int)] 2 (by kernel_rfl) ?_
            intro w8 gB52 G eB kgB
            clear eB
            replace kg1 := G.has kg1
            replace HS := HS.gro G
            replace GG := GG.trans G
            clear G
            refine nr ?_; intro U h; simp only [z0, z1] at h; subst h
            refine s_appY i64T 53 rfl rfl _ _ rfl rfl HS.ac rfl (xc_one kgB rfl) (by omega) (by decide) GG.size ?_
            intro ko1 kc1 w9 HX GX hkx
            have e1 : ac.length + 1 = (ac ++ [c]).length := by simp
            replace HX : OY w9 2 1 w.heap.size ko1 kc1 (ac ++ [c]).length ((ac ++ [c]).map inV) := by rw [← e1, List.map_append]; exact HX
            rw [e1]
            replace GG := GX.gro GG HS.ac.base
            replace kg1 := GX.has kg1 (HS.ac.ne kg1 (by decide))
            replace HS := HS.sac GX HX
            clear HX GX hkx kgB e1
            refine nr ?_; intro U h; simp only [z0, z1] at h; subst h
            replace HI := HI.ack
            refine s_val 8 rfl rfl (.slice ko1 ((ac ++ [c]).length) kc1) (rfl) ?_
            refine nr ?_; intro U h; simp only [z0, z1] at h; subst h
            refine wpList_nil ?_
            refine blk_n ?_
            refine blk_n ?_
            refine then_n ?_
            refine wp_region_lit ?_
            refine s_val 170 rfl rfl (.int .i64 ((j + 1 : Nat) : Int)) (run_addI 3 _ _ _ rfl ((j : Nat) : Int) 1 ((j + 1 : Nat) : Int) rfl rfl (by omega) (by omega) (by omega) _) ?_
            refine nr ?_; intro U h; simp only [z0, z1] at h; subst h
            refine s_val 40 rfl rfl (.int .i64 ((j + 1 : Nat) : Int)) (rfl) ?_
            refine nr ?_; intro U h; simp only [z0, z1] at h; subst h
            refine wpList_nil ?_
            refine then_n ?_
            exact ⟨_, (by omega : ys.length - (j + 1) < ys.length - j), j + 1, ro, rc, q, k, c, xo, xc, al, ko1, kc1, (ac ++ [c]), so, sc, se, go, gc, gt, (fun kz => ([us1 0, .int .i64 ((j : Nat) : Int), .pointer (some ⟨g1, 0, none⟩), us1 3, us1 4, us1 5, us1 6, us1 7, us1 8, us1 9, us1 10, .bool true, .int .i64 ((j : Nat) : Int), .pointer (some (ady.add (j * 2))), .agg (c49 yq.1 yq.2), .int .i64 ((j : Nat) : Int), .bool false, .pointer (some ⟨g1, 0, none⟩), .int .i64 yq.1, .slice ko ac.length kc, .pointer (some ⟨pb, 0, none⟩), .int .i64 ((c : Nat) : Int), .slice (some ⟨gB52, 0, none⟩) 1 1, .slice ko1 ((ac ++ [c]).length) kc1, .bool false, .bool false, us1 26, us1 27, us1 28, us1 29, us1 30, us1 31, us1 32, us1 33, us1 34, us1 35, us1 36, us1 37, us1 38, us1 39, us1 40, us1 41, us1 42, us1 43, us1 44, us1 45, us1 46, us1 47, us1 48, us1 49, us1 50, us1 51, us1 52, us1 53, us1 54, us1 55, us1 56, us1 57, us1 58, us1 59, us1 60, us1 61, us1 62, us1 63, us1 64, us1 65, us1 66, us1 67, .bool false, .bool false, us1 70, us1 71, us1 72, us1 73, us1 74, us1 75, us1 76, us1 77, us1 78, us1 79, us1 80, us1 81, us1 82, us1 83, us1 84, us1 85, us1 86, us1 87, us1 88, us1 89, us1 90, us1 91, us1 92, us1 93, us1 94, us1 95, us1 96, us1 97, .bool false, .bool false, us1 100, us1 101, us1 102, us1 103, us1 104, us1 105, us1 106, us1 107, us1 108, us1 109, us1 110, us1 111, us1 112, .bool false, .bool false, us1 115, us1 116, us1 117, us1 118, us1 119, us1 120, us1 121, us1 122, us1 123, us1 124, us1 125, us1 126, us1 127, us1 128, us1 129, us1 130, us1 131, us1 132, us1 133, us1 134, us1 135, us1 136, us1 137, us1 138, us1 139, .int .i64 ((j + 1 : Nat) : Int)] : List Value).getD kz undef), rfl, rfl, hjn, (by omega), (by omega), (by omega), (by rw [List.length_append]; simp only [List.length_cons, List.length_nil]; omega), GG, HS, HI⟩
          refine s_val 143 rfl rfl (.bool true) (rfl) ?_
          refine nr ?_; intro U h; simp only [z0, z1] at h; subst h
          refine wpList_nil ?_
          refine then_n ?_
          refine wp_cond_true rfl ?_
          refine wp_seq ?_
          refine wp_region_lit ?_
          refine s_val 146 rfl rfl (.pointer (some ⟨pa, 0, none⟩)) (rfl) ?_
          refine nr ?_; intro U h; simp only [z0, z1] at h; subst h
          refine s_callx 147 rfl rfl _ 15 Try.call15 rfl rfl _ rfl [.pointer (some ⟨pa, 0, none⟩)] rfl (waits_any _ pa w.heap.size ro rc q k 0 HS.a (by omega) (by omega)) (fun _ _ ⟨_, _, he, _⟩ => ⟨_, he⟩) ?_
          rintro v w7 ⟨gl, rr, he, G, hr, HL⟩
          cases he
          have hrl : rr.length = q.length := by have := congrArg List.length hr; simpa using this
          replace kg1 := G.has kg1
          replace HS := HS.gro G
          replace GG := GG.trans G
          clear G
          refine nr ?_; intro U h; simp only [z0, z1] at h; subst h
          refine s_val 145 rfl rfl (.tuple #[.int .i64 ((k + 1 : Nat) : Int), .slice (some ⟨gl, 0, none⟩) rr.length rr.length]) (rfl) ?_
          refine nr ?_; intro U h; simp only [z0, z1] at h; subst h
          refine s_val 148 rfl rfl (.int .i64 ((k + 1 : Nat) : Int)) (rfl) ?_
          refine nr ?_; intro U h; simp only [z0, z1] at h; subst h
          refine s_val 149 rfl rfl (.slice (some ⟨gl, 0, none⟩) rr.length rr.length) (rfl) ?_
          refine nr ?_; intro U h; simp only [z0, z1] at h; subst h
          refine s_val 17 rfl rfl (.int .i64 ((k + 1 : Nat) : Int)) (rfl) ?_
          refine nr ?_; intro U h; simp only [z0, z1] at h; subst h
          refine s_val 18 rfl rfl (.slice (some ⟨gl, 0, none⟩) rr.length rr.length) (rfl) ?_
          refine nr ?_; intro U h; simp only [z0, z1] at h; subst h
          refine wpList_nil ?_
          refine then_n ?_
          refine wp_seq ?_
          refine wp_region_lit ?_
          refine s_val 150 rfl rfl (.slice (some ⟨gl, 0, none⟩) rr.length rr.length) (rfl) ?_
          refine nr ?_; intro U h; simp only [z0, z1] at h; subst h
          refine s_val 151 rfl rfl (.int .i64 ((rr.length : Nat) : Int)) (run_len Try.underlying26 _ rfl _ _ _ rfl _) ?_
          refine nr ?_; intro U h; simp only [z0, z1] at h; subst h
          refine s_val 152 rfl rfl (.int .i64 0) (rfl) ?_
          refine nr ?_; intro U h; simp only [z0, z1] at h; subst h
          refine wpList_nil ?_
          refine then_n ?_
          refine wp_block ?_
          refine wp_loopN (fun mz az wv => ∃ (e3 : Nat) (xo3 : Option Addr) (xc3 : Nat) (al3 : List (Nat × List Nat)) (us2 : Nat → Value), mz = rr.length - e3 ∧ az = ⟨[.slice to ls.length tc, .slice yo ys.length yc, undef, undef, us1 0, .pointer (some ⟨pa, 0, none⟩), .pointer (some ⟨pb, 0, none⟩), .slice xo3 al3.length xc3, .slice ko ac.length kc, .slice so se.length sc, .slice go gt.length gc, .int .i64 ((j : Nat) : Int), .pointer (some ⟨g1, 0, none⟩), us1 3, us1 4, us1 5, us1 6, .int .i64 ((k + 1 : Nat) : Int), .slice (some ⟨gl, 0, none⟩) rr.length rr.length, us2 0, us2 1, undef, undef, undef, undef, .pointer (some ⟨pa, 0, none⟩), .pointer (some ⟨pb, 0, none⟩), .pointer (some ⟨pa, 0, none⟩), .bool false, .bool false, .pointer (some ⟨pb, 0, none⟩), .bool false, .bool false, .bool false, .bool true, .bool false, .bool false, .slice (some ⟨gk, 0, none⟩) 1 1, .slice yo ys.length yc, .int .i64 ((ys.length : Nat) : Int), .int .i64 ((j : Nat) : Int), .bool true, .int .i64 ((j : Nat) : Int), .pointer (some (ady.add (j * 2))), .agg (c49 yq.1 yq.2), .int .i64 ((j : Nat) : Int), .bool false, .pointer (some ⟨g1, 0, none⟩), .int .i64 yq.1, us1 19, us1 20, us1 21, us1 22, us1 23, .bool false, .bool false, us1 26, us1 27, us1 28, us1 29, us1 30, us1 31, us1 32, us1 33, us1 34, us1 35, us1 36, us1 37, us1 38, us1 39, us1 40, us1 41, us1 42, us1 43, us1 44, us1 45, us1 46, us1 47, us1 48, us1 49, us1 50, us1 51, us1 52, us1 53, us1 54, us1 55, us1 56, us1 57, us1 58, us1 59, us1 60, us1 61, us1 62, us1 63, us1 64, us1 65, us1 66, us1 67, .bool false, .bool false, us1 70, us1 71, us1 72, us1 73, us1 74, us1 75, us1 76, us1 77, us1 78, us1 79, us1 80, us1 81, us1 82, us1 83, us1 84, us1 85, us1 86, us1 87, us1 88, us1 89, us1 90, us1 91, us1 92, us1 93, us1 94, us1 95, us1 96, us1 97, .bool false, .bool false, us1 100, us1 101, us1 102, us1 103, us1 104, us1 105, us1 106, us1 107, us1 108, us1 109, us1 110, us1 111, us1 112, .bool true, .bool true, .tuple #[.int .i64 ((k + 1 : Nat) : Int), .slice (some ⟨gl, 0, none⟩) rr.length rr.length], .pointer (some ⟨pa, 0, none⟩), .tuple #[.int .i64 ((k + 1 : Nat) : Int), .slice (some ⟨gl, 0, none⟩) rr.length rr.length], .int .i64 ((k + 1 : Nat) : Int), .slice (some ⟨gl, 0, none⟩) rr.length rr.length, .slice (some ⟨gl, 0, none⟩) rr.length rr.length, .int .i64 ((rr.length : Nat) : Int), .int .i64 ((e3 : Nat) : Int), us2 2, us2 3, us2 4, us2 5, us2 6, us2 7, us2 8, us2 9, us2 10, us2 11, us2 12, us2 13, us2 14, us2 15, us2 16, us2 17, us2 18, us1 140, undef, undef, undef, undef, undef, undef, undef, undef, undef, undef, undef, undef, undef, undef, undef, undef, undef, undef, undef, undef, undef, undef, undef, undef, undef, undef, undef, undef, undef, undef, undef, undef, undef, undef, undef, undef, undef, undef, undef, undef, undef, undef, undef, undef, undef, undef, undef, undef, undef, undef, undef, undef, undef, undef, undef, undef, undef, undef, undef, undef, undef, undef, undef, undef, undef, undef, undef, undef, undef, undef, undef, undef].toArray, []⟩ ∧ e3 ≤ rr.length ∧ al3.length ≤ 2000 + j ∧ Gro w wv ∧ SM wv w.heap.size pa pb ro rc q k c xo3 xc3 al3 ko kc ac so sc se go gc gt ∧ Inv q k c al3 ac se gt ∧ ∃ M9, AL wv M9 gl rr) ?_ _ ⟨0, xo, xc, al, (fun kz => ([us1 9, us1 10, us1 123, us1 124, us1 125, us1 126, us1 127, us1 128, us1 129, us1 130, us1 131, us1 132, us1 133, us1 134, us1 135, us1 136, us1 137, us1 138, us1 139] : List Value).getD kz undef), rfl, rfl, Nat.zero_le _, (by omega), GG, HS, HI, ⟨_, HL⟩⟩
          clear GG HS HL
          rintro mz az wv ⟨e3, xo3, xc3, al3, us2, rfl, rfl, he3, hz4, GG, HS, HI, HL⟩
          obtain ⟨M9, HL⟩ := HL
          refine wp_seq ?_
          refine wp_region_lit ?_
          obtain ⟨p7, hp7⟩ : ∃ p, decide (((e3 : Nat) : Int) < ((rr.length : Nat) : Int)) = p := ⟨_, rfl⟩
          refine s_val 153 rfl rfl (.bool p7) (run_lssT 3 _ _ _ rfl ((e3 : Nat) : Int) ((rr.length : Nat) : Int) rfl rfl p7 hp7 _) ?_
          refine nr ?_; intro U h; simp only [z0, z1] at h; subst h
          cases p7
          · refine wpList_nil ?_
            refine then_n ?_
            refine wp_seq ?_
            refine wp_cond_false rfl ?_
            refine wp_exit ?_
            refine then_x ?_
            refine then_x ?_
            refine blk_x ?_
            refine blk_n ?_
            refine blk_n ?_
            refine then_n ?_
            refine wp_region_lit ?_
            refine s_val 170 rfl rfl (.int .i64 ((j + 1 : Nat) : Int)) (run_addI 3 _ _ _ rfl ((j : Nat) : Int) 1 ((j + 1 : Nat) : Int) rfl rfl (by omega) (by omega) (by omega) _) ?_
            refine nr ?_; intro U h; simp only [z0, z1] at h; subst h
            refine s_val 40 rfl rfl (.int .i64 ((j + 1 : Nat) : Int)) (rfl) ?_
            refine nr ?_; intro U h; simp only [z0, z1] at h; subst h
            refine wpList_nil ?_
            refine then_n ?_
            exact ⟨_, (by omega : ys.length - (j + 1) < ys.length - j), j + 1, ro, rc, q, k, c, xo3, xc3, al3, ko, kc, ac, so, sc, se, go, gc, gt, (fun kz => ([us1 0, .int .i64 ((j : Nat) : Int), .pointer (some ⟨g1, 0, none⟩), us1 3, us1 4, us1 5, us1 6, .int .i64 ((k + 1 : Nat) : Int), .slice (some ⟨gl, 0, none⟩) rr.length rr.length, us2 0, us2 1, .bool true, .int .i64 ((j : Nat) : Int), .pointer (some (ady.add (j * 2))), .agg (c49 yq.1 yq.2), .int .i64 ((j : Nat) : Int), .bool false, .pointer (some ⟨g1, 0, none⟩), .int .i64 yq.1, us1 19, us1 20, us1 21, us1 22, us1 23, .bool false, .bool false, us1 26, us1 27, us1 28, us1 29, us1 30, us1 31, us1 32, us1 33, us1 34, us1 35, us1 36, us1 37, us1 38, us1 39, us1 40, us1 41, us1 42, us1 43, us1 44, us1 45, us1 46, us1 47, us1 48, us1 49, us1 50, us1 51, us1 52, us1 53, us1 54, us1 55, us1 56, us1 57, us1 58, us1 59, us1 60, us1 61, us1 62, us1 63, us1 64, us1 65, us1 66, us1 67, .bool false, .bool false, us1 70, us1 71, us1 72, us1 73, us1 74, us1 75, us1 76, us1 77, us1 78, us1 79, us1 80, us1 81, us1 82, us1 83, us1 84, us1 85, us1 86, us1 87, us1 88, us1 89, us1 90, us1 91, us1 92, us1 93, us1 94, us1 95, us1 96, us1 97, .bool false, .bool false, us1 100, us1 101, us1 102, us1 103, us1 104, us1 105, us1 106, us1 107, us1 108, us1 109, us1 110, us1 111, us1 112, .bool true, .bool true, .tuple #[.int .i64 ((k + 1 : Nat) : Int), .slice (some ⟨gl, 0, none⟩) rr.length rr.length], .pointer (some ⟨pa, 0, none⟩), .tuple #[.int .i64 ((k + 1 : Nat) : Int), .slice (some ⟨gl, 0, none⟩) rr.length rr.length], .int .i64 ((k + 1 : Nat) : Int), .slice (some ⟨gl, 0, none⟩) rr.length rr.length, .slice (some ⟨gl, 0, none⟩) rr.length rr.length, .int .i64 ((rr.length : Nat) : Int), .int .i64 ((e3 : Nat) : Int), .bool false, us2 3, us2 4, us2 5, us2 6, us2 7, us2 8, us2 9, us2 10, us2 11, us2 12, us2 13, us2 14, us2 15, us2 16, us2 17, us2 18, .int .i64 ((j + 1 : Nat) : Int)] : List Value).getD kz undef), rfl, rfl, hjn, (by omega), (by omega), (by omega), (by omega), GG, HS, HI⟩
          have he3n : e3 < rr.length := by have := of_decide_eq_true hp7; omega
          obtain ⟨zr, hzr⟩ : ∃ x, rr[e3]? = some x := ⟨_, List.getElem?_eq_getElem he3n⟩
          have hzm := List.mem_of_getElem? hzr
          have hql : (q.map (·.l))[e3]? = some zr.2 := by rw [← hr, List.getElem?_map, hzr]; rfl
          refine wpList_nil ?_
          refine then_n ?_
          refine wp_seq ?_
          refine wp_cond_true rfl ?_
          refine wp_skip ?_
          refine then_n ?_
          refine wp_seq ?_
          refine wp_block ?_
          refine wp_seq ?_
          refine wp_region_lit ?_
          refine s_val 154 rfl rfl (.int .i64 ((e3 : Nat) : Int)) (rfl) ?_
          refine nr ?_; intro U h; simp only [z0, z1] at h; subst h
          refine s_val 155 rfl rfl (.pointer (some ⟨gl, e3, none⟩)) (run_idxg _ _ rfl gl rr.length rr.length e3 rfl rfl he3n _) ?_
          refine nr ?_; intro U h; simp only [z0, z1] at h; subst h
          refine s_val 156 rfl rfl (.slice (some ⟨zr.1, 0, none⟩) zr.2.length zr.2.length) (run_ld24 _ rfl _ rfl _ _ (by exact HL.at hzr)) ?_
          refine nr ?_; intro U h; simp only [z0, z1] at h; subst h
          refine s_val 19 rfl rfl (.int .i64 ((e3 : Nat) : Int)) (rfl) ?_
          refine nr ?_; intro U h; simp only [z0, z1] at h; subst h
          refine s_val 20 rfl rfl (.slice (some ⟨zr.1, 0, none⟩) zr.2.length zr.2.length) (rfl) ?_
          refine nr ?_; intro U h; simp only [z0, z1] at h; subst h
          refine wpList_nil ?_
          refine then_n ?_
          refine wp_seq ?_
          refine wp_region_lit ?_
          refine s_val 157 rfl rfl (.slice xo3 al3.length xc3) (rfl) ?_
          refine nr ?_; intro U h; simp only [z0, z1] at h; subst h
          refine s_val 158 rfl rfl (.int .i64 ((al3.length : Nat) : Int)) (run_len Try.underlying45 _ rfl _ _ _ rfl _) ?_
          refine nr ?_; intro U h; simp only [z0, z1] at h; subst h
          obtain ⟨p8, hp8⟩ : ∃ p, decide (((al3.length : Nat) : Int) < 2000) = p := ⟨_, rfl⟩
          refine s_val 159 rfl rfl (.bool p8) (run_lssT 3 _ _ _ rfl ((al3.length : Nat) : Int) 2000 rfl rfl p8 hp8 _) ?_
          refine nr ?_; intro U h; simp only [z0, z1] at h; subst h
          cases p8
          · refine wpList_nil ?_
            refine then_n ?_
            refine wp_cond_false rfl ?_
            refine wp_skip ?_
            refine blk_n ?_
            refine then_n ?_
            refine wp_region_lit ?_
            refine s_val 169 rfl rfl (.int .i64 ((e3 + 1 : Nat) : Int)) (run_addI 3 _ _ _ rfl ((e3 : Nat) : Int) 1 ((e3 + 1 : Nat) : Int) rfl rfl (by omega) (by omega) (by omega) _) ?_
            refine nr ?_; intro U h; simp only [z0, z1] at h; subst h
            refine s_val 152 rfl rfl (.int .i64 ((e3 + 1 : Nat) : Int)) (rfl) ?_
            refine nr ?_; intro U h; simp only [z0, z1] at h; subst h
            refine wpList_nil ?_
            refine then_n ?_
            exact ⟨_, (by omega : rr.length - (e3 + 1) < rr.length - e3), e3 + 1, xo3, xc3, al3, (fun kz => ([.int .i64 ((e3 : Nat) : Int), .slice (some ⟨zr.1, 0, none⟩) zr.2.length zr.2.length, .bool true, .int .i64 ((e3 : Nat) : Int), .pointer (some ⟨gl, e3, none⟩), .slice (some ⟨zr.1, 0, none⟩) zr.2.length zr.2.length, .slice xo3 al3.length xc3, .int .i64 ((al3.length : Nat) : Int), .bool false, us2 9, us2 10, us2 11, us2 12, us2 13, us2 14, us2 15, us2 16, us2 17, .int .i64 ((e3 + 1 : Nat) : Int)] : List Value).getD kz undef), rfl, rfl, he3n, (by omega), GG, HS, HI, ⟨_, HL⟩⟩
          have h2000 : al3.length < 2000 := by have := of_decide_eq_true hp8; omega
          refine wpList_nil ?_
          refine then_n ?_
          refine wp_cond_true rfl ?_
          refine wp_region_lit ?_
          refine s_val 160 rfl rfl (.slice xo3 al3.length xc3) (rfl) ?_
          refine nr ?_; intro U h; simp only [z0, z1] at h; subst h
          refine s_val 161 rfl rfl (.int .i64 ((k + 1 : Nat) : Int)) (rfl) ?_
          refine nr ?_; intro U h; simp only [z0, z1] at h; subst h
          refine s_val 162 rfl rfl (.int .i64 ((e3 : Nat) : Int)) (rfl) ?_
          refine nr ?_; intro U h; simp only [z0, z1] at h; subst h
          refine s_val 163 rfl rfl (.int .i64 ((k + 1 + e3 : Nat) : Int)) (run_addI 2 _ _ _ rfl ((k + 1 : Nat) : Int) ((e3 : Nat) : Int) ((k + 1 + e3 : Nat) : Int) rfl rfl (by omega) (by omega) (by omega) _) ?_
          refine nr ?_; intro U h; simp only [z0, z1] at h; subst h
          refine s_val 164 rfl rfl (.slice (some ⟨zr.1, 0, none⟩) zr.2.length zr.2.length) (rfl) ?_
          refine nr ?_; intro U h; simp only [z0, z1] at h; subst h
          refine s_val 165 rfl rfl (.string (bas zr.2)) (run_text_op bT 9 Try.underlying9 _ rfl rfl (nc_all (HL.fr zr hzm).2.1 (HL.fr zr hzm).2.2)) ?_
          refine nr ?_; intro U h; simp only [z0, z1] at h; subst h
          refine s_val 166 rfl rfl (.agg (c51 ((k + 1 + e3 : Nat) : Int) (.string (bas zr.2)))) (run_bd 51 _ rfl [(0, .int .i64 ((k + 1 + e3 : Nat) : Int)), (1, .string (bas zr.2))] rfl _ (by kernel_rfl)) ?_
          refine nr ?_; intro U h; simp only [z0, z1] at h; subst h
          refine s_bsl 167 rfl rfl 45 1 _ rfl [(0, .agg (c51 ((k + 1 + e3 : Nat) : Int) (.string (bas zr.2))))] rfl #[.int .i64 ((k + 1 + e3 : Nat) : Int), .string (bas zr.2)] 51 (by kernel_rfl) ?_
          intro w8 gB167 G eB kgB
          clear eB
          replace HS := HS.gro G
          replace HL := HL.gro G
          replace GG := GG.trans G
          clear G
          refine nr ?_; intro U h; simp only [z0, z1] at h; subst h
          refine s_appY sdT 168 rfl rfl _ _ rfl rfl HS.al rfl (xc_two kgB rfl rfl) (by omega) (by decide) GG.size ?_
          intro xo1 xc1 w9 HX GX hkx
          have e1 : al3.length + 1 = (al3 ++ [sdp (k + 1 + e3) zr.2]).length := by simp
          replace HX : OY w9 51 2 w.heap.size xo1 xc1 (al3 ++ [sdp (k + 1 + e3) zr.2]).length ((al3 ++ [sdp (k + 1 + e3) zr.2]).flatMap sdV) := by rw [← e1, List.flatMap_append]; exact HX
          rw [e1]
          replace GG := GX.gro GG HS.al.base
          replace HL := HL.keep GX HS.al.ts (by rintro x rfl; decide)
          replace HS := HS.sal GX HX
          clear HX GX hkx kgB e1
          refine nr ?_; intro U h; simp only [z0, z1] at h; subst h
          replace HI := HI.said hql
          refine s_val 7 rfl rfl (.slice xo1 ((al3 ++ [sdp (k + 1 + e3) zr.2]).length) xc1) (rfl) ?_
          refine nr ?_; intro U h; simp only [z0, z1] at h; subst h
          refine wpList_nil ?_
          refine blk_n ?_
          refine then_n ?_
          refine wp_region_lit ?_
          refine s_val 169 rfl rfl (.int .i64 ((e3 + 1 : Nat) : Int)) (run_addI 3 _ _ _ rfl ((e3 : Nat) : Int) 1 ((e3 + 1 : Nat) : Int) rfl rfl (by omega) (by omega) (by omega) _) ?_
          refine nr ?_; intro U h; simp only [z0, z1] at h; subst h
          refine s_val 152 rfl rfl (.int .i64 ((e3 + 1 : Nat) : Int)) (rfl) ?_
          refine nr ?_; intro U h; simp only [z0, z1] at h; subst h
          refine wpList_nil ?_
          refine then_n ?_
          exact ⟨_, (by omega : rr.length - (e3 + 1) < rr.length - e3), e3 + 1, xo1, xc1, (al3 ++ [sdp (k + 1 + e3) zr.2]), (fun kz => ([.int .i64 ((e3 : Nat) : Int), .slice (some ⟨zr.1, 0, none⟩) zr.2.length zr.2.length, .bool true, .int .i64 ((e3 : Nat) : Int), .pointer (some ⟨gl, e3, none⟩), .slice (some ⟨zr.1, 0, none⟩) zr.2.length zr.2.length, .slice xo3 al3.length xc3, .int .i64 ((al3.length : Nat) : Int), .bool true, .slice xo3 al3.length xc3, .int .i64 ((k + 1 : Nat) : Int), .int .i64 ((e3 : Nat) : Int), .int .i64 ((k + 1 + e3 : Nat) : Int), .slice (some ⟨zr.1, 0, none⟩) zr.2.length zr.2.length, .string (bas zr.2), .agg (c51 ((k + 1 + e3 : Nat) : Int) (.string (bas zr.2))), .slice (some ⟨gB167, 0, none⟩) 1 1, .slice xo1 ((al3 ++ [sdp (k + 1 + e3) zr.2]).length) xc1, .int .i64 ((e3 + 1 : Nat) : Int)] : List Value).getD kz undef), rfl, rfl, he3n, (by rw [List.length_append]; simp only [List.length_cons, List.length_nil]; omega), GG, HS, HI, ⟨_, HL⟩⟩
        have hpos := HI.h8
        obtain ⟨ix, hix⟩ : ∃ ix, uN yq.2 % ac.length = ix := ⟨_, rfl⟩
        have hixl : ix < ac.length := by rw [← hix]; exact Nat.mod_lt _ hpos
        obtain ⟨an, han⟩ : ∃ x, ac[ix]? = some x := ⟨_, List.getElem?_eq_getElem hixl⟩
        have hanc := HI.h7 an (List.mem_of_getElem? han)
        obtain ⟨adk, hko, hkc⟩ := HS.ac.elem (j := ix) (v := inV an) (by rw [List.getElem?_map, han]; rfl)
        refine s_val 128 rfl rfl (.bool true) (rfl) ?_
        refine nr ?_; intro U h; simp only [z0, z1] at h; subst h
        refine wpList_nil ?_
        refine then_n ?_
        refine wp_cond_true rfl ?_
        refine wp_region_lit ?_
        refine s_val 130 rfl rfl (.pointer (some ⟨pa, 0, none⟩)) (rfl) ?_
        refine nr ?_; intro U h; simp only [z0, z1] at h; subst h
        refine s_val 131 rfl rfl (.slice ko ac.length kc) (rfl) ?_
        refine nr ?_; intro U h; simp only [z0, z1] at h; subst h
        refine s_val 132 rfl rfl (.pointer (some ⟨g1, 1, none⟩)) (run_fld 49 _ 1 rfl _ _ rfl _ (by kernel_rfl)) ?_
        refine nr ?_; intro U h; simp only [z0, z1] at h; subst h
        refine s_val 133 rfl rfl (.int .i64 yq.2) (run_ldc 3 _ rfl g1 1 rfl 49 _ kg1 (na3 _) _ rfl) ?_
        refine nr ?_; intro U h; simp only [z0, z1] at h; subst h
        refine s_val 134 rfl rfl (.int .u64 ((uN yq.2 : Nat) : Int)) (conv345 _ rfl yq.2 rfl _) ?_
        refine nr ?_; intro U h; simp only [z0, z1] at h; subst h
        refine s_val 135 rfl rfl (.slice ko ac.length kc) (rfl) ?_
        refine nr ?_; intro U h; simp only [z0, z1] at h; subst h
        refine s_val 136 rfl rfl (.int .i64 ((ac.length : Nat) : Int)) (run_len Try.underlying46 _ rfl _ _ _ rfl _) ?_
        refine nr ?_; intro U h; simp only [z0, z1] at h; subst h
        refine s_val 137 rfl rfl (.int .u64 ((ac.length : Nat) : Int)) (conv345n _ rfl ac.length (by omega) rfl _) ?_
        refine nr ?_; intro U h; simp only [z0, z1] at h; subst h
        refine s_val 138 rfl rfl (.int .u64 ((ix : Nat) : Int)) ((run_remN 52 52 _ _ rfl (uN yq.2) ac.length rfl rfl (by omega) _).trans (by rw [hix])) ?_
        refine nr ?_; intro U h; simp only [z0, z1] at h; subst h
        refine s_val 139 rfl rfl (.int .i64 ((ix : Nat) : Int)) (conv453 _ rfl ix (by omega) rfl _) ?_
        refine nr ?_; intro U h; simp only [z0, z1] at h; subst h
        refine s_val 140 rfl rfl (.pointer (some (adk.add ix))) (run_idx46 _ _ rfl adk ac.length kc ix (by exact congrArg (fun a => Value.slice a ac.length kc) hko) rfl hixl _) ?_
        refine nr ?_; intro U h; simp only [z0, z1] at h; subst h
        refine s_val 141 rfl rfl (.int .i64 ((an : Nat) : Int)) (run_ld2 _ rfl _ rfl _ hkc) ?_
        refine nr ?_; intro U h; simp only [z0, z1] at h; subst h
        rcases (show an ≤ k ∨ ∃ m : Nat, an = k + m ∧ 1 ≤ m ∧ m ≤ q.length by
          by_cases h : an ≤ k
          · exact .inl h
          · exact .inr ⟨an - k, by omega, by omega, by omega⟩) with h3 | ⟨m, h3, hm1, hm2⟩
        · refine s_callv 142 rfl rfl _ 11 Try.call11 rfl rfl _ rfl [.pointer (some ⟨pa, 0, none⟩), .int .i64 ((an : Nat) : Int)] rfl (acked_low _ pa w.heap.size ro rc q k 0 HS.a (by omega) (by omega) ((an : Nat) : Int) (by omega)) ?_
          intro w7 G
          replace kg1 := G.has kg1
          replace HS := HS.gro G
          replace GG := GG.trans G
          clear G
          refine nr ?_; intro U h; simp only [z0, z1] at h; subst h
          refine wpList_nil ?_
          refine blk_n ?_
          refine blk_n ?_
          refine then_n ?_
          refine wp_region_lit ?_
          refine s_val 170 rfl rfl (.int .i64 ((j + 1 : Nat) : Int)) (run_addI 3 _ _ _ rfl ((j : Nat) : Int) 1 ((j + 1 : Nat) : Int) rfl rfl (by omega) (by omega) (by omega) _) ?_
          refine nr ?_; intro U h; simp only [z0, z1] at h; subst h
          refine s_val 40 rfl rfl (.int .i64 ((j + 1 : Nat) : Int)) (rfl) ?_
          refine nr ?_; intro U h; simp only [z0, z1] at h; subst h
          refine wpList_nil ?_
          refine then_n ?_
          exact ⟨_, (by omega : ys.length - (j + 1) < ys.length - j), j + 1, ro, rc, q, k, c, xo, xc, al, ko, kc, ac, so, sc, se, go, gc, gt, (fun kz => ([us1 0, .int .i64 ((j : Nat) : Int), .pointer (some ⟨g1, 0, none⟩), us1 3, us1 4, us1 5, us1 6, us1 7, us1 8, us1 9, us1 10, .bool true, .int .i64 ((j : Nat) : Int), .pointer (some (ady.add (j * 2))), .agg (c49 yq.1 yq.2), .int .i64 ((j : Nat) : Int), .bool false, .pointer (some ⟨g1, 0, none⟩), .int .i64 yq.1, us1 19, us1 20, us1 21, us1 22, us1 23, .bool false, .bool false, us1 26, us1 27, us1 28, us1 29, us1 30, us1 31, us1 32, us1 33, us1 34, us1 35, us1 36, us1 37, us1 38, us1 39, us1 40, us1 41, us1 42, us1 43, us1 44, us1 45, us1 46, us1 47, us1 48, us1 49, us1 50, us1 51, us1 52, us1 53, us1 54, us1 55, us1 56, us1 57, us1 58, us1 59, us1 60, us1 61, us1 62, us1 63, us1 64, us1 65, us1 66, us1 67, .bool false, .bool false, us1 70, us1 71, us1 72, us1 73, us1 74, us1 75, us1 76, us1 77, us1 78, us1 79, us1 80, us1 81, us1 82, us1 83, us1 84, us1 85, us1 86, us1 87, us1 88, us1 89, us1 90, us1 91, us1 92, us1 93, us1 94, us1 95, us1 96, us1 97, .bool true, .bool true, .pointer (some ⟨pa, 0, none⟩), .slice ko ac.length kc, .pointer (some ⟨g1, 1, none⟩), .int .i64 yq.2, .int .u64 ((uN yq.2 : Nat) : Int), .slice ko ac.length kc, .int .i64 ((ac.length : Nat) : Int), .int .u64 ((ac.length : Nat) : Int), .int .u64 ((ix : Nat) : Int), .int .i64 ((ix : Nat) : Int), .pointer (some (adk.add ix)), .int .i64 ((an : Nat) : Int), .int .i64 0, us1 113, us1 114, us1 115, us1 116, us1 117, us1 118, us1 119, us1 120, us1 121, us1 122, us1 123, us1 124, us1 125, us1 126, us1 127, us1 128, us1 129, us1 130, us1 131, us1 132, us1 133, us1 134, us1 135, us1 136, us1 137, us1 138, us1 139, .int .i64 ((j + 1 : Nat) : Int)] : List Value).getD kz undef), rfl, rfl, hjn, (by omega), (by omega), (by omega), (by omega), GG, HS, HI⟩
        refine s_callx 142 rfl rfl _ 11 Try.call11 rfl rfl _ rfl [.pointer (some ⟨pa, 0, none⟩), .int .i64 ((an : Nat) : Int)] rfl (acked_ok _ pa w.heap.size ro rc q k 0 HS.a (by omega) (by omega) ((an : Nat) : Int) m hm1 hm2 (by omega)) (fun _ _ ⟨_, _, he, _⟩ => ⟨_, he⟩) ?_
        rintro v w7 ⟨ro2, rc2, he, G, HP2, hkp⟩
        cases he
        replace kg1 := G.has kg1 (HS.a.nots1 kg1 (by decide) (by decide))
        replace GG := G.gro GG HS.a.sb
        replace HS := HS.send G HP2
        clear G HP2 hkp
        replace HI := HI.acked hm2 (by omega)
        refine nr ?_; intro U h; simp only [z0, z1] at h; subst h
        refine wpList_nil ?_
        refine blk_n ?_
        refine blk_n ?_
        refine then_n ?_
        refine wp_region_lit ?_
        refine s_val 170 rfl rfl (.int .i64 ((j + 1 : Nat) : Int)) (run_addI 3 _ _ _ rfl ((j : Nat) : Int) 1 ((j + 1 : Nat) : Int) rfl rfl (by omega) (by omega) (by omega) _) ?_
        refine nr ?_; intro U h; simp only [z0, z1] at h; subst h
        refine s_val 40 rfl rfl (.int .i64 ((j + 1 : Nat) : Int)) (rfl) ?_
        refine nr ?_; intro U h; simp only [z0, z1] at h; subst h
        refine wpList_nil ?_
        refine then_n ?_
        exact ⟨_, (by omega : ys.length - (j + 1) < ys.length - j), j + 1, ro2, rc2, (q.drop m), (k + m), c, xo, xc, al, ko, kc, ac, so, sc, se, go, gc, gt, (fun kz => ([us1 0, .int .i64 ((j : Nat) : Int), .pointer (some ⟨g1, 0, none⟩), us1 3, us1 4, us1 5, us1 6, us1 7, us1 8, us1 9, us1 10, .bool true, .int .i64 ((j : Nat) : Int), .pointer (some (ady.add (j * 2))), .agg (c49 yq.1 yq.2), .int .i64 ((j : Nat) : Int), .bool false, .pointer (some ⟨g1, 0, none⟩), .int .i64 yq.1, us1 19, us1 20, us1 21, us1 22, us1 23, .bool false, .bool false, us1 26, us1 27, us1 28, us1 29, us1 30, us1 31, us1 32, us1 33, us1 34, us1 35, us1 36, us1 37, us1 38, us1 39, us1 40, us1 41, us1 42, us1 43, us1 44, us1 45, us1 46, us1 47, us1 48, us1 49, us1 50, us1 51, us1 52, us1 53, us1 54, us1 55, us1 56, us1 57, us1 58, us1 59, us1 60, us1 61, us1 62, us1 63, us1 64, us1 65, us1 66, us1 67, .bool false, .bool false, us1 70, us1 71, us1 72, us1 73, us1 74, us1 75, us1 76, us1 77, us1 78, us1 79, us1 80, us1 81, us1 82, us1 83, us1 84, us1 85, us1 86, us1 87, us1 88, us1 89, us1 90, us1 91, us1 92, us1 93, us1 94, us1 95, us1 96, us1 97, .bool true, .bool true, .pointer (some ⟨pa, 0, none⟩), .slice ko ac.length kc, .pointer (some ⟨g1, 1, none⟩), .int .i64 yq.2, .int .u64 ((uN yq.2 : Nat) : Int), .slice ko ac.length kc, .int .i64 ((ac.length : Nat) : Int), .int .u64 ((ac.length : Nat) : Int), .int .u64 ((ix : Nat) : Int), .int .i64 ((ix : Nat) : Int), .pointer (some (adk.add ix)), .int .i64 ((an : Nat) : Int), .int .i64 ((m : Nat) : Int), us1 113, us1 114, us1 115, us1 116, us1 117, us1 118, us1 119, us1 120, us1 121, us1 122, us1 123, us1 124, us1 125, us1 126, us1 127, us1 128, us1 129, us1 130, us1 131, us1 132, us1 133, us1 134, us1 135, us1 136, us1 137, us1 138, us1 139, .int .i64 ((j + 1 : Nat) : Int)] : List Value).getD kz undef), rfl, rfl, hjn, (by omega), (by omega), (by omega), (by omega), GG, HS, HI⟩
      refine s_val 98 rfl rfl (.bool true) (rfl) ?_
      refine nr ?_; intro U h; simp only [z0, z1] at h; subst h
      refine wpList_nil ?_
      refine then_n ?_
      refine wp_cond_true rfl ?_
      refine wp_seq ?_
      refine wp_region_lit ?_
      refine s_val 100 rfl rfl (.slice xo al.length xc) (rfl) ?_
      refine nr ?_; intro U h; simp only [z0, z1] at h; subst h
      refine s_val 101 rfl rfl (.int .i64 ((al.length : Nat) : Int)) (run_len Try.underlying45 _ rfl _ _ _ rfl _) ?_
      refine nr ?_; intro U h; simp only [z0, z1] at h; subst h
      obtain ⟨p5, hp5⟩ : ∃ p, decide (0 < ((al.length : Nat) : Int)) = p := ⟨_, rfl⟩
      refine s_val 102 rfl rfl (.bool p5) (run_gtrT 3 _ _ _ rfl ((al.length : Nat) : Int) 0 rfl rfl p5 hp5 _) ?_
      refine nr ?_; intro U h; simp only [z0, z1] at h; subst h
      cases p5
      · refine wpList_nil ?_
        refine then_n ?_
        refine wp_cond_false rfl ?_
        refine wp_skip ?_
        refine blk_n ?_
        refine blk_n ?_
        refine then_n ?_
        refine wp_region_lit ?_
        refine s_val 170 rfl rfl (.int .i64 ((j + 1 : Nat) : Int)) (run_addI 3 _ _ _ rfl ((j : Nat) : Int) 1 ((j + 1 : Nat) : Int) rfl rfl (by omega) (by omega) (by omega) _) ?_
        refine nr ?_; intro U h; simp only [z0, z1] at h; subst h
        refine s_val 40 rfl rfl (.int .i64 ((j + 1 : Nat) : Int)) (rfl) ?_
        refine nr ?_; intro U h; simp only [z0, z1] at h; subst h
        refine wpList_nil ?_
        refine then_n ?_
        exact ⟨_, (by omega : ys.length - (j + 1) < ys.length - j), j + 1, ro, rc, q, k, c, xo, xc, al, ko, kc, ac, so, sc, se, go, gc, gt, (fun kz => ([us1 0, .int .i64 ((j : Nat) : Int), .pointer (some ⟨g1, 0, none⟩), us1 3, us1 4, us1 5, us1 6, us1 7, us1 8, us1 9, us1 10, .bool true, .int .i64 ((j : Nat) : Int), .pointer (some (ady.add (j * 2))), .agg (c49 yq.1 yq.2), .int .i64 ((j : Nat) : Int), .bool false, .pointer (some ⟨g1, 0, none⟩), .int .i64 yq.1, us1 19, us1 20, us1 21, us1 22, us1 23, .bool false, .bool false, us1 26, us1 27, us1 28, us1 29, us1 30, us1 31, us1 32, us1 33, us1 34, us1 35, us1 36, us1 37, us1 38, us1 39, us1 40, us1 41, us1 42, us1 43, us1 44, us1 45, us1 46, us1 47, us1 48, us1 49, us1 50, us1 51, us1 52, us1 53, us1 54, us1 55, us1 56, us1 57, us1 58, us1 59, us1 60, us1 61, us1 62, us1 63, us1 64, us1 65, us1 66, us1 67, .bool true, .bool true, .slice xo al.length xc, .int .i64 ((al.length : Nat) : Int), .bool false, us1 73, us1 74, us1 75, us1 76, us1 77, us1 78, us1 79, us1 80, us1 81, us1 82, us1 83, us1 84, us1 85, us1 86, us1 87, us1 88, us1 89, us1 90, us1 91, us1 92, us1 93, us1 94, us1 95, us1 96, us1 97, us1 98, us1 99, us1 100, us1 101, us1 102, us1 103, us1 104, us1 105, us1 106, us1 107, us1 108, us1 109, us1 110, us1 111, us1 112, us1 113, us1 114, us1 115, us1 116, us1 117, us1 118, us1 119, us1 120, us1 121, us1 122, us1 123, us1 124, us1 125, us1 126, us1 127, us1 128, us1 129, us1 130, us1 131, us1 132, us1 133, us1 134, us1 135, us1 136, us1 137, us1 138, us1 139, .int .i64 ((j + 1 : Nat) : Int)] : List Value).getD kz undef), rfl, rfl, hjn, (by omega), (by omega), (by omega), (by omega), GG, HS, HI⟩
      have hpos : 0 < al.length := by have := of_decide_eq_true hp5; omega
      obtain ⟨ix, hix⟩ : ∃ ix, uN yq.2 % al.length = ix := ⟨_, rfl⟩
      have hixl : ix < al.length := by rw [← hix]; exact Nat.mod_lt _ hpos
      obtain ⟨sd, hsd⟩ : ∃ x, al[ix]? = some x := ⟨_, List.getElem?_eq_getElem hixl⟩
      have hsm := List.mem_of_getElem? hsd
      obtain ⟨adx, hxo⟩ := HS.al.xc.some hpos
      refine wpList_nil ?_
      refine then_n ?_
      refine wp_cond_true rfl ?_
      refine wp_seq ?_
      refine wp_region_lit ?_
      refine s_val 103 rfl rfl (.slice xo al.length xc) (rfl) ?_
      refine nr ?_; intro U h; simp only [z0, z1] at h; subst h
      refine s_val 104 rfl rfl (.pointer (some ⟨g1, 1, none⟩)) (run_fld 49 _ 1 rfl _ _ rfl _ (by kernel_rfl)) ?_
      refine nr ?_; intro U h; simp only [z0, z1] at h; subst h
      refine s_val 105 rfl rfl (.int .i64 yq.2) (run_ldc 3 _ rfl g1 1 rfl 49 _ kg1 (na3 _) _ rfl) ?_
      refine nr ?_; intro U h; simp only [z0, z1] at h; subst h
      refine s_val 106 rfl rfl (.int .u64 ((uN yq.2 : Nat) : Int)) (conv345 _ rfl yq.2 rfl _) ?_
      refine nr ?_; intro U h; simp only [z0, z1] at h; subst h
      refine s_val 107 rfl rfl (.slice xo al.length xc) (rfl) ?_
      refine nr ?_; intro U h; simp only [z0, z1] at h; subst h
      refine s_val 108 rfl rfl (.int .i64 ((al.length : Nat) : Int)) (run_len Try.underlying45 _ rfl _ _ _ rfl _) ?_
      refine nr ?_; intro U h; simp only [z0, z1] at h; subst h
      refine s_val 109 rfl rfl (.int .u64 ((al.length : Nat) : Int)) (conv345n _ rfl al.length (by omega) rfl _) ?_
      refine nr ?_; intro U h; simp only [z0, z1] at h; subst h
      refine s_val 110 rfl rfl (.int .u64 ((ix : Nat) : Int)) ((run_remN 52 52 _ _ rfl (uN yq.2) al.length rfl rfl (by omega) _).trans (by rw [hix])) ?_
      refine nr ?_; intro U h; simp only [z0, z1] at h; subst h
      refine s_val 111 rfl rfl (.int .i64 ((ix : Nat) : Int)) (conv453 _ rfl ix (by omega) rfl _) ?_
      refine nr ?_; intro U h; simp only [z0, z1] at h; subst h
      refine s_val 112 rfl rfl (.pointer (some (adx.add (ix * 2)))) (run_idxX sdT _ _ rfl adx al.length xc ix (by exact congrArg (fun a => Value.slice a al.length xc) hxo) rfl hixl _) ?_
      refine nr ?_; intro U h; simp only [z0, z1] at h; subst h
      refine s_val 113 rfl rfl (.agg (c51 ((sd.1 : Nat) : Int) (.string (bas sd.2)))) (ld_said _ rfl adx ix rfl (by rw [← hxo]; exact HS.al.xc) sd hsd) ?_
      refine nr ?_; intro U h; simp only [z0, z1] at h; subst h
      refine s_alloc 16 rfl rfl 51 rfl _ zv51 _ rfl ?_
      intro w7 g2 GX eg2 kg2
      have bg2 := size_base GG eg2
      have dg1g2 := lt_new kg1 eg2
      replace kg1 := GX.has kg1
      replace GG := GG.trans GX
      refine nr ?_; intro U h; simp only [z0, z1] at h; subst h
      refine s_store rfl rfl 51 _ _ rfl g2 0 rfl (.agg (c51 ((sd.1 : Nat) : Int) (.string (bas sd.2)))) rfl 51 _ kg2 (c51 ((sd.1 : Nat) : Int) (.string (bas sd.2))) rfl (by kernel_rfl) (Nat.le_of_ble_eq_true rfl) (by kernel_rfl) (c51 ((sd.1 : Nat) : Int) (.string (bas sd.2))) (by kernel_rfl) ?_
      intro w8 St
      replace kg1 := St.has (by omega) kg1
      replace GX := GX.store St (Nat.le_of_eq eg2)
      replace GG := GG.store St bg2
      replace kg2 := St.new
      replace HS := HS.gro GX
      clear St GX
      refine wpList_nil ?_
      refine then_n ?_
      refine wp_seq ?_
      refine wp_seq ?_
      refine wp_region_lit ?_
      refine s_val 114 rfl rfl (.pointer (some ⟨pb, 0, none⟩)) (rfl) ?_
      refine nr ?_; intro U h; simp only [z0, z1] at h; subst h
      refine s_val 115 rfl rfl (.pointer (some ⟨g2, 0, none⟩)) (run_fld 51 _ 0 rfl _ _ rfl _ (by kernel_rfl)) ?_
      refine nr ?_; intro U h; simp only [z0, z1] at h; subst h
      refine s_val 116 rfl rfl (.int .i64 ((sd.1 : Nat) : Int)) (run_ldc 2 _ rfl g2 0 rfl 51 _ kg2 (na2 _) _ rfl) ?_
      refine nr ?_; intro U h; simp only [z0, z1] at h; subst h
      by_cases hn : sd.1 = c + 1
      · refine s_callx 117 rfl rfl _ 13 Try.call13 rfl rfl _ rfl [.pointer (some ⟨pb, 0, none⟩), .int .i64 ((sd.1 : Nat) : Int)] rfl (came_ok _ pb w.heap.size none 0 [] 0 c HS.b (by simp) (by omega) ((sd.1 : Nat) : Int) (by omega)) (fun _ _ ⟨he, _⟩ => ⟨_, he⟩) ?_
        rintro v w9 ⟨he, G, HP2⟩
        cases he
        replace kg1 := G.has kg1 (fun h => ne_type kg1 HS.b.box (by decide) (List.mem_singleton.1 h))
        replace kg2 := G.has kg2 (fun h => ne_type kg2 HS.b.box (by decide) (List.mem_singleton.1 h))
        replace GG := G.gro GG (by simpa using bpb)
        replace HS := HS.came G HP2
        clear G HP2
        refine nr ?_; intro U h; simp only [z0, z1] at h; subst h
        refine wpList_nil ?_
        refine then_n ?_
        refine wp_cond_true rfl ?_
        refine wp_region_lit ?_
        refine s_val 118 rfl rfl (.slice go gt.length gc) (rfl) ?_
        refine nr ?_; intro U h; simp only [z0, z1] at h; subst h
        refine s_val 119 rfl rfl (.pointer (some ⟨g2, 1, none⟩)) (run_fld 51 _ 1 rfl _ _ rfl _ (by kernel_rfl)) ?_
        refine nr ?_; intro U h; simp only [z0, z1] at h; subst h
        refine s_val 120 rfl rfl ((.string (bas sd.2))) (run_ldc 9 _ rfl g2 1 rfl 51 _ kg2 (na9 _) _ rfl) ?_
        refine nr ?_; intro U h; simp only [z0, z1] at h; subst h
        refine s_bsl 121 rfl rfl 47 1 _ rfl [(0, .string (bas sd.2))] rfl #[.string (bas sd.2)] 9 (by kernel_rfl) ?_
        intro w10 gB121 G eB kgB
        clear eB
        replace kg1 := G.has kg1
        replace kg2 := G.has kg2
        replace HS := HS.gro G
        replace GG := GG.trans G
        clear G
        refine nr ?_; intro U h; simp only [z0, z1] at h; subst h
        refine s_appY stT 122 rfl rfl _ _ rfl rfl HS.gt rfl (xc_one kgB rfl) (by have := HI.glen; omega) (by decide) GG.size ?_
        intro go1 gc1 w11 HX GX hkx
        have e1 : gt.length + 1 = (gt ++ [sd.2]).length := by simp
        replace HX : OY w11 9 1 w.heap.size go1 gc1 (gt ++ [sd.2]).length ((gt ++ [sd.2]).map stV) := by rw [← e1, List.map_append]; exact HX
        rw [e1]
        replace GG := GX.gro GG HS.gt.base
        replace kg1 := GX.has kg1 (HS.gt.ne kg1 (by decide))
        replace kg2 := GX.has kg2 (HS.gt.ne kg2 (by decide))
        replace HS := HS.sgt GX HX hkx
        clear HX GX hkx kgB e1
        refine nr ?_; intro U h; simp only [z0, z1] at h; subst h
        replace HI := HI.came hsm hn
        refine s_val 10 rfl rfl (.slice go1 ((gt ++ [sd.2]).length) gc1) (rfl) ?_
        refine nr ?_; intro U h; simp only [z0, z1] at h; subst h
        refine wpList_nil ?_
        refine then_n ?_
        refine wp_region_lit ?_
        refine s_val 123 rfl rfl (.slice ko ac.length kc) (rfl) ?_
        refine nr ?_; intro U h; simp only [z0, z1] at h; subst h
        refine s_val 124 rfl rfl (.pointer (some ⟨pb, 0, none⟩)) (rfl) ?_
        refine nr ?_; intro U h; simp only [z0, z1] at h; subst h
        refine s_callv 125 rfl rfl _ 18 Try.call18 rfl rfl _ rfl [.pointer (some ⟨pb, 0, none⟩)] rfl (got_any _ pb w.heap.size none 0 [] 0 (c + 1) HS.b (by simp) (by omega)) ?_
        intro w12 G
        replace kg1 := G.has kg1
        replace kg2 := G.has kg2
        replace HS := HS.gro G
        replace GG := GG.trans G
        clear G
        refine nr ?_; intro U h; simp only [z0, z1] at h; subst h
        refine s_bsl 126 rfl rfl 46 1 _ rfl [(0, .int .i64 (((c + 1) : Nat) : Int))] rfl #[.int .i64 (((c + 1) : Nat) : Int)] 2 (by kernel_rfl) ?_
        intro w13 gB126 G eB kgB
        clear eB
        replace kg1 := G.has kg1
        replace kg2 := G.has kg2
        replace HS := HS.gro G
        replace GG := GG.trans G
        clear G
        refine nr ?_; intro U h; simp only [z0, z1] at h; subst h
        refine s_appY i64T 127 rfl rfl _ _ rfl rfl HS.ac rfl (xc_one kgB rfl) (by omega) (by decide) GG.size ?_
        intro ko2 kc2 w14 HX GX hkx
        have e1 : ac.length + 1 = (ac ++ [(c + 1)]).length := by simp
        replace HX : OY w14 2 1 w.heap.size ko2 kc2 (ac ++ [(c + 1)]).length ((ac ++ [(c + 1)]).map inV) := by rw [← e1, List.map_append]; exact HX
        rw [e1]
        replace GG := GX.gro GG HS.ac.base
        replace kg1 := GX.has kg1 (HS.ac.ne kg1 (by decide))
        replace kg2 := GX.has kg2 (HS.ac.ne kg2 (by decide))
        replace HS := HS.sac GX HX
        clear HX GX hkx kgB e1
        refine nr ?_; intro U h; simp only [z0, z1] at h; subst h
        replace HI := HI.ack
        refine s_val 8 rfl rfl (.slice ko2 ((ac ++ [(c + 1)]).length) kc2) (rfl) ?_
        refine nr ?_; intro U h; simp only [z0, z1] at h; subst h
        refine wpList_nil ?_
        refine blk_n ?_
        refine blk_n ?_
        refine then_n ?_
        refine wp_region_lit ?_
        refine s_val 170 rfl rfl (.int .i64 ((j + 1 : Nat) : Int)) (run_addI 3 _ _ _ rfl ((j : Nat) : Int) 1 ((j + 1 : Nat) : Int) rfl rfl (by omega) (by omega) (by omega) _) ?_
        refine nr ?_; intro U h; simp only [z0, z1] at h; subst h
        refine s_val 40 rfl rfl (.int .i64 ((j + 1 : Nat) : Int)) (rfl) ?_
        refine nr ?_; intro U h; simp only [z0, z1] at h; subst h
        refine wpList_nil ?_
        refine then_n ?_
        exact ⟨_, (by omega : ys.length - (j + 1) < ys.length - j), j + 1, ro, rc, q, k, (c + 1), xo, xc, al, ko2, kc2, (ac ++ [(c + 1)]), so, sc, se, go1, gc1, (gt ++ [sd.2]), (fun kz => ([us1 0, .int .i64 ((j : Nat) : Int), .pointer (some ⟨g1, 0, none⟩), us1 3, us1 4, us1 5, .pointer (some ⟨g2, 0, none⟩), us1 7, us1 8, us1 9, us1 10, .bool true, .int .i64 ((j : Nat) : Int), .pointer (some (ady.add (j * 2))), .agg (c49 yq.1 yq.2), .int .i64 ((j : Nat) : Int), .bool false, .pointer (some ⟨g1, 0, none⟩), .int .i64 yq.1, us1 19, us1 20, us1 21, us1 22, us1 23, .bool false, .bool false, us1 26, us1 27, us1 28, us1 29, us1 30, us1 31, us1 32, us1 33, us1 34, us1 35, us1 36, us1 37, us1 38, us1 39, us1 40, us1 41, us1 42, us1 43, us1 44, us1 45, us1 46, us1 47, us1 48, us1 49, us1 50, us1 51, us1 52, us1 53, us1 54, us1 55, us1 56, us1 57, us1 58, us1 59, us1 60, us1 61, us1 62, us1 63, us1 64, us1 65, us1 66, us1 67, .bool true, .bool true, .slice xo al.length xc, .int .i64 ((al.length : Nat) : Int), .bool true, .slice xo al.length xc, .pointer (some ⟨g1, 1, none⟩), .int .i64 yq.2, .int .u64 ((uN yq.2 : Nat) : Int), .slice xo al.length xc, .int .i64 ((al.length : Nat) : Int), .int .u64 ((al.length : Nat) : Int), .int .u64 ((ix : Nat) : Int), .int .i64 ((ix : Nat) : Int), .pointer (some (adx.add (ix * 2))), .agg (c51 ((sd.1 : Nat) : Int) (.string (bas sd.2))), .pointer (some ⟨pb, 0, none⟩), .pointer (some ⟨g2, 0, none⟩), .int .i64 ((sd.1 : Nat) : Int), .bool true, .slice go gt.length gc, .pointer (some ⟨g2, 1, none⟩), (.string (bas sd.2)), .slice (some ⟨gB121, 0, none⟩) 1 1, .slice go1 ((gt ++ [sd.2]).length) gc1, .slice ko ac.length kc, .pointer (some ⟨pb, 0, none⟩), .int .i64 (((c + 1) : Nat) : Int), .slice (some ⟨gB126, 0, none⟩) 1 1, .slice ko2 ((ac ++ [(c + 1)]).length) kc2, us1 98, us1 99, us1 100, us1 101, us1 102, us1 103, us1 104, us1 105, us1 106, us1 107, us1 108, us1 109, us1 110, us1 111, us1 112, us1 113, us1 114, us1 115, us1 116, us1 117, us1 118, us1 119, us1 120, us1 121, us1 122, us1 123, us1 124, us1 125, us1 126, us1 127, us1 128, us1 129, us1 130, us1 131, us1 132, us1 133, us1 134, us1 135, us1 136, us1 137, us1 138, us1 139, .int .i64 ((j + 1 : Nat) : Int)] : List Value).getD kz undef), rfl, rfl, hjn, (by omega), (by omega), (by omega), (by rw [List.length_append]; simp only [List.length_cons, List.length_nil]; omega), GG, HS, HI⟩
      refine s_callv 117 rfl rfl _ 13 Try.call13 rfl rfl _ rfl [.pointer (some ⟨pb, 0, none⟩), .int .i64 ((sd.1 : Nat) : Int)] rfl (came_no _ pb w.heap.size none 0 [] 0 c HS.b (by simp) (by omega) ((sd.1 : Nat) : Int) (by omega)) ?_
      intro w9 G
      replace kg1 := G.has kg1
      replace kg2 := G.has kg2
      replace HS := HS.gro G
      replace GG := GG.trans G
      clear G
      refine nr ?_; intro U h; simp only [z0, z1] at h; subst h
      refine wpList_nil ?_
      refine then_n ?_
      refine wp_cond_false rfl ?_
      refine wp_skip ?_
      refine then_n ?_
      refine wp_region_lit ?_
      refine s_val 123 rfl rfl (.slice ko ac.length kc) (rfl) ?_
      refine nr ?_; intro U h; simp only [z0, z1] at h; subst h
      refine s_val 124 rfl rfl (.pointer (some ⟨pb, 0, none⟩)) (rfl) ?_
      refine nr ?_; intro U h; simp only [z0, z1] at h; subst h
      refine s_callv 125 rfl rfl _ 18 Try.call18 rfl rfl _ rfl [.pointer (some ⟨pb, 0, none⟩)] rfl (got_any _ pb w.heap.size none 0 [] 0 c HS.b (by simp) (by omega)) ?_
      intro w10 G
      replace kg1 := G.has kg1
      replace kg2 := G.has kg2
      replace HS := HS.gro G
      replace GG := GG.trans G
      clear G
      refine nr ?_; intro U h; simp only [z0, z1] at h; subst h
      refine s_bsl 126 rfl rfl 46 1 _ rfl [(0, .int .i64 ((c : Nat) : Int))] rfl #[.int .i64 ((c : Nat) : Int)] 2 (by kernel_rfl) ?_
      intro w11 gB126 G eB kgB
      clear eB
      replace kg1 := G.has kg1
      replace kg2 := G.has kg2
      replace HS := HS.gro G
      replace GG := GG.trans G
      clear G
      refine nr ?_; intro U h; simp only [z0, z1] at h; subst h
      refine s_appY i64T 127 rfl rfl _ _ rfl rfl HS.ac rfl (xc_one kgB rfl) (by omega) (by decide) GG.size ?_
      intro ko1 kc1 w12 HX GX hkx
      have e1 : ac.length + 1 = (ac ++ [c]).length := by simp
      replace HX : OY w12 2 1 w.heap.size ko1 kc1 (ac ++ [c]).length ((ac ++ [c]).map inV) := by rw [← e1, List.map_append]; exact HX
      rw [e1]
      replace GG := GX.gro GG HS.ac.base
      replace kg1 := GX.has kg1 (HS.ac.ne kg1 (by decide))
      replace kg2 := GX.has kg2 (HS.ac.ne kg2 (by decide))
      replace HS := HS.sac GX HX
      clear HX GX hkx kgB e1
      refine nr ?_; intro U h; simp only [z0, z1] at h; subst h
      replace HI := HI.ack
      refine s_val 8 rfl rfl (.slice ko1 ((ac ++ [c]).length) kc1) (rfl) ?_
      refine nr ?_; intro U h; simp only [z0, z1] at h; subst h
      refine wpList_nil ?_
      refine blk_n ?_
      refine blk_n ?_
      refine then_n ?_
      refine wp_region_lit ?_
      refine s_val 170 rfl rfl (.int .i64 ((j + 1 : Nat) : Int)) (run_addI 3 _ _ _ rfl ((j : Nat) : Int) 1 ((j + 1 : Nat) : Int) rfl rfl (by omega) (by omega) (by omega) _) ?_
      refine nr ?_; intro U h; simp only [z0, z1] at h; subst h
      refine s_val 40 rfl rfl (.int .i64 ((j + 1 : Nat) : Int)) (rfl) ?_
      refine nr ?_; intro U h; simp only [z0, z1] at h; subst h
      refine wpList_nil ?_
      refine then_n ?_
      exact ⟨_, (by omega : ys.length - (j + 1) < ys.length - j), j + 1, ro, rc, q, k, c, xo, xc, al, ko1, kc1, (ac ++ [c]), so, sc, se, go, gc, gt, (fun kz => ([us1 0, .int .i64 ((j : Nat) : Int), .pointer (some ⟨g1, 0, none⟩), us1 3, us1 4, us1 5, .pointer (some ⟨g2, 0, none⟩), us1 7, us1 8, us1 9, us1 10, .bool true, .int .i64 ((j : Nat) : Int), .pointer (some (ady.add (j * 2))), .agg (c49 yq.1 yq.2), .int .i64 ((j : Nat) : Int), .bool false, .pointer (some ⟨g1, 0, none⟩), .int .i64 yq.1, us1 19, us1 20, us1 21, us1 22, us1 23, .bool false, .bool false, us1 26, us1 27, us1 28, us1 29, us1 30, us1 31, us1 32, us1 33, us1 34, us1 35, us1 36, us1 37, us1 38, us1 39, us1 40, us1 41, us1 42, us1 43, us1 44, us1 45, us1 46, us1 47, us1 48, us1 49, us1 50, us1 51, us1 52, us1 53, us1 54, us1 55, us1 56, us1 57, us1 58, us1 59, us1 60, us1 61, us1 62, us1 63, us1 64, us1 65, us1 66, us1 67, .bool true, .bool true, .slice xo al.length xc, .int .i64 ((al.length : Nat) : Int), .bool true, .slice xo al.length xc, .pointer (some ⟨g1, 1, none⟩), .int .i64 yq.2, .int .u64 ((uN yq.2 : Nat) : Int), .slice xo al.length xc, .int .i64 ((al.length : Nat) : Int), .int .u64 ((al.length : Nat) : Int), .int .u64 ((ix : Nat) : Int), .int .i64 ((ix : Nat) : Int), .pointer (some (adx.add (ix * 2))), .agg (c51 ((sd.1 : Nat) : Int) (.string (bas sd.2))), .pointer (some ⟨pb, 0, none⟩), .pointer (some ⟨g2, 0, none⟩), .int .i64 ((sd.1 : Nat) : Int), .bool false, us1 88, us1 89, us1 90, us1 91, us1 92, .slice ko ac.length kc, .pointer (some ⟨pb, 0, none⟩), .int .i64 ((c : Nat) : Int), .slice (some ⟨gB126, 0, none⟩) 1 1, .slice ko1 ((ac ++ [c]).length) kc1, us1 98, us1 99, us1 100, us1 101, us1 102, us1 103, us1 104, us1 105, us1 106, us1 107, us1 108, us1 109, us1 110, us1 111, us1 112, us1 113, us1 114, us1 115, us1 116, us1 117, us1 118, us1 119, us1 120, us1 121, us1 122, us1 123, us1 124, us1 125, us1 126, us1 127, us1 128, us1 129, us1 130, us1 131, us1 132, us1 133, us1 134, us1 135, us1 136, us1 137, us1 138, us1 139, .int .i64 ((j + 1 : Nat) : Int)] : List Value).getD kz undef), rfl, rfl, hjn, (by omega), (by omega), (by omega), (by rw [List.length_append]; simp only [List.length_cons, List.length_nil]; omega), GG, HS, HI⟩
    refine s_val 54 rfl rfl (.bool true) (rfl) ?_
    refine nr ?_; intro U h; simp only [z0, z1] at h; subst h
    refine wpList_nil ?_
    refine then_n ?_
    refine wp_cond_true rfl ?_
    refine wp_seq ?_
    refine wp_region_lit ?_
    refine s_val 56 rfl rfl (.slice so se.length sc) (rfl) ?_
    refine nr ?_; intro U h; simp only [z0, z1] at h; subst h
    refine s_val 57 rfl rfl (.int .i64 ((se.length : Nat) : Int)) (run_len Try.underlying47 _ rfl _ _ _ rfl _) ?_
    refine nr ?_; intro U h; simp only [z0, z1] at h; subst h
    refine s_val 58 rfl rfl (.slice to ls.length tc) (rfl) ?_
    refine nr ?_; intro U h; simp only [z0, z1] at h; subst h
    refine s_val 59 rfl rfl (.int .i64 ((ls.length : Nat) : Int)) (run_len Try.underlying26 _ rfl _ _ _ rfl _) ?_
    refine nr ?_; intro U h; simp only [z0, z1] at h; subst h
    obtain ⟨p4, hp4⟩ : ∃ p, decide (((se.length : Nat) : Int) < ((ls.length : Nat) : Int)) = p := ⟨_, rfl⟩
    refine s_val 60 rfl rfl (.bool p4) (run_lssT 3 _ _ _ rfl ((se.length : Nat) : Int) ((ls.length : Nat) : Int) rfl rfl p4 hp4 _) ?_
    refine nr ?_; intro U h; simp only [z0, z1] at h; subst h
    cases p4
    · refine wpList_nil ?_
      refine then_n ?_
      refine wp_cond_false rfl ?_
      refine wp_skip ?_
      refine blk_n ?_
      refine blk_n ?_
      refine then_n ?_
      refine wp_region_lit ?_
      refine s_val 170 rfl rfl (.int .i64 ((j + 1 : Nat) : Int)) (run_addI 3 _ _ _ rfl ((j : Nat) : Int) 1 ((j + 1 : Nat) : Int) rfl rfl (by omega) (by omega) (by omega) _) ?_
      refine nr ?_; intro U h; simp only [z0, z1] at h; subst h
      refine s_val 40 rfl rfl (.int .i64 ((j + 1 : Nat) : Int)) (rfl) ?_
      refine nr ?_; intro U h; simp only [z0, z1] at h; subst h
      refine wpList_nil ?_
      refine then_n ?_
      exact ⟨_, (by omega : ys.length - (j + 1) < ys.length - j), j + 1, ro, rc, q, k, c, xo, xc, al, ko, kc, ac, so, sc, se, go, gc, gt, (fun kz => ([us1 0, .int .i64 ((j : Nat) : Int), .pointer (some ⟨g1, 0, none⟩), us1 3, us1 4, us1 5, us1 6, us1 7, us1 8, us1 9, us1 10, .bool true, .int .i64 ((j : Nat) : Int), .pointer (some (ady.add (j * 2))), .agg (c49 yq.1 yq.2), .int .i64 ((j : Nat) : Int), .bool false, .pointer (some ⟨g1, 0, none⟩), .int .i64 yq.1, us1 19, us1 20, us1 21, us1 22, us1 23, .bool true, .bool true, .slice so se.length sc, .int .i64 ((se.length : Nat) : Int), .slice to ls.length tc, .int .i64 ((ls.length : Nat) : Int), .bool false, us1 31, us1 32, us1 33, us1 34, us1 35, us1 36, us1 37, us1 38, us1 39, us1 40, us1 41, us1 42, us1 43, us1 44, us1 45, us1 46, us1 47, us1 48, us1 49, us1 50, us1 51, us1 52, us1 53, us1 54, us1 55, us1 56, us1 57, us1 58, us1 59, us1 60, us1 61, us1 62, us1 63, us1 64, us1 65, us1 66, us1 67, us1 68, us1 69, us1 70, us1 71, us1 72, us1 73, us1 74, us1 75, us1 76, us1 77, us1 78, us1 79, us1 80, us1 81, us1 82, us1 83, us1 84, us1 85, us1 86, us1 87, us1 88, us1 89, us1 90, us1 91, us1 92, us1 93, us1 94, us1 95, us1 96, us1 97, us1 98, us1 99, us1 100, us1 101, us1 102, us1 103, us1 104, us1 105, us1 106, us1 107, us1 108, us1 109, us1 110, us1 111, us1 112, us1 113, us1 114, us1 115, us1 116, us1 117, us1 118, us1 119, us1 120, us1 121, us1 122, us1 123, us1 124, us1 125, us1 126, us1 127, us1 128, us1 129, us1 130, us1 131, us1 132, us1 133, us1 134, us1 135, us1 136, us1 137, us1 138, us1 139, .int .i64 ((j + 1 : Nat) : Int)] : List Value).getD kz undef), rfl, rfl, hjn, (by omega), (by omega), (by omega), (by omega), GG, HS, HI⟩
    have hlt : se.length < ls.length := by have := of_decide_eq_true hp4; omega
    obtain ⟨adt, ao3, cap3, hto, clA, ncA⟩ := HT.at hlt
    have hrl := hlens _ (getD_mem2 hlt)
    obtain ⟨lb, hlb⟩ : ∃ lb, (ls.getD se.length []).take (min (ls.getD se.length []).length 64) = lb := ⟨_, rfl⟩
    have hll : lb.length = min (ls.getD se.length []).length 64 := by rw [← hlb, List.length_take]; omega
    have ncl := ncA.take (min (ls.getD se.length []).length 64) (by omega)
    rw [hlb] at ncl
    clear hlb
    refine wpList_nil ?_
    refine then_n ?_
    refine wp_cond_true rfl ?_
    refine wp_seq ?_
    refine wp_region_lit ?_
    refine s_val 61 rfl rfl (.slice to ls.length tc) (rfl) ?_
    refine nr ?_; intro U h; simp only [z0, z1] at h; subst h
    refine s_val 62 rfl rfl (.slice so se.length sc) (rfl) ?_
    refine nr ?_; intro U h; simp only [z0, z1] at h; subst h
    refine s_val 63 rfl rfl (.int .i64 ((se.length : Nat) : Int)) (run_len Try.underlying47 _ rfl _ _ _ rfl _) ?_
    refine nr ?_; intro U h; simp only [z0, z1] at h; subst h
    refine s_val 64 rfl rfl (.pointer (some (adt.add se.length))) (run_idx23 _ _ rfl adt ls.length tc se.length (by exact congrArg (fun a => Value.slice a ls.length tc) hto) rfl hlt _) ?_
    refine nr ?_; intro U h; simp only [z0, z1] at h; subst h
    refine s_val 65 rfl rfl (.slice ao3 ((ls.getD se.length []).length) cap3) (run_ld24 _ rfl _ rfl _ _ (gro_cell GG clA)) ?_
    refine nr ?_; intro U h; simp only [z0, z1] at h; subst h
    refine s_val 13 rfl rfl (.slice ao3 ((ls.getD se.length []).length) cap3) (rfl) ?_
    refine nr ?_; intro U h; simp only [z0, z1] at h; subst h
    refine wpList_nil ?_
    refine then_n ?_
    refine wp_seq ?_
    refine wp_region_lit ?_
    refine s_val 66 rfl rfl (.slice ao3 ((ls.getD se.length []).length) cap3) (rfl) ?_
    refine nr ?_; intro U h; simp only [z0, z1] at h; subst h
    refine s_val 67 rfl rfl (.slice ao3 ((ls.getD se.length []).length) cap3) (rfl) ?_
    refine nr ?_; intro U h; simp only [z0, z1] at h; subst h
    refine s_val 68 rfl rfl (.int .i64 (((ls.getD se.length []).length : Nat) : Int)) (run_len Try.underlying30 _ rfl _ _ _ rfl _) ?_
    refine nr ?_; intro U h; simp only [z0, z1] at h; subst h
    refine s_val 69 rfl rfl (.int .i64 ((lb.length : Nat) : Int)) (run_min64 _ _ _ rfl (((ls.getD se.length []).length : Nat) : Int) 64 _ rfl rfl (by omega) _) ?_
    refine nr ?_; intro U h; simp only [z0, z1] at h; subst h
    refine s_val 70 rfl rfl (.slice ao3 lb.length cap3) (run_cut0 bT _ _ rfl ao3 (ls.getD se.length []).length cap3 lb.length rfl rfl (by have := ncA.fit; omega) _) ?_
    refine nr ?_; intro U h; simp only [z0, z1] at h; subst h
    refine s_val 13 rfl rfl (.slice ao3 lb.length cap3) (rfl) ?_
    refine nr ?_; intro U h; simp only [z0, z1] at h; subst h
    refine wpList_nil ?_
    refine then_n ?_
    refine wp_seq ?_
    refine wp_region_lit ?_
    refine s_val 72 rfl rfl (.pointer (some ⟨pa, 0, none⟩)) (rfl) ?_
    refine nr ?_; intro U h; simp only [z0, z1] at h; subst h
    refine s_val 73 rfl rfl (.slice ao3 lb.length cap3) (rfl) ?_
    refine nr ?_; intro U h; simp only [z0, z1] at h; subst h
    refine s_callx 74 rfl rfl _ 9 Try.call9 rfl rfl _ rfl [.pointer (some ⟨pa, 0, none⟩), .slice ao3 lb.length cap3] rfl (send_ok _ pa w.heap.size ro rc q k 0 HS.a (by omega) (by omega) ao3 cap3 lb (ncl.gro GG) (fun ad ha h0 hm => by have h1 := ncl.lt ad ha h0; have h2 := HS.a.row.base _ hm; omega) (by omega)) (fun _ _ ⟨_, _, _, he, _⟩ => ⟨_, he⟩) ?_
    rintro v w7 ⟨ro2, rc2, y, he, hyl, G, HP2, HW, hkp⟩
    cases he
    replace kg1 := G.has kg1 (HS.a.nots1 kg1 (by decide) (by decide))
    replace GG := G.gro GG HS.a.sb
    replace HS := HS.send G HP2
    clear G HP2 HW hkp
    have hl2 : (q ++ [y]).length = q.length + 1 := by simp
    subst hyl
    refine nr ?_; intro U h; simp only [z0, z1] at h; subst h
    refine s_val 71 rfl rfl (.tuple #[.int .i64 ((k + (q ++ [y]).length : Nat) : Int), .int .i64 0]) (rfl) ?_
    refine nr ?_; intro U h; simp only [z0, z1] at h; subst h
    refine s_val 75 rfl rfl (.int .i64 ((k + (q ++ [y]).length : Nat) : Int)) (rfl) ?_
    refine nr ?_; intro U h; simp only [z0, z1] at h; subst h
    refine s_val 76 rfl rfl (.int .i64 0) (rfl) ?_
    refine nr ?_; intro U h; simp only [z0, z1] at h; subst h
    refine s_val 14 rfl rfl (.int .i64 ((k + (q ++ [y]).length : Nat) : Int)) (rfl) ?_
    refine nr ?_; intro U h; simp only [z0, z1] at h; subst h
    refine s_val 15 rfl rfl (.int .i64 0) (rfl) ?_
    refine nr ?_; intro U h; simp only [z0, z1] at h; subst h
    refine wpList_nil ?_
    refine then_n ?_
    refine wp_seq ?_
    refine wp_seq ?_
    refine wp_region_opq ?_
    intro OPS hY
    have y5 := hY 5 82 rfl
    clear hY
    refine s_val 77 rfl rfl (.int .i64 ((k + (q ++ [y]).length : Nat) : Int)) (rfl) ?_
    refine nr ?_; intro U h; simp only [z0, z1] at h; subst h
    refine s_val 78 rfl rfl (.slice so se.length sc) (rfl) ?_
    refine nr ?_; intro U h; simp only [z0, z1] at h; subst h
    refine s_val 79 rfl rfl (.int .i64 ((se.length : Nat) : Int)) (run_len Try.underlying47 _ rfl _ _ _ rfl _) ?_
    refine nr ?_; intro U h; simp only [z0, z1] at h; subst h
    refine s_val 80 rfl rfl (.int .i64 ((1 + se.length : Nat) : Int)) (run_addI 3 _ _ _ rfl ((se.length : Nat) : Int) 1 ((1 + se.length : Nat) : Int) rfl rfl (by omega) (by omega) (by omega) _) ?_
    refine nr ?_; intro U h; simp only [z0, z1] at h; subst h
    refine s_val 81 rfl rfl (.bool false) (run_neq_k 2 .i64 _ _ _ rfl Try.underlying2 ((k + (q ++ [y]).length : Nat) : Int) ((1 + se.length : Nat) : Int) rfl rfl false (decide_eq_true (by omega)) _) ?_
    refine nr ?_; intro U h; simp only [z0, z1] at h; subst h
    refine s_val 82 rfl rfl (.bool false) (rfl) ?_
    refine nr ?_; intro U h; simp only [z0, z1] at h; subst h
    refine s_gvalY 83 rfl rfl y5 rfl (.int .i64 0) (rfl) ?_
    refine nr ?_; intro U h; simp only [z0, z1] at h; subst h
    refine s_gvalY 84 rfl rfl y5 rfl (.bool false) (run_neq_k 33 .i64 _ _ _ rfl Try.underlying33 _ _ rfl rfl false rfl _) ?_
    refine nr ?_; intro U h; simp only [z0, z1] at h; subst h
    refine s_val 85 rfl rfl (.bool false) (rfl) ?_
    refine nr ?_; intro U h; simp only [z0, z1] at h; subst h
    refine wpList_nil ?_
    refine then_n ?_
    refine wp_cond_false rfl ?_
    refine wp_skip ?_
    refine then_n ?_
    refine wp_seq ?_
    refine wp_region_lit ?_
    refine s_val 86 rfl rfl (.slice xo al.length xc) (rfl) ?_
    refine nr ?_; intro U h; simp only [z0, z1] at h; subst h
    refine s_val 87 rfl rfl (.int .i64 ((k + (q ++ [y]).length : Nat) : Int)) (rfl) ?_
    refine nr ?_; intro U h; simp only [z0, z1] at h; subst h
    refine s_val 88 rfl rfl (.slice ao3 y.l.length cap3) (rfl) ?_
    refine nr ?_; intro U h; simp only [z0, z1] at h; subst h
    refine s_val 89 rfl rfl (.string (bas y.l)) (run_text_op bT 9 Try.underlying9 _ rfl rfl (ncl.gro GG)) ?_
    refine nr ?_; intro U h; simp only [z0, z1] at h; subst h
    refine s_val 90 rfl rfl (.agg (c51 ((k + (q ++ [y]).length : Nat) : Int) (.string (bas y.l)))) (run_bd 51 _ rfl [(0, .int .i64 ((k + (q ++ [y]).length : Nat) : Int)), (1, .string (bas y.l))] rfl _ (by kernel_rfl)) ?_
    refine nr ?_; intro U h; simp only [z0, z1] at h; subst h
    refine s_bsl 91 rfl rfl 45 1 _ rfl [(0, .agg (c51 ((k + (q ++ [y]).length : Nat) : Int) (.string (bas y.l))))] rfl #[.int .i64 ((k + (q ++ [y]).length : Nat) : Int), .string (bas y.l)] 51 (by kernel_rfl) ?_
    intro w8 gB91 G eB kgB
    clear eB
    replace kg1 := G.has kg1
    replace HS := HS.gro G
    replace GG := GG.trans G
    clear G
    refine nr ?_; intro U h; simp only [z0, z1] at h; subst h
    refine s_appY sdT 92 rfl rfl _ _ rfl rfl HS.al rfl (xc_two kgB rfl rfl) (by omega) (by decide) GG.size ?_
    intro xo1 xc1 w9 HX GX hkx
    have e1 : al.length + 1 = (al ++ [sdp (k + (q ++ [y]).length) y.l]).length := by simp
    replace HX : OY w9 51 2 w.heap.size xo1 xc1 (al ++ [sdp (k + (q ++ [y]).length) y.l]).length ((al ++ [sdp (k + (q ++ [y]).length) y.l]).flatMap sdV) := by rw [← e1, List.flatMap_append]; exact HX
    rw [e1]
    replace GG := GX.gro GG HS.al.base
    replace kg1 := GX.has kg1 (HS.al.ne kg1 (by decide))
    replace HS := HS.sal GX HX
    clear HX GX hkx kgB e1
    refine nr ?_; intro U h; simp only [z0, z1] at h; subst h
    refine s_val 7 rfl rfl (.slice xo1 ((al ++ [sdp (k + (q ++ [y]).length) y.l]).length) xc1) (rfl) ?_
    refine nr ?_; intro U h; simp only [z0, z1] at h; subst h
    refine wpList_nil ?_
    refine then_n ?_
    refine wp_region_lit ?_
    refine s_val 93 rfl rfl (.slice so se.length sc) (rfl) ?_
    refine nr ?_; intro U h; simp only [z0, z1] at h; subst h
    refine s_val 94 rfl rfl (.slice ao3 y.l.length cap3) (rfl) ?_
    refine nr ?_; intro U h; simp only [z0, z1] at h; subst h
    refine s_val 95 rfl rfl (.string (bas y.l)) (run_text_op bT 9 Try.underlying9 _ rfl rfl (ncl.gro GG)) ?_
    refine nr ?_; intro U h; simp only [z0, z1] at h; subst h
    refine s_bsl 96 rfl rfl 47 1 _ rfl [(0, .string (bas y.l))] rfl #[.string (bas y.l)] 9 (by kernel_rfl) ?_
    intro w10 gB96 G eB kgB
    clear eB
    replace kg1 := G.has kg1
    replace HS := HS.gro G
    replace GG := GG.trans G
    clear G
    refine nr ?_; intro U h; simp only [z0, z1] at h; subst h
    refine s_appY stT 97 rfl rfl _ _ rfl rfl HS.se rfl (xc_one kgB rfl) (by omega) (by decide) GG.size ?_
    intro so2 sc2 w11 HX GX hkx
    have e1 : se.length + 1 = (se ++ [y.l]).length := by simp
    replace HX : OY w11 9 1 w.heap.size so2 sc2 (se ++ [y.l]).length ((se ++ [y.l]).map stV) := by rw [← e1, List.map_append]; exact HX
    rw [e1]
    replace GG := GX.gro GG HS.se.base
    replace kg1 := GX.has kg1 (HS.se.ne kg1 (by decide))
    replace HS := HS.sse GX HX hkx
    clear HX GX hkx kgB e1
    refine nr ?_; intro U h; simp only [z0, z1] at h; subst h
    replace HI := HI.send y
    refine s_val 9 rfl rfl (.slice so2 ((se ++ [y.l]).length) sc2) (rfl) ?_
    refine nr ?_; intro U h; simp only [z0, z1] at h; subst h
    refine wpList_nil ?_
    refine blk_n ?_
    refine blk_n ?_
    refine then_n ?_
    refine wp_region_lit ?_
    refine s_val 170 rfl rfl (.int .i64 ((j + 1 : Nat) : Int)) (run_addI 3 _ _ _ rfl ((j : Nat) : Int) 1 ((j + 1 : Nat) : Int) rfl rfl (by omega) (by omega) (by omega) _) ?_
    refine nr ?_; intro U h; simp only [z0, z1] at h; subst h
    refine s_val 40 rfl rfl (.int .i64 ((j + 1 : Nat) : Int)) (rfl) ?_
    refine nr ?_; intro U h; simp only [z0, z1] at h; subst h
    refine wpList_nil ?_
    refine then_n ?_
    exact ⟨_, (by omega : ys.length - (j + 1) < ys.length - j), j + 1, ro2, rc2, (q ++ [y]), k, c, xo1, xc1, (al ++ [sdp (k + (q ++ [y]).length) y.l]), ko, kc, ac, so2, sc2, (se ++ [y.l]), go, gc, gt, (fun kz => ([us1 0, .int .i64 ((j : Nat) : Int), .pointer (some ⟨g1, 0, none⟩), .slice ao3 y.l.length cap3, .int .i64 ((k + (q ++ [y]).length : Nat) : Int), .int .i64 0, us1 6, us1 7, us1 8, us1 9, us1 10, .bool true, .int .i64 ((j : Nat) : Int), .pointer (some (ady.add (j * 2))), .agg (c49 yq.1 yq.2), .int .i64 ((j : Nat) : Int), .bool false, .pointer (some ⟨g1, 0, none⟩), .int .i64 yq.1, us1 19, us1 20, us1 21, us1 22, us1 23, .bool true, .bool true, .slice so se.length sc, .int .i64 ((se.length : Nat) : Int), .slice to ls.length tc, .int .i64 ((ls.length : Nat) : Int), .bool true, .slice to ls.length tc, .slice so se.length sc, .int .i64 ((se.length : Nat) : Int), .pointer (some (adt.add se.length)), .slice ao3 ((ls.getD se.length []).length) cap3, .slice ao3 ((ls.getD se.length []).length) cap3, .slice ao3 ((ls.getD se.length []).length) cap3, .int .i64 (((ls.getD se.length []).length : Nat) : Int), .int .i64 ((y.l.length : Nat) : Int), .slice ao3 y.l.length cap3, .tuple #[.int .i64 ((k + (q ++ [y]).length : Nat) : Int), .int .i64 0], .pointer (some ⟨pa, 0, none⟩), .slice ao3 y.l.length cap3, .tuple #[.int .i64 ((k + (q ++ [y]).length : Nat) : Int), .int .i64 0], .int .i64 ((k + (q ++ [y]).length : Nat) : Int), .int .i64 0, .int .i64 ((k + (q ++ [y]).length : Nat) : Int), .slice so se.length sc, .int .i64 ((se.length : Nat) : Int), .int .i64 ((1 + se.length : Nat) : Int), .bool false, .bool false, .int .i64 0, .bool false, .bool false, .slice xo al.length xc, .int .i64 ((k + (q ++ [y]).length : Nat) : Int), .slice ao3 y.l.length cap3, .string (bas y.l), .agg (c51 ((k + (q ++ [y]).length : Nat) : Int) (.string (bas y.l))), .slice (some ⟨gB91, 0, none⟩) 1 1, .slice xo1 ((al ++ [sdp (k + (q ++ [y]).length) y.l]).length) xc1, .slice so se.length sc, .slice ao3 y.l.length cap3, .string (bas y.l), .slice (some ⟨gB96, 0, none⟩) 1 1, .slice so2 ((se ++ [y.l]).length) sc2, us1 68, us1 69, us1 70, us1 71, us1 72, us1 73, us1 74, us1 75, us1 76, us1 77, us1 78, us1 79, us1 80, us1 81, us1 82, us1 83, us1 84, us1 85, us1 86, us1 87, us1 88, us1 89, us1 90, us1 91, us1 92, us1 93, us1 94, us1 95, us1 96, us1 97, us1 98, us1 99, us1 100, us1 101, us1 102, us1 103, us1 104, us1 105, us1 106, us1 107, us1 108, us1 109, us1 110, us1 111, us1 112, us1 113, us1 114, us1 115, us1 116, us1 117, us1 118, us1 119, us1 120, us1 121, us1 122, us1 123, us1 124, us1 125, us1 126, us1 127, us1 128, us1 129, us1 130, us1 131, us1 132, us1 133, us1 134, us1 135, us1 136, us1 137, us1 138, us1 139, .int .i64 ((j + 1 : Nat) : Int)] : List Value).getD kz undef), rfl, rfl, hjn, (by omega), (by rw [List.length_append]; simp only [List.length_cons, List.length_nil]; omega), (by rw [List.length_append]; simp only [List.length_cons, List.length_nil]; omega), (by omega), GG, HS, HI⟩
  refine wpList_nil ?_
  refine then_n ?_
  refine wp_cond_true rfl ?_
  refine wp_exit ?_
  refine then_x ?_
  refine blk_xn (by decide) ?_
  refine then_x ?_
  refine then_x ?_
  refine blk_x ?_
  refine then_n ?_
  refine wp_seq ?_
  refine wp_region_lit ?_
  refine s_val 172 rfl rfl (.pointer (some ⟨pa, 0, none⟩)) (rfl) ?_
  refine nr ?_; intro U h; simp only [z0, z1] at h; subst h
  refine s_callx 173 rfl rfl _ 15 Try.call15 rfl rfl _ rfl [.pointer (some ⟨pa, 0, none⟩)] rfl (waits_any _ pa w.heap.size ro rc q k 0 HS.a (by omega) (by omega)) (fun _ _ ⟨_, _, he, _⟩ => ⟨_, he⟩) ?_
  rintro v w7 ⟨gl, rr, he, G, hr, HL⟩
  cases he
  have hrl : rr.length = q.length := by have := congrArg List.length hr; simpa using this
  replace kg1 := G.has kg1
  replace HS := HS.gro G
  replace GG := GG.trans G
  clear G
  refine nr ?_; intro U h; simp only [z0, z1] at h; subst h
  have hgl := HI.glen
  have hqq := HI.h1
  refine s_val 171 rfl rfl (.tuple #[.int .i64 ((k + 1 : Nat) : Int), .slice (some ⟨gl, 0, none⟩) rr.length rr.length]) (rfl) ?_
  refine nr ?_; intro U h; simp only [z0, z1] at h; subst h
  refine s_val 174 rfl rfl (.int .i64 ((k + 1 : Nat) : Int)) (rfl) ?_
  refine nr ?_; intro U h; simp only [z0, z1] at h; subst h
  refine s_val 175 rfl rfl (.slice (some ⟨gl, 0, none⟩) rr.length rr.length) (rfl) ?_
  refine nr ?_; intro U h; simp only [z0, z1] at h; subst h
  refine s_val 21 rfl rfl (.int .i64 ((k + 1 : Nat) : Int)) (rfl) ?_
  refine nr ?_; intro U h; simp only [z0, z1] at h; subst h
  refine s_val 22 rfl rfl (.slice (some ⟨gl, 0, none⟩) rr.length rr.length) (rfl) ?_
  refine nr ?_; intro U h; simp only [z0, z1] at h; subst h
  refine wpList_nil ?_
  refine then_n ?_
  refine wp_seq ?_
  refine wp_seq ?_
  refine wp_region_opq ?_
  intro OPS hY
  have y5 := hY 5 181 rfl
  have y12 := hY 12 188 rfl
  have y16 := hY 16 192 rfl
  have y23 := hY 23 199 rfl
  clear hY
  refine s_val 176 rfl rfl (.slice go gt.length gc) (rfl) ?_
  refine nr ?_; intro U h; simp only [z0, z1] at h; subst h
  refine s_val 177 rfl rfl (.int .i64 ((gt.length : Nat) : Int)) (run_len Try.underlying47 _ rfl _ _ _ rfl _) ?_
  refine nr ?_; intro U h; simp only [z0, z1] at h; subst h
  refine s_val 178 rfl rfl (.slice so se.length sc) (rfl) ?_
  refine nr ?_; intro U h; simp only [z0, z1] at h; subst h
  refine s_val 179 rfl rfl (.int .i64 ((se.length : Nat) : Int)) (run_len Try.underlying47 _ rfl _ _ _ rfl _) ?_
  refine nr ?_; intro U h; simp only [z0, z1] at h; subst h
  refine s_val 180 rfl rfl (.bool false) (run_gtrT 3 _ _ _ rfl ((gt.length : Nat) : Int) ((se.length : Nat) : Int) rfl rfl false (decide_eq_false (by omega)) _) ?_
  refine nr ?_; intro U h; simp only [z0, z1] at h; subst h
  refine s_val 181 rfl rfl (.bool false) (rfl) ?_
  refine nr ?_; intro U h; simp only [z0, z1] at h; subst h
  refine s_gvalY 182 rfl rfl y5 rfl (.pointer (some ⟨pb, 0, none⟩)) (rfl) ?_
  refine nr ?_; intro U h; simp only [z0, z1] at h; subst h
  refine s_gcallvY 183 rfl rfl y5 rfl _ 18 Try.call18 rfl rfl _ rfl [.pointer (some ⟨pb, 0, none⟩)] rfl (got_any _ pb w.heap.size none 0 [] 0 c HS.b (by simp) (by omega)) ?_
  intro w8 G
  replace HS := HS.gro G
  replace HL := HL.gro G
  replace GG := GG.trans G
  clear G
  refine nr ?_; intro U h; simp only [z0, z1] at h; subst h
  refine s_gvalY 184 rfl rfl y5 rfl (.slice go gt.length gc) (rfl) ?_
  refine nr ?_; intro U h; simp only [z0, z1] at h; subst h
  refine s_gvalY 185 rfl rfl y5 rfl (.int .i64 ((gt.length : Nat) : Int)) (run_len Try.underlying47 _ rfl _ _ _ rfl _) ?_
  refine nr ?_; intro U h; simp only [z0, z1] at h; subst h
  refine s_gvalY 186 rfl rfl y5 rfl (.bool false) (run_neq_k 3 .i64 _ _ _ rfl Try.underlying3 ((c : Nat) : Int) ((gt.length : Nat) : Int) rfl rfl false (decide_eq_true (by omega)) _) ?_
  refine nr ?_; intro U h; simp only [z0, z1] at h; subst h
  refine s_val 187 rfl rfl (.bool false) (rfl) ?_
  refine nr ?_; intro U h; simp only [z0, z1] at h; subst h
  refine s_val 188 rfl rfl (.bool false) (rfl) ?_
  refine nr ?_; intro U h; simp only [z0, z1] at h; subst h
  refine s_gvalY 189 rfl rfl y12 rfl (.int .i64 ((k + 1 : Nat) : Int)) (rfl) ?_
  refine nr ?_; intro U h; simp only [z0, z1] at h; subst h
  refine s_gvalY 190 rfl rfl y12 rfl (.bool false) (run_lssT 2 _ _ _ rfl ((k + 1 : Nat) : Int) 1 rfl rfl false (decide_eq_false (by omega)) _) ?_
  refine nr ?_; intro U h; simp only [z0, z1] at h; subst h
  refine s_val 191 rfl rfl (.bool false) (rfl) ?_
  refine nr ?_; intro U h; simp only [z0, z1] at h; subst h
  refine s_val 192 rfl rfl (.bool false) (rfl) ?_
  refine nr ?_; intro U h; simp only [z0, z1] at h; subst h
  refine s_gvalY 193 rfl rfl y16 rfl (.int .i64 ((k + 1 : Nat) : Int)) (rfl) ?_
  refine nr ?_; intro U h; simp only [z0, z1] at h; subst h
  refine s_gvalY 194 rfl rfl y16 rfl (.int .i64 ((k : Nat) : Int)) (run_subI 3 _ _ _ rfl ((k + 1 : Nat) : Int) 1 ((k : Nat) : Int) rfl rfl (by omega) (by omega) (by omega) _) ?_
  refine nr ?_; intro U h; simp only [z0, z1] at h; subst h
  refine s_gvalY 195 rfl rfl y16 rfl (.slice go gt.length gc) (rfl) ?_
  refine nr ?_; intro U h; simp only [z0, z1] at h; subst h
  refine s_gvalY 196 rfl rfl y16 rfl (.int .i64 ((gt.length : Nat) : Int)) (run_len Try.underlying47 _ rfl _ _ _ rfl _) ?_
  refine nr ?_; intro U h; simp only [z0, z1] at h; subst h
  refine s_gvalY 197 rfl rfl y16 rfl (.bool false) (run_gtrT 3 _ _ _ rfl ((k : Nat) : Int) ((gt.length : Nat) : Int) rfl rfl false (decide_eq_false (by omega)) _) ?_
  refine nr ?_; intro U h; simp only [z0, z1] at h; subst h
  refine s_val 198 rfl rfl (.bool false) (rfl) ?_
  refine nr ?_; intro U h; simp only [z0, z1] at h; subst h
  refine s_val 199 rfl rfl (.bool false) (rfl) ?_
  refine nr ?_; intro U h; simp only [z0, z1] at h; subst h
  refine s_gvalY 200 rfl rfl y23 rfl (.slice (some ⟨gl, 0, none⟩) rr.length rr.length) (rfl) ?_
  refine nr ?_; intro U h; simp only [z0, z1] at h; subst h
  refine s_gvalY 201 rfl rfl y23 rfl (.int .i64 ((rr.length : Nat) : Int)) (run_len Try.underlying26 _ rfl _ _ _ rfl _) ?_
  refine nr ?_; intro U h; simp only [z0, z1] at h; subst h
  refine s_gvalY 202 rfl rfl y23 rfl (.slice so se.length sc) (rfl) ?_
  refine nr ?_; intro U h; simp only [z0, z1] at h; subst h
  refine s_gvalY 203 rfl rfl y23 rfl (.int .i64 ((se.length : Nat) : Int)) (run_len Try.underlying47 _ rfl _ _ _ rfl _) ?_
  refine nr ?_; intro U h; simp only [z0, z1] at h; subst h
  refine s_gvalY 204 rfl rfl y23 rfl (.int .i64 ((k + 1 : Nat) : Int)) (rfl) ?_
  refine nr ?_; intro U h; simp only [z0, z1] at h; subst h
  refine s_gvalY 205 rfl rfl y23 rfl (.int .i64 (((q.length : Nat) : Int) - 1)) (run_subI 3 _ _ _ rfl ((se.length : Nat) : Int) ((k + 1 : Nat) : Int) (((q.length : Nat) : Int) - 1) rfl rfl (by omega) (by omega) (by omega) _) ?_
  refine nr ?_; intro U h; simp only [z0, z1] at h; subst h
  refine s_gvalY 206 rfl rfl y23 rfl (.int .i64 ((q.length : Nat) : Int)) (run_addI 3 _ _ _ rfl (((q.length : Nat) : Int) - 1) 1 ((q.length : Nat) : Int) rfl rfl (by omega) (by omega) (by omega) _) ?_
  refine nr ?_; intro U h; simp only [z0, z1] at h; subst h
  refine s_gvalY 207 rfl rfl y23 rfl (.bool false) (run_neq_k 3 .i64 _ _ _ rfl Try.underlying3 ((rr.length : Nat) : Int) ((q.length : Nat) : Int) rfl rfl false (decide_eq_true (by omega)) _) ?_
  refine nr ?_; intro U h; simp only [z0, z1] at h; subst h
  refine s_val 208 rfl rfl (.bool false) (rfl) ?_
  refine nr ?_; intro U h; simp only [z0, z1] at h; subst h
  refine wpList_nil ?_
  refine then_n ?_
  refine wp_cond_false rfl ?_
  refine wp_skip ?_
  refine then_n ?_
  refine wp_seq ?_
  refine wp_seq ?_
  refine wp_region_lit ?_
  refine s_val 209 rfl rfl (.slice go gt.length gc) (rfl) ?_
  refine nr ?_; intro U h; simp only [z0, z1] at h; subst h
  refine s_val 210 rfl rfl (.int .i64 ((gt.length : Nat) : Int)) (run_len Try.underlying47 _ rfl _ _ _ rfl _) ?_
  refine nr ?_; intro U h; simp only [z0, z1] at h; subst h
  refine s_val 211 rfl rfl (.int .i64 0) (rfl) ?_
  refine nr ?_; intro U h; simp only [z0, z1] at h; subst h
  refine wpList_nil ?_
  refine then_n ?_
  refine wp_block ?_
  have hgl := HI.glen
  have hqq := HI.h1
  refine wp_loopN (fun mz az wv => ∃ (e4 : Nat) (us2 : Nat → Value), mz = gt.length - e4 ∧ az = ⟨[.slice to ls.length tc, .slice yo ys.length yc, undef, undef, us2 0, .pointer (some ⟨pa, 0, none⟩), .pointer (some ⟨pb, 0, none⟩), .slice xo al.length xc, .slice ko ac.length kc, .slice so se.length sc, .slice go gt.length gc, .int .i64 ((j : Nat) : Int), .pointer (some ⟨g1, 0, none⟩), us1 3, us1 4, us1 5, us1 6, us1 7, us1 8, us1 9, us1 10, .int .i64 ((k + 1 : Nat) : Int), .slice (some ⟨gl, 0, none⟩) rr.length rr.length, us2 1, undef, .pointer (some ⟨pa, 0, none⟩), .pointer (some ⟨pb, 0, none⟩), .pointer (some ⟨pa, 0, none⟩), .bool false, .bool false, .pointer (some ⟨pb, 0, none⟩), .bool false, .bool false, .bool false, .bool true, .bool false, .bool false, .slice (some ⟨gk, 0, none⟩) 1 1, .slice yo ys.length yc, .int .i64 ((ys.length : Nat) : Int), .int .i64 ((j : Nat) : Int), .bool true, .int .i64 ((j : Nat) : Int), .pointer (some (ady.add (j * 2))), .agg (c49 yq.1 yq.2), .int .i64 ((j : Nat) : Int), .bool true, us1 17, us1 18, us1 19, us1 20, us1 21, us1 22, us1 23, us1 24, us1 25, us1 26, us1 27, us1 28, us1 29, us1 30, us1 31, us1 32, us1 33, us1 34, us1 35, us1 36, us1 37, us1 38, us1 39, us1 40, us1 41, us1 42, us1 43, us1 44, us1 45, us1 46, us1 47, us1 48, us1 49, us1 50, us1 51, us1 52, us1 53, us1 54, us1 55, us1 56, us1 57, us1 58, us1 59, us1 60, us1 61, us1 62, us1 63, us1 64, us1 65, us1 66, us1 67, us1 68, us1 69, us1 70, us1 71, us1 72, us1 73, us1 74, us1 75, us1 76, us1 77, us1 78, us1 79, us1 80, us1 81, us1 82, us1 83, us1 84, us1 85, us1 86, us1 87, us1 88, us1 89, us1 90, us1 91, us1 92, us1 93, us1 94, us1 95, us1 96, us1 97, us1 98, us1 99, us1 100, us1 101, us1 102, us1 103, us1 104, us1 105, us1 106, us1 107, us1 108, us1 109, us1 110, us1 111, us1 112, us1 113, us1 114, us1 115, us1 116, us1 117, us1 118, us1 119, us1 120, us1 121, us1 122, us1 123, us1 124, us1 125, us1 126, us1 127, us1 128, us1 129, us1 130, us1 131, us1 132, us1 133, us1 134, us1 135, us1 136, us1 137, us1 138, us1 139, us1 140, .tuple #[.int .i64 ((k + 1 : Nat) : Int), .slice (some ⟨gl, 0, none⟩) rr.length rr.length], .pointer (some ⟨pa, 0, none⟩), .tuple #[.int .i64 ((k + 1 : Nat) : Int), .slice (some ⟨gl, 0, none⟩) rr.length rr.length], .int .i64 ((k + 1 : Nat) : Int), .slice (some ⟨gl, 0, none⟩) rr.length rr.length, .slice go gt.length gc, .int .i64 ((gt.length : Nat) : Int), .slice so se.length sc, .int .i64 ((se.length : Nat) : Int), .bool false, .bool false, .pointer (some ⟨pb, 0, none⟩), .int .i64 ((c : Nat) : Int), .slice go gt.length gc, .int .i64 ((gt.length : Nat) : Int), .bool false, .bool false, .bool false, .int .i64 ((k + 1 : Nat) : Int), .bool false, .bool false, .bool false, .int .i64 ((k + 1 : Nat) : Int), .int .i64 ((k : Nat) : Int), .slice go gt.length gc, .int .i64 ((gt.length : Nat) : Int), .bool false, .bool false, .bool false, .slice (some ⟨gl, 0, none⟩) rr.length rr.length, .int .i64 ((rr.length : Nat) : Int), .slice so se.length sc, .int .i64 ((se.length : Nat) : Int), .int .i64 ((k + 1 : Nat) : Int), .int .i64 (((q.length : Nat) : Int) - 1), .int .i64 ((q.length : Nat) : Int), .bool false, .bool false, .slice go gt.length gc, .int .i64 ((gt.length : Nat) : Int), .int .i64 ((e4 : Nat) : Int), us2 2, us2 3, us2 4, us2 5, us2 6, us2 7, us2 8, us2 9, us2 10, us2 11, us2 12, us2 13, undef, undef, undef, undef, undef, undef, undef, undef, undef, undef, undef, undef, undef, undef, undef, undef, undef, undef, undef].toArray, []⟩ ∧ e4 ≤ gt.length ∧ Gro w wv ∧ SM wv w.heap.size pa pb ro rc q k c xo xc al ko kc ac so sc se go gc gt ∧ ∃ M9, AL wv M9 gl rr) ?_ _ ⟨0, (fun kz => ([us1 0, undef, undef, undef, undef, undef, undef, undef, undef, undef, undef, undef, undef, undef] : List Value).getD kz undef), rfl, rfl, Nat.zero_le _, GG, HS, ⟨_, HL⟩⟩
  clear GG HS HL
  rintro mz az wv ⟨e4, us2, rfl, rfl, he4, GG, HS, HL⟩
  obtain ⟨M9, HL⟩ := HL
  refine wp_seq ?_
  refine wp_region_lit ?_
  obtain ⟨p3, hp3⟩ : ∃ p, decide (((e4 : Nat) : Int) < ((gt.length : Nat) : Int)) = p := ⟨_, rfl⟩
  refine s_val 212 rfl rfl (.bool p3) (run_lssT 3 _ _ _ rfl ((e4 : Nat) : Int) ((gt.length : Nat) : Int) rfl rfl p3 hp3 _) ?_
  refine nr ?_; intro U h; simp only [z0, z1] at h; subst h
  cases p3
  · refine wpList_nil ?_
    refine then_n ?_
    refine wp_seq ?_
    refine wp_cond_false rfl ?_
    refine wp_exit ?_
    refine then_x ?_
    refine then_x ?_
    refine blk_x ?_
    refine then_n ?_
    refine wp_seq ?_
    refine wp_seq ?_
    refine wp_region_lit ?_
    refine s_val 224 rfl rfl (.slice (some ⟨gl, 0, none⟩) rr.length rr.length) (rfl) ?_
    refine nr ?_; intro U h; simp only [z0, z1] at h; subst h
    refine s_val 225 rfl rfl (.int .i64 ((rr.length : Nat) : Int)) (run_len Try.underlying26 _ rfl _ _ _ rfl _) ?_
    refine nr ?_; intro U h; simp only [z0, z1] at h; subst h
    refine s_val 226 rfl rfl (.int .i64 0) (rfl) ?_
    refine nr ?_; intro U h; simp only [z0, z1] at h; subst h
    refine wpList_nil ?_
    refine then_n ?_
    refine wp_block ?_
    refine wp_loopN (fun mz az wv => ∃ (e5 : Nat) (us3 : Nat → Value), mz = rr.length - e5 ∧ az = ⟨[.slice to ls.length tc, .slice yo ys.length yc, undef, undef, us3 0, .pointer (some ⟨pa, 0, none⟩), .pointer (some ⟨pb, 0, none⟩), .slice xo al.length xc, .slice ko ac.length kc, .slice so se.length sc, .slice go gt.length gc, .int .i64 ((j : Nat) : Int), .pointer (some ⟨g1, 0, none⟩), us1 3, us1 4, us1 5, us1 6, us1 7, us1 8, us1 9, us1 10, .int .i64 ((k + 1 : Nat) : Int), .slice (some ⟨gl, 0, none⟩) rr.length rr.length, us2 1, us3 1, .pointer (some ⟨pa, 0, none⟩), .pointer (some ⟨pb, 0, none⟩), .pointer (some ⟨pa, 0, none⟩), .bool false, .bool false, .pointer (some ⟨pb, 0, none⟩), .bool false, .bool false, .bool false, .bool true, .bool false, .bool false, .slice (some ⟨gk, 0, none⟩) 1 1, .slice yo ys.length yc, .int .i64 ((ys.length : Nat) : Int), .int .i64 ((j : Nat) : Int), .bool true, .int .i64 ((j : Nat) : Int), .pointer (some (ady.add (j * 2))), .agg (c49 yq.1 yq.2), .int .i64 ((j : Nat) : Int), .bool true, us1 17, us1 18, us1 19, us1 20, us1 21, us1 22, us1 23, us1 24, us1 25, us1 26, us1 27, us1 28, us1 29, us1 30, us1 31, us1 32, us1 33, us1 34, us1 35, us1 36, us1 37, us1 38, us1 39, us1 40, us1 41, us1 42, us1 43, us1 44, us1 45, us1 46, us1 47, us1 48, us1 49, us1 50, us1 51, us1 52, us1 53, us1 54, us1 55, us1 56, us1 57, us1 58, us1 59, us1 60, us1 61, us1 62, us1 63, us1 64, us1 65, us1 66, us1 67, us1 68, us1 69, us1 70, us1 71, us1 72, us1 73, us1 74, us1 75, us1 76, us1 77, us1 78, us1 79, us1 80, us1 81, us1 82, us1 83, us1 84, us1 85, us1 86, us1 87, us1 88, us1 89, us1 90, us1 91, us1 92, us1 93, us1 94, us1 95, us1 96, us1 97, us1 98, us1 99, us1 100, us1 101, us1 102, us1 103, us1 104, us1 105, us1 106, us1 107, us1 108, us1 109, us1 110, us1 111, us1 112, us1 113, us1 114, us1 115, us1 116, us1 117, us1 118, us1 119, us1 120, us1 121, us1 122, us1 123, us1 124, us1 125, us1 126, us1 127, us1 128, us1 129, us1 130, us1 131, us1 132, us1 133, us1 134, us1 135, us1 136, us1 137, us1 138, us1 139, us1 140, .tuple #[.int .i64 ((k + 1 : Nat) : Int), .slice (some ⟨gl, 0, none⟩) rr.length rr.length], .pointer (some ⟨pa, 0, none⟩), .tuple #[.int .i64 ((k + 1 : Nat) : Int), .slice (some ⟨gl, 0, none⟩) rr.length rr.length], .int .i64 ((k + 1 : Nat) : Int), .slice (some ⟨gl, 0, none⟩) rr.length rr.length, .slice go gt.length gc, .int .i64 ((gt.length : Nat) : Int), .slice so se.length sc, .int .i64 ((se.length : Nat) : Int), .bool false, .bool false, .pointer (some ⟨pb, 0, none⟩), .int .i64 ((c : Nat) : Int), .slice go gt.length gc, .int .i64 ((gt.length : Nat) : Int), .bool false, .bool false, .bool false, .int .i64 ((k + 1 : Nat) : Int), .bool false, .bool false, .bool false, .int .i64 ((k + 1 : Nat) : Int), .int .i64 ((k : Nat) : Int), .slice go gt.length gc, .int .i64 ((gt.length : Nat) : Int), .bool false, .bool false, .bool false, .slice (some ⟨gl, 0, none⟩) rr.length rr.length, .int .i64 ((rr.length : Nat) : Int), .slice so se.length sc, .int .i64 ((se.length : Nat) : Int), .int .i64 ((k + 1 : Nat) : Int), .int .i64 (((q.length : Nat) : Int) - 1), .int .i64 ((q.length : Nat) : Int), .bool false, .bool false, .slice go gt.length gc, .int .i64 ((gt.length : Nat) : Int), .int .i64 ((e4 : Nat) : Int), .bool false, us2 3, us2 4, us2 5, us2 6, us2 7, us2 8, us2 9, us2 10, us2 11, us2 12, us2 13, .slice (some ⟨gl, 0, none⟩) rr.length rr.length, .int .i64 ((rr.length : Nat) : Int), .int .i64 ((e5 : Nat) : Int), us3 2, us3 3, us3 4, us3 5, us3 6, us3 7, us3 8, us3 9, us3 10, us3 11, us3 12, us3 13, us3 14, us3 15, us3 16, us3 17].toArray, []⟩ ∧ e5 ≤ rr.length ∧ Gro w wv ∧ SM wv w.heap.size pa pb ro rc q k c xo xc al ko kc ac so sc se go gc gt ∧ ∃ M9, AL wv M9 gl rr) ?_ _ ⟨0, (fun kz => ([us2 0, undef, undef, undef, undef, undef, undef, undef, undef, undef, undef, undef, undef, undef, undef, undef, undef, undef] : List Value).getD kz undef), rfl, rfl, Nat.zero_le _, GG, HS, ⟨_, HL⟩⟩
    clear GG HS HL
    rintro mz az wv ⟨e5, us3, rfl, rfl, he5, GG, HS, HL⟩
    obtain ⟨M9, HL⟩ := HL
    refine wp_seq ?_
    refine wp_region_lit ?_
    obtain ⟨p4, hp4⟩ : ∃ p, decide (((e5 : Nat) : Int) < ((rr.length : Nat) : Int)) = p := ⟨_, rfl⟩
    refine s_val 227 rfl rfl (.bool p4) (run_lssT 3 _ _ _ rfl ((e5 : Nat) : Int) ((rr.length : Nat) : Int) rfl rfl p4 hp4 _) ?_
    refine nr ?_; intro U h; simp only [z0, z1] at h; subst h
    cases p4
    · refine wpList_nil ?_
      refine then_n ?_
      refine wp_seq ?_
      refine wp_cond_false rfl ?_
      refine wp_exit ?_
      refine then_x ?_
      refine then_x ?_
      refine blk_x ?_
      refine then_n ?_
      refine wp_seq ?_
      refine wp_region_lit ?_
      refine s_val 4 rfl rfl (.bool true) (rfl) ?_
      refine nr ?_; intro U h; simp only [z0, z1] at h; subst h
      refine wpList_nil ?_
      refine then_n ?_
      refine wp_ret ?_
      refine bodyPost_ret (results_tmp Try.results4 _ _ _) rfl ?_
      exact ⟨rfl, GG⟩
    have he5n : e5 < rr.length := by have := of_decide_eq_true hp4; omega
    obtain ⟨zr, hzr⟩ : ∃ x, rr[e5]? = some x := ⟨_, List.getElem?_eq_getElem he5n⟩
    have hzm := List.mem_of_getElem? hzr
    have hls : se[k + e5]? = some zr.2 := by rw [← List.getElem?_drop, ← HI.h2, ← hr, List.getElem?_map, hzr]; rfl
    obtain ⟨ads, hso, hsc⟩ := HS.se.elem (j := k + e5) (v := stV zr.2) (by rw [List.getElem?_map, hls]; rfl)
    refine wpList_nil ?_
    refine then_n ?_
    refine wp_seq ?_
    refine wp_cond_true rfl ?_
    refine wp_skip ?_
    refine then_n ?_
    refine wp_seq ?_
    refine wp_block ?_
    refine wp_seq ?_
    refine wp_region_lit ?_
    refine s_val 228 rfl rfl (.int .i64 ((e5 : Nat) : Int)) (rfl) ?_
    refine nr ?_; intro U h; simp only [z0, z1] at h; subst h
    refine s_val 24 rfl rfl (.int .i64 ((e5 : Nat) : Int)) (rfl) ?_
    refine nr ?_; intro U h; simp only [z0, z1] at h; subst h
    refine wpList_nil ?_
    refine then_n ?_
    refine wp_seq ?_
    refine wp_region_exA (A := ?Ax3) 12 [(0, 229), (1, 230), (2, 231), (3, 232), (4, 233), (5, 234), (6, 235), (7, 236), (8, 237), (9, 238), (10, 239), (11, 240)] [.val (.slice (some ⟨gl, 0, none⟩) rr.length rr.length), .val (.int .i64 ((e5 : Nat) : Int)), .val (.pointer (some ⟨gl, e5, none⟩)), .val (.slice (some ⟨zr.1, 0, none⟩) zr.2.length zr.2.length), .val (.string (bas zr.2)), .val (.slice so se.length sc), .val (.int .i64 ((k + 1 : Nat) : Int)), .val (.int .i64 ((k : Nat) : Int)), .val (.int .i64 ((e5 : Nat) : Int)), .val (.int .i64 ((k + e5 : Nat) : Int)), .val (.pointer (some (ads.add (k + e5)))), .val (.string (bas zr.2))] follows (by kernel_rfl) rfl ?hAx3 (opsA_cons ?o0x3 (opsA_cons ?o1x3 (opsA_cons ?o2x3 (opsA_cons ?o3x3 (opsA_cons ?o4x3 (opsA_cons ?o5x3 (opsA_cons ?o6x3 (opsA_cons ?o7x3 (opsA_cons ?o8x3 (opsA_cons ?o9x3 (opsA_cons ?o10x3 (opsA_cons ?o11x3 opsA_nil)))))))))))) ?restx3
    case hAx3 =>
      intro ptrs
      simp only [full, foldSlots, filledE, postE, List.foldl_cons, List.foldl_nil, List.getD_cons_zero, List.getD_cons_succ, fill_val, List.set_cons_zero, List.set_cons_succ]
      exact rfl
    case o0x3 => exact fun _ _ _ _ => opE_move (v := .slice (some ⟨gl, 0, none⟩) rr.length rr.length) _ rfl rfl rfl
    case o1x3 => exact fun _ _ _ _ => opE_move (v := .int .i64 ((e5 : Nat) : Int)) _ rfl rfl rfl
    case o2x3 => exact fun _ _ hw _ => opE_value (v := .pointer (some ⟨gl, e5, none⟩)) rfl (run_idxg _ _ rfl gl rr.length rr.length e5 rfl rfl he5n _)
    case o3x3 => exact fun _ _ hw _ => opE_value (v := .slice (some ⟨zr.1, 0, none⟩) zr.2.length zr.2.length) rfl (run_ld24 _ rfl _ rfl _ _ (gro_cell ((Gro.refl _).drew.trans hw) (by exact HL.at hzr)))
    case o4x3 => exact fun _ _ hw _ => opE_value (v := .string (bas zr.2)) rfl (run_text_op bT 9 Try.underlying9 _ rfl rfl (nc_all (hw.has (HL.fr zr hzm).2.1) (HL.fr zr hzm).2.2))
    case o5x3 => exact fun _ _ _ _ => opE_move (v := .slice so se.length sc) _ rfl rfl rfl
    case o6x3 => exact fun _ _ _ _ => opE_move (v := .int .i64 ((k + 1 : Nat) : Int)) _ rfl rfl rfl
    case o7x3 => exact fun _ _ hw _ => opE_value (v := .int .i64 ((k : Nat) : Int)) rfl (run_subI 3 _ _ _ rfl ((k + 1 : Nat) : Int) 1 ((k : Nat) : Int) rfl rfl (by omega) (by omega) (by omega) _)
    case o8x3 => exact fun _ _ _ _ => opE_move (v := .int .i64 ((e5 : Nat) : Int)) _ rfl rfl rfl
    case o9x3 => exact fun _ _ hw _ => opE_value (v := .int .i64 ((k + e5 : Nat) : Int)) rfl (run_addI 3 _ _ _ rfl ((k : Nat) : Int) ((e5 : Nat) : Int) ((k + e5 : Nat) : Int) rfl rfl (by omega) (by omega) (by omega) _)
    case o10x3 => exact fun _ _ hw _ => opE_value (v := .pointer (some (ads.add (k + e5)))) rfl (run_idx47 _ _ rfl ads se.length sc (k + e5) (by exact congrArg (fun a => Value.slice a se.length sc) hso) rfl (by omega) _)
    case o11x3 => exact fun _ _ hw _ => opE_value (v := .string (bas zr.2)) rfl (run_ld9 _ rfl _ rfl _ (gro_cell ((Gro.refl _).drew.trans hw) hsc))
    intro ptrs w9 GD hxE
    simp only [List.drop_succ_cons, List.drop_zero]
    replace HS := HS.gro ((Gro.refl _).drew.trans GD)
    replace HL := HL.gro ((Gro.refl _).drew.trans GD)
    replace GG := GG.drew.trans GD
    clear GD
    refine s_val 241 rfl rfl (.bool false) (run_nes_op _ _ _ rfl _ _ rfl rfl false (decide_eq_true rfl) _) ?_
    refine nr ?_; intro U h; simp only [z0, z1] at h; subst h
    refine wpList_nil ?_
    refine then_n ?_
    refine wp_cond_false rfl ?_
    refine wp_skip ?_
    refine blk_n ?_
    refine then_n ?_
    refine wp_region_lit ?_
    refine s_val 242 rfl rfl (.int .i64 ((e5 + 1 : Nat) : Int)) (run_addI 3 _ _ _ rfl ((e5 : Nat) : Int) 1 ((e5 + 1 : Nat) : Int) rfl rfl (by omega) (by omega) (by omega) _) ?_
    refine nr ?_; intro U h; simp only [z0, z1] at h; subst h
    refine s_val 226 rfl rfl (.int .i64 ((e5 + 1 : Nat) : Int)) (rfl) ?_
    refine nr ?_; intro U h; simp only [z0, z1] at h; subst h
    refine wpList_nil ?_
    refine then_n ?_
    exact ⟨_, (by omega : rr.length - (e5 + 1) < rr.length - e5), e5 + 1, (fun kz => ([us3 0, .int .i64 ((e5 : Nat) : Int), .bool true, .int .i64 ((e5 : Nat) : Int), .slice (some ⟨gl, 0, none⟩) rr.length rr.length, .int .i64 ((e5 : Nat) : Int), .pointer (some ⟨gl, e5, none⟩), .slice (some ⟨zr.1, 0, none⟩) zr.2.length zr.2.length, .string (bas zr.2), .slice so se.length sc, .int .i64 ((k + 1 : Nat) : Int), .int .i64 ((k : Nat) : Int), .int .i64 ((e5 : Nat) : Int), .int .i64 ((k + e5 : Nat) : Int), .pointer (some (ads.add (k + e5))), .string (bas zr.2), .bool false, .int .i64 ((e5 + 1 : Nat) : Int)] : List Value).getD kz undef), rfl, rfl, he5n, GG, HS, ⟨_, HL⟩⟩
  have he4n : e4 < gt.length := by have := of_decide_eq_true hp3; omega
  obtain ⟨lg, hlg⟩ : ∃ x, gt[e4]? = some x := ⟨_, List.getElem?_eq_getElem he4n⟩
  have hls : se[e4]? = some lg := by rw [HI.h3, List.getElem?_take, if_pos (by omega)] at hlg; exact hlg
  obtain ⟨adg, hgo, hgc⟩ := HS.gt.elem (j := e4) (v := stV lg) (by rw [List.getElem?_map, hlg]; rfl)
  obtain ⟨ads, hso, hsc⟩ := HS.se.elem (j := e4) (v := stV lg) (by rw [List.getElem?_map, hls]; rfl)
  refine wpList_nil ?_
  refine then_n ?_
  refine wp_seq ?_
  refine wp_cond_true rfl ?_
  refine wp_skip ?_
  refine then_n ?_
  refine wp_seq ?_
  refine wp_block ?_
  refine wp_seq ?_
  refine wp_region_lit ?_
  refine s_val 213 rfl rfl (.int .i64 ((e4 : Nat) : Int)) (rfl) ?_
  refine nr ?_; intro U h; simp only [z0, z1] at h; subst h
  refine s_val 23 rfl rfl (.int .i64 ((e4 : Nat) : Int)) (rfl) ?_
  refine nr ?_; intro U h; simp only [z0, z1] at h; subst h
  refine wpList_nil ?_
  refine then_n ?_
  refine wp_seq ?_
  refine wp_region_exA (A := ?Ax4) 8 [(0, 214), (1, 215), (2, 216), (3, 217), (4, 218), (5, 219), (6, 220), (7, 221)] [.val (.slice go gt.length gc), .val (.int .i64 ((e4 : Nat) : Int)), .val (.pointer (some (adg.add e4))), .val (.string (bas lg)), .val (.slice so se.length sc), .val (.int .i64 ((e4 : Nat) : Int)), .val (.pointer (some (ads.add e4))), .val (.string (bas lg))] follows (by kernel_rfl) rfl ?hAx4 (opsA_cons ?o0x4 (opsA_cons ?o1x4 (opsA_cons ?o2x4 (opsA_cons ?o3x4 (opsA_cons ?o4x4 (opsA_cons ?o5x4 (opsA_cons ?o6x4 (opsA_cons ?o7x4 opsA_nil)))))))) ?restx4
  case hAx4 =>
    intro ptrs
    simp only [full, foldSlots, filledE, postE, List.foldl_cons, List.foldl_nil, List.getD_cons_zero, List.getD_cons_succ, fill_val, List.set_cons_zero, List.set_cons_succ]
    exact rfl
  case o0x4 => exact fun _ _ _ _ => opE_move (v := .slice go gt.length gc) _ rfl rfl rfl
  case o1x4 => exact fun _ _ _ _ => opE_move (v := .int .i64 ((e4 : Nat) : Int)) _ rfl rfl rfl
  case o2x4 => exact fun _ _ hw _ => opE_value (v := .pointer (some (adg.add e4))) rfl (run_idx47 _ _ rfl adg gt.length gc e4 (by exact congrArg (fun a => Value.slice a gt.length gc) hgo) rfl he4n _)
  case o3x4 => exact fun _ _ hw _ => opE_value (v := .string (bas lg)) rfl (run_ld9 _ rfl _ rfl _ (gro_cell ((Gro.refl _).drew.trans hw) hgc))
  case o4x4 => exact fun _ _ _ _ => opE_move (v := .slice so se.length sc) _ rfl rfl rfl
  case o5x4 => exact fun _ _ _ _ => opE_move (v := .int .i64 ((e4 : Nat) : Int)) _ rfl rfl rfl
  case o6x4 => exact fun _ _ hw _ => opE_value (v := .pointer (some (ads.add e4))) rfl (run_idx47 _ _ rfl ads se.length sc e4 (by exact congrArg (fun a => Value.slice a se.length sc) hso) rfl (by omega) _)
  case o7x4 => exact fun _ _ hw _ => opE_value (v := .string (bas lg)) rfl (run_ld9 _ rfl _ rfl _ (gro_cell ((Gro.refl _).drew.trans hw) hsc))
  intro ptrs w9 GD hxE
  simp only [List.drop_succ_cons, List.drop_zero]
  replace HS := HS.gro ((Gro.refl _).drew.trans GD)
  replace HL := HL.gro ((Gro.refl _).drew.trans GD)
  replace GG := GG.drew.trans GD
  clear GD
  refine s_val 222 rfl rfl (.bool false) (run_nes_op _ _ _ rfl _ _ rfl rfl false (decide_eq_true rfl) _) ?_
  refine nr ?_; intro U h; simp only [z0, z1] at h; subst h
  refine wpList_nil ?_
  refine then_n ?_
  refine wp_cond_false rfl ?_
  refine wp_skip ?_
  refine blk_n ?_
  refine then_n ?_
  refine wp_region_lit ?_
  refine s_val 223 rfl rfl (.int .i64 ((e4 + 1 : Nat) : Int)) (run_addI 3 _ _ _ rfl ((e4 : Nat) : Int) 1 ((e4 + 1 : Nat) : Int) rfl rfl (by omega) (by omega) (by omega) _) ?_
  refine nr ?_; intro U h; simp only [z0, z1] at h; subst h
  refine s_val 211 rfl rfl (.int .i64 ((e4 + 1 : Nat) : Int)) (rfl) ?_
  refine nr ?_; intro U h; simp only [z0, z1] at h; subst h
  refine wpList_nil ?_
  refine then_n ?_
  exact ⟨_, (by omega : gt.length - (e4 + 1) < gt.length - e4), e4 + 1, (fun kz => ([us2 0, .int .i64 ((e4 : Nat) : Int), .bool true, .int .i64 ((e4 : Nat) : Int), .slice go gt.length gc, .int .i64 ((e4 : Nat) : Int), .pointer (some (adg.add e4)), .string (bas lg), .slice so se.length sc, .int .i64 ((e4 : Nat) : Int), .pointer (some (ads.add e4)), .string (bas lg), .bool false, .int .i64 ((e4 + 1 : Nat) : Int)] : List Value).getD kz undef), rfl, rfl, he4n, GG, HS, ⟨_, HL⟩⟩
end Go.Proofs.Ythlfjbnfeclkmaa
