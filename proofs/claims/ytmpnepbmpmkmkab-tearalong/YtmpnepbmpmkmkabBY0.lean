/- Drops as frames; rows of hops, of keys, of ints; what is torn, in memory. -/
import Derived.Test.YtmpnepbmpmkmkabBA1
import Derived.Test.YtmpnepbmpmkmkabBK1
import Derived.Test.YtmpnepbmpmkmkabBY1
namespace Go.Proofs.Ytmpnepbmpmkmkab
open Go.RowKit Go.Maps
/-- What a plain frame says, as far as it counts here. -/
structure Msg where
  kind : Int
  p : Pa
  a : Nat
  b : Nat
  l : List Int
def mDrop (p : Pa) : Msg := ⟨5, p, 0, 0, []⟩
theorem byt_0 : byt 0 = zF := by funext i; simp [byt, zF]
def drA (p : Pa) : Array Value := c75 (byt p.who) p.n
def frY (M : Msg) (ao : Option Addr) (cap : Nat) (g : Fr) : Fr := { g with kind := M.kind, pw := byt M.p.who, pn := M.p.n, a := byt M.a, b := byt M.b, tr := ⟨ao, M.l.length, cap⟩ }
def gz (s2 s3 s4 : Sl) : Fr := ⟨0, zF, 0, false, zF, zF, 0, 0, 0, 0, 0, Sl.nil, s2, zF, 0, zF, s3, 0, 0, s4⟩
def gN : Fr := gz Sl.nil Sl.nil Sl.nil
def hopA (n : Int) (f : Fr) : Array Value := (Value.int .i64 n :: (frA f).toList).toArray
def dM (M : Msg) : FD := ⟨M.l, [], [], []⟩
theorem oneH (k : Int) (M : Msg) (ao : Option Addr) (cap : Nat) (g : Fr) : (hopA k (frY M ao cap g)).all (·.oneCell') = true := by kernel_rfl
theorem bdR1 (p : Pa) (w : World) : (Instr.build 75 #[(0, .agg (paA p))]).run Try.prog w = .ok (.agg (drA p)) w := by kernel_rfl
theorem bdH2 (n : Int) (f : Fr) (w : World) : (Instr.build 53 #[(0, .int .i64 n), (1, .agg (frA f))]).run Try.prog w = .ok (.agg (hopA n f)) w := by kernel_rfl
theorem bdP1 (n : Int) (w : World) : (Instr.build 26 #[(1, .int .i64 n)]).run Try.prog w = .ok (.agg (paA ⟨0, n⟩)) w := by kernel_rfl
def i1 (x : Nat) : Nat := x * 1329227995784915872903807060280344576
def m0 : Msg := ⟨0, zP, 0, 0, []⟩
theorem plain5 (w : World) (p : Pa) : Calls Try.prog 22 #[.iface 75 (.agg (drA p))] w (fun e w' => ∃ a2 c2 s2 s3 s4, e = .returned (.agg (frA (frY (mDrop p) a2 c2 (gz s2 s3 s4)))) ∧ Gro w w' ∧ FrO w' w.heap.size (frY (mDrop p) a2 c2 (gz s2 s3 s4)) (dM (mDrop p))) := by
  have hw : FrW w (frY (mDrop p) none 0 gN) (dM (mDrop p)) := ⟨XC.nil w 1, XC.nil w 16, XC.nil w 1, XC.nil w 1, fun _ h => (by cases h), fun _ h => (by cases h), fun _ h => (by cases h)⟩
  have hs : FrS (frY (mDrop p) none 0 gN) := ⟨small_nil _, small_nil _, small_nil _, small_nil _⟩
  have h := plain_any 5 (by decide) (by decide) (frY (mDrop p) none 0 gN) (dM (mDrop p)) w hw hs
  refine Calls.mono h ?_
  rintro e w' ⟨⟨a2, n2, c2⟩, s2, s3, s4, he, HO, G⟩
  have hn : n2 = 0 := xc_len1 (l := ([] : List Int)) HO.tr.xc
  subst hn
  have e1 : frY (mDrop p) a2 c2 (gz s2 s3 s4) = { ({ bare 5 (frY (mDrop p) none 0 gN) with kind := ((5 : Nat) : Int) } : Fr) with tr := ⟨a2, 0, c2⟩, ids := s2, val := s3, tx := s4 } := by
    unfold frY mDrop gz bare
    simp only [byt_0]
    rfl
  refine ⟨a2, c2, s2, s3, s4, ?_, G, ?_⟩
  · rw [he, e1]
  · rw [e1]
    exact HO
/-- A hop that tells a Drop: the frame's rows are empty, wherever they stand. -/
structure Hp where
  n : Int
  p : Pa
  s1 : Sl
  s2 : Sl
  s3 : Sl
  s4 : Sl
structure Sl.mt (s : Sl) : Prop where
  n : s.n = 0
  bare : s.ao = none → s.cap = 0
structure Hp.ok (h : Hp) : Prop where
  n : I64 h.n
  p : h.p.ok
  s1 : h.s1.mt
  s2 : h.s2.mt
  s3 : h.s3.mt
  s4 : h.s4.mt
def Hp.fr (h : Hp) : Fr := frY (mDrop h.p) h.s1.ao h.s1.cap (gz h.s2 h.s3 h.s4)
def Hp.key (h : Hp) : Int × Pa := (h.n, h.p)
def hpL (h : Hp) : List Value := (hopA h.n h.fr).toList
theorem hpL_len (h : Hp) : (hpL h).length = 96 := by kernel_rfl
theorem hpL_one (h : Hp) : ∀ v ∈ hpL h, v.oneCell' = true := fun v hv => Array.all_eq_true_iff_forall_mem.1 (oneH h.n (mDrop h.p) h.s1.ao h.s1.cap (gz h.s2 h.s3 h.s4)) v (by simpa [hpL, Hp.fr] using hv)
def zHp : Hp := ⟨0, zP, Sl.nil, Sl.nil, Sl.nil, Sl.nil⟩
def kH : Kd Hp := ⟨hpL, 96, Hp.ok, zHp, hpL_len, hpL_one⟩
def kP : Kd Pa := ⟨paL, 17, Pa.ok, zP, paL_len, paL_one⟩
theorem mt_of {w : World} {s : Sl} {sz : Nat} {cs : List Value} (h : XC w sz s.ao s.cap s.n cs) (hn : s.n = 0) : s.mt := ⟨hn, fun e => h.bare e⟩
/-- What Plain answers of a Drop is such a frame. -/
theorem hp_of {w : World} {B : Nat} {p : Pa} (hp : p.ok) {k : Int} (hk : I64 k) {a2 : Option Addr} {c2 : Nat} {s2 s3 s4 : Sl} (h : FrO w B (frY (mDrop p) a2 c2 (gz s2 s3 s4)) (dM (mDrop p))) : (⟨k, p, ⟨a2, 0, c2⟩, s2, s3, s4⟩ : Hp).ok := by
  have hw : FrW w (frY (mDrop p) a2 c2 (gz s2 s3 s4)) (dM (mDrop p)) := ⟨h.tr.xc, h.ids.xc, h.val.xc, h.tx.xc, h.oids, h.oval, h.otx⟩
  exact ⟨hk, hp, ⟨rfl, fun e => hw.tr.bare e⟩, mt_of hw.ids hw.idn, mt_of hw.val (xc_len1 (l := ([] : List Nat)) hw.val), mt_of hw.tx (xc_len1 (l := ([] : List Nat)) hw.tx)⟩
theorem rH : RowT Try.prog 32 53 96 272 (.agg (hopA 0 (frY m0 none 0 gN))) := ⟨Try.underlying32, info_of (by kernel_rfl), by kernel_rfl, by decide⟩
theorem rP : RowT Try.prog 33 26 17 24 (.agg (paA zP)) := ⟨Try.underlying33, info_of (by kernel_rfl), by kernel_rfl, by decide⟩
theorem fdH_0 (ad : Addr) (w : World) : (Instr.fieldAt 53 (.pointer (some ad)) 0).run Try.prog w = .ok (.pointer (some (ad.add 0))) w := by kernel_rfl
theorem fdH_1 (ad : Addr) (w : World) : (Instr.fieldAt 53 (.pointer (some ad)) 1).run Try.prog w = .ok (.pointer (some (ad.add 1))) w := by kernel_rfl
theorem fdP_1 (ad : Addr) (w : World) : (Instr.fieldAt 26 (.pointer (some ad)) 1).run Try.prog w = .ok (.pointer (some (ad.add 16))) w := by kernel_rfl
theorem fdF_0 (ad : Addr) (w : World) : (Instr.fieldAt 51 (.pointer (some ad)) 0).run Try.prog w = .ok (.pointer (some (ad.add 0))) w := by kernel_rfl
theorem fdF_1 (ad : Addr) (w : World) : (Instr.fieldAt 51 (.pointer (some ad)) 1).run Try.prog w = .ok (.pointer (some (ad.add 1))) w := by kernel_rfl
/-- A part of a part of an element. -/
theorem run_fdKq {α : Type} {K : Kd α} {o : Oper} {A : Act} {w : World} {ao : Option Addr} {cap : Nat} {l : List α} (h : RK K w ao cap l) (ty : TypeId) (x : Operand) (i q r : Nat) (hf : ∀ ad, (Instr.fieldAt ty (.pointer (some ad)) i).run Try.prog w = .ok (.pointer (some (ad.add r))) w) (ho : o.op = .fieldAddr ty x i) (j : Nat) (hx : A.eval x = .pointer (pK K ao j q)) (hj : j < l.length) :
    (execOp A.eval o).run Try.prog w = .ok (.value (.pointer (pK K ao j (q + r)))) w := by
  obtain ⟨ad, rfl⟩ := h.xc.some (by omega)
  have := hf (ad.add (j * K.sz + q))
  rw [add_add, Nat.add_assoc] at this
  exact run_fdA ty x i ho hx _ this
section
variable {o : Oper} {A : Act} {w : World} {ao : Option Addr} {cap : Nat}
theorem run_ldHn {l : List Hp} (h : RK kH w ao cap l) (x : Operand) (ho : o.op = .load 3 x) (j : Nat) (hx : A.eval x = .pointer (pK kH ao j 0)) (hj : j < l.length) : (execOp A.eval o).run Try.prog w = .ok (.value (.int .i64 (l.getD j zHp).n)) w :=
  run_ldKc h 3 (na3 w) 0 (by decide) x ho j hx hj _ (by kernel_rfl)
theorem run_ldHk {l : List Hp} (h : RK kH w ao cap l) (x : Operand) (ho : o.op = .load 3 x) (j : Nat) (hx : A.eval x = .pointer (pK kH ao j 1)) (hj : j < l.length) : (execOp A.eval o).run Try.prog w = .ok (.value (.int .i64 5)) w :=
  run_ldKc h 3 (na3 w) 1 (by decide) x ho j hx hj _ (by kernel_rfl)
theorem run_ldHp {l : List Hp} (h : RK kH w ao cap l) (x : Operand) (ho : o.op = .load 26 x) (j : Nat) (hx : A.eval x = .pointer (pK kH ao j 2)) (hj : j < l.length) : (execOp A.eval o).run Try.prog w = .ok (.value (.agg (paA (l.getD j zHp).p))) w :=
  run_ldK h 26 _ Try.underlying26 rfl 2 17 si31 (by decide) x ho j hx hj _ (by kernel_rfl)
theorem run_ldHpn {l : List Hp} (h : RK kH w ao cap l) (x : Operand) (ho : o.op = .load 2 x) (j : Nat) (hx : A.eval x = .pointer (pK kH ao j 18)) (hj : j < l.length) : (execOp A.eval o).run Try.prog w = .ok (.value (.int .i64 (l.getD j zHp).p.n)) w :=
  run_ldKc h 2 (na2 w) 18 (by decide) x ho j hx hj _ (by kernel_rfl)
theorem run_ldPp {l : List Pa} (h : RK kP w ao cap l) (x : Operand) (ho : o.op = .load 26 x) (j : Nat) (hx : A.eval x = .pointer (pK kP ao j 0)) (hj : j < l.length) : (execOp A.eval o).run Try.prog w = .ok (.value (.agg (paA (l.getD j zP)))) w :=
  run_ldK h 26 _ Try.underlying26 rfl 0 17 si31 (by decide) x ho j hx hj _ (by kernel_rfl)
theorem run_ldPn {l : List Pa} (h : RK kP w ao cap l) (x : Operand) (ho : o.op = .load 2 x) (j : Nat) (hx : A.eval x = .pointer (pK kP ao j 16)) (hj : j < l.length) : (execOp A.eval o).run Try.prog w = .ok (.value (.int .i64 (l.getD j zP).n)) w :=
  run_ldKc h 2 (na2 w) 16 (by decide) x ho j hx hj _ (by kernel_rfl)
end
/-! ### What is torn, in memory -/
def tnA (ao : Option Addr) (n c : Nat) (bo : Option Addr) (m d : Nat) : Array Value := #[.slice ao n c, .slice bo m d]
structure TnP (w : World) (B : Nat) (t : Tn) (ao : Option Addr) (c : Nat) (H : List Hp) (bo : Option Addr) (d : Nat) : Prop where
  out : OW kH 53 w B ao c H
  lost : OW kP 26 w B bo d t.lost
  eq : H.map Hp.key = t.out
theorem oneT (ao : Option Addr) (n c : Nat) (bo : Option Addr) (m d : Nat) : (tnA ao n c bo m d).all (·.oneCell') = true := by kernel_rfl
theorem siT : (Try.prog.info? 35).map (·.size) = some 2 := by kernel_rfl
theorem zvT (w : World) : (zeroValue 35).run Try.prog w = .ok (.agg (tnA none 0 0 none 0 0)) w := by kernel_rfl
theorem bdT_ (w : World) : (Instr.build 35 #[]).run Try.prog w = .ok (.agg (tnA none 0 0 none 0 0)) w := by kernel_rfl
theorem spT_0 (ao : Option Addr) (n c : Nat) (bo : Option Addr) (m d : Nat) (a2 : Option Addr) (n2 c2 : Nat) : splice (tnA ao n c bo m d) 0 #[.slice a2 n2 c2] = tnA a2 n2 c2 bo m d := by kernel_rfl
theorem spT_1 (ao : Option Addr) (n c : Nat) (bo : Option Addr) (m d : Nat) (a2 : Option Addr) (n2 c2 : Nat) : splice (tnA ao n c bo m d) 1 #[.slice a2 n2 c2] = tnA ao n c a2 n2 c2 := by kernel_rfl
theorem naH (w : World) : (isAgg 32).run Try.prog w = .ok false w := by kernel_rfl
theorem naP (w : World) : (isAgg 33).run Try.prog w = .ok false w := by kernel_rfl
theorem siRH : (Try.prog.info? 32).map (·.size) = some 1 := by kernel_rfl
theorem siRP : (Try.prog.info? 33).map (·.size) = some 1 := by kernel_rfl
theorem ldT_o {o : Oper} {A : Act} {w : World} {ao : Option Addr} {n c : Nat} {bo : Option Addr} {m d : Nat} (y_ : Operand) (ho : o.op = .load 32 y_) (g_ : Nat) (hx : A.eval y_ = .pointer (some ⟨g_, 0, none⟩)) (hg : w.heap[g_]? = some (.cells (tnA ao n c bo m d) 35 (0, 0))) : (execOp A.eval o).run Try.prog w = .ok (.value (.slice ao n c)) w :=
  run_ldc 32 y_ ho g_ 0 hx 35 _ hg (naH w) _ (by kernel_rfl)
theorem ldT_l {o : Oper} {A : Act} {w : World} {ao : Option Addr} {n c : Nat} {bo : Option Addr} {m d : Nat} (y_ : Operand) (ho : o.op = .load 33 y_) (g_ : Nat) (hx : A.eval y_ = .pointer (some ⟨g_, 1, none⟩)) (hg : w.heap[g_]? = some (.cells (tnA ao n c bo m d) 35 (0, 0))) : (execOp A.eval o).run Try.prog w = .ok (.value (.slice bo m d)) w :=
  run_ldc 33 y_ ho g_ 1 hx 35 _ hg (naP w) _ (by kernel_rfl)
theorem ldT_0 {o : Oper} {A : Act} {w : World} {ao : Option Addr} {n c : Nat} {bo : Option Addr} {m d : Nat} (y_ : Operand) (ho : o.op = .load 35 y_) (g_ : Nat) (hx : A.eval y_ = .pointer (some ⟨g_, 0, none⟩)) (hg : w.heap[g_]? = some (.cells (tnA ao n c bo m d) 35 (0, 0))) : (execOp A.eval o).run Try.prog w = .ok (.value (.agg (tnA ao n c bo m d))) w :=
  run_lda 35 y_ ho g_ 0 2 hx 35 _ hg _ Try.underlying35 rfl siT (by show 0 + 2 ≤ 2; omega) _ (by kernel_rfl)
/-- Rows of ints. -/
def kZ : Kd Int := ⟨fun x => [.int .i64 x], 1, I64, 0, fun _ => rfl, fun _ v hv => by rw [List.mem_singleton.1 hv]; rfl⟩
theorem rZ : RowT Try.prog 22 3 1 8 (.int .i64 0) := ⟨Try.underlying22, info_of (by kernel_rfl), rfl, by decide⟩
theorem run_ldZ {o : Oper} {A : Act} {w : World} {ao : Option Addr} {cap : Nat} {l : List Int} (h : RK kZ w ao cap l) (x : Operand) (ho : o.op = .load 3 x) (j : Nat) (hx : A.eval x = .pointer (pK kZ ao j 0)) (hj : j < l.length) : (execOp A.eval o).run Try.prog w = .ok (.value (.int .i64 (l.getD j 0))) w :=
  run_ldKc h 3 (na3 w) 0 (by decide) x ho j hx hj _ rfl
/-! ### Worlds of which only what is old counts, one block apart -/
structure BelB (B b : Nat) (w w' : World) : Prop where
  os : w'.os = w.os
  tape : w'.tape = w.tape
  output : w'.output = w.output
  size : w.heap.size ≤ w'.heap.size
  hB : B ≤ w.heap.size
  old : ∀ k, k < B → k ≠ b → w'.heap[k]? = w.heap[k]?
section
variable {B b : Nat} {w x y : World}
theorem BelB.refl (hB : B ≤ w.heap.size) : BelB B b w w := ⟨rfl, rfl, rfl, Nat.le_refl _, hB, fun _ _ _ => rfl⟩
theorem BelB.gs {S : List Nat} (h : BelB B b w x) (G : GroS S x y) (hs : ∀ k ∈ S, B ≤ k ∨ k = b) : BelB B b w y :=
  ⟨G.os.trans h.os, G.tape.trans h.tape, G.output.trans h.output, Nat.le_trans h.size G.size, h.hB, fun k hk hn => (G.old k (Nat.lt_of_lt_of_le hk (Nat.le_trans h.hB h.size)) (fun hm => by
    rcases hs k hm with h | h
    · omega
    · exact hn h)).trans (h.old k hk hn)⟩
theorem BelB.tg (h : BelB B b w x) (G : Gro x y) : BelB B b w y := h.gs (S := []) (.of G) (fun _ hm => by cases hm)
theorem BelB.drew (h : BelB B b w x) : BelB B b w x.drew := h.tg (Gro.refl x).drew
theorem BelB.st {g : Nat} {o : Obj} (h : BelB B b w x) (St : Stored x y g o) (hg : w.heap.size ≤ g ∨ g = b) : BelB B b w y := h.gs St.gros fun k hk => by
  rw [List.mem_singleton] at hk
  have := h.hB
  rcases hg with hg | hg
  · exact .inl (by omega)
  · exact .inr (by omega)
theorem size_basB {g : Nat} (h : BelB B b w x) (e : x.heap.size = g) : w.heap.size ≤ g := e ▸ h.size
theorem BelB.has {k : Nat} {o : Obj} (h : BelB B b w x) (hk : w.heap[k]? = some o) (hl : k < B) (hn : k ≠ b) : x.heap[k]? = some o := (h.old k hl hn).trans hk
/-- All that was there: a change of one block alone. -/
theorem BelB.gros (h : BelB w.heap.size b w x) : GroS [b] w x := ⟨h.os, h.tape, h.output, h.size, fun k hk hn => h.old k hk (fun e => hn (by simp [e]))⟩
theorem BelB.after {v : World} (h : BelB B b w x) (G : GroS [b] v w) (hv : v.heap.size ≤ B) : GroS [b] v x :=
  ⟨h.os.trans G.os, h.tape.trans G.tape, h.output.trans G.output, Nat.le_trans G.size h.size, fun k hk hn => (h.old k (by omega) (fun e => hn (by simp [e]))).trans (G.old k hk hn)⟩
end
section
variable {α : Type} {K : Kd α} {e : TypeId} {w w' : World} {ao : Option Addr} {cap B b g : Nat} {l : List α} {L : List En}
theorem OW.mapw (h : OW K e w B ao cap l) (HT : TM w b L) (G : GroS [b] w w') : OW K e w' B ao cap l := h.gros G fun k hk hm => by
  obtain ⟨_, c, hc⟩ := h.own.at k hk
  rw [List.mem_singleton] at hm
  exact HT.nec hc hm
theorem OW.stT {x : Obj} {cs : Array Value} {t : TypeId} (h : OW K e w B ao cap l) (St : Stored w w' g x) (kg : w.heap[g]? = some (.cells cs t (0, 0))) (ht : t ≠ e) : OW K e w' B ao cap l := h.st St (h.own.ne kg ht)
end
section
variable {w w' : World} {B : Nat} {t : Tn} {ao : Option Addr} {c : Nat} {H : List Hp} {bo : Option Addr} {d : Nat}
theorem TnP.nil (w : World) (B : Nat) : TnP w B tn0 none 0 [] none 0 := ⟨OW.nil w B, OW.nil w B, rfl⟩
theorem TnP.gro (h : TnP w B t ao c H bo d) (G : Gro w w') : TnP w' B t ao c H bo d := ⟨h.out.gro G, h.lost.gro G, h.eq⟩
theorem TnP.mono (h : TnP w B t ao c H bo d) {B' : Nat} (hB : B' ≤ B) : TnP w B' t ao c H bo d := ⟨h.out.mono hB, h.lost.mono hB, h.eq⟩
theorem TnP.mapw {b : Nat} {L : List En} (h : TnP w B t ao c H bo d) (HT : TM w b L) (G : GroS [b] w w') : TnP w' B t ao c H bo d := ⟨h.out.mapw HT G, h.lost.mapw HT G, h.eq⟩
theorem TnP.st {g : Nat} {cs : Array Value} {u : TypeId} {x : Obj} (h : TnP w B t ao c H bo d) (St : Stored w w' g x) (kg : w.heap[g]? = some (.cells cs u (0, 0))) (h1 : u ≠ 53) (h2 : u ≠ 26) : TnP w' B t ao c H bo d := ⟨h.out.stT St kg h1, h.lost.stT St kg h2, h.eq⟩
theorem TnP.len (h : TnP w B t ao c H bo d) : H.length = t.out.length := by rw [← h.eq, List.length_map]
end
theorem ne_cells {w : World} {a b : Nat} {A B : Array Value} {t1 t2 : TypeId} (h1 : w.heap[a]? = some (.cells A t1 (0, 0))) (h2 : w.heap[b]? = some (.cells B t2 (0, 0))) (ht : t1 ≠ t2) : a ∉ [b] := fun hm => by
  rw [List.mem_singleton] at hm
  rw [hm, h2] at h1
  injection h1 with h1
  injection h1 with _ h1
  exact ht h1.symm
/-- A region with one operation that writes: what holds on. -/
theorem hav_mix {posts : List PostE} {n e0 : Nat} {w0 : World} {S : List Nat} (X Y : List Nat) (hS : ((List.range n).all fun j => j == e0 || (X.contains j || Y.contains j)) = true) (hv : allVal posts X) (hy : ∀ j ∈ Y, ∀ v a b, Gro w0 a → GroS S a b → (postE posts j).p v a → (postE posts j).p v b) : ∀ j, j < n → j ≠ e0 → ∀ v a b, Gro w0 a → GroS S a b → (postE posts j).p v a → (postE posts j).p v b := fun j hj hne v a b ha hb hp => by
  have h1 := List.all_eq_true.1 hS j (List.mem_range.2 hj)
  rw [Bool.or_eq_true, Bool.or_eq_true] at h1
  rcases h1 with h1 | h1 | h1
  · exact absurd (by simpa using h1) hne
  · obtain ⟨u, hu⟩ := allVal_at hv j (by simpa using h1)
    rw [hu] at hp ⊢
    exact hp
  · exact hy j (by simpa using h1) v a b ha hb hp
end Go.Proofs.Ytmpnepbmpmkmkab
