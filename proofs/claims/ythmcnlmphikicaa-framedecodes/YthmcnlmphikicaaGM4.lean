/- Rows that are read: laws for the document's Decode. -/
import Derived.Test.YthmcnlmphikicaaGM3
import Derived.Test.YthmcnlmphikicaaGLaw6
import Derived.Test.YthmcnlmphikicaaGB1
import Derived.Test.YthmcnlmphikicaaGL1
namespace Go.Proofs.Ythmcnlmphikicaa
open Go.RowKit
def stB (ops : Array Oper) (n : Nat) (dead : List (Nat × Nat)) (i : Nat) (S : List Nat) : Bool := (List.range n).all fun j => j == i || S.contains j || reach ops ops.size j i || dead.contains (i, j)
def allVal (posts : List PostE) : List Nat → Prop
  | [] => True
  | j :: r => (∃ v, postE posts j = .val v) ∧ allVal posts r
theorem allVal_at {posts : List PostE} : ∀ {S : List Nat}, allVal posts S → ∀ j ∈ S, ∃ v, postE posts j = .val v
  | [], _, _, h => by cases h
  | _ :: _, h, j, hj => by
    rcases List.mem_cons.1 hj with rfl | hj
    · exact h.1
    · exact allVal_at h.2 j hj
theorem StM.vals {ops : Array Oper} {n : Nat} {posts : List PostE} {dead : List (Nat × Nat)} {i : Nat} {w w' : World} (S : List Nat) (hS : stB ops n dead i S = true) (hv : allVal posts S) : StM ops n (postE posts) dead i w w' := fun j hj hne hr hd u hp => by
  have h1 := List.all_eq_true.1 hS j (List.mem_range.2 hj)
  simp only [Bool.or_eq_true, beq_iff_eq, List.contains_iff_mem, hr] at h1
  rcases h1 with ((h1 | h1) | h1) | h1
  · exact absurd h1 hne
  · obtain ⟨v, e⟩ := allVal_at hv j h1
    rw [e] at hp ⊢
    exact hp
  · cases h1
  · exact absurd h1 hd
def blk (ao : Option Addr) : List Nat := match ao with
  | none => []
  | some ad => [ad.block]
theorem mem_blk {ao : Option Addr} {k : Nat} : k ∈ blk ao ↔ ∃ ad, ao = some ad ∧ ad.block = k := by
  cases ao <;> simp [blk, eq_comm]
theorem gror_of {g : Nat} {w w' : World} (G : GroS [g] w w') : GroR g w w' := ⟨G.os, G.tape, G.output, G.size, fun k hk hn => G.old k hk (by simpa using hn)⟩
theorem OX.gros {S : List Nat} {w w' : World} {e : TypeId} {sz B : Nat} {ao : Option Addr} {cap n : Nat} {cs : List Value} (h : OX w e sz B ao cap n cs) (G : GroS S w w') (hs : ∀ ad, ao = some ad → ad.block ∉ S) : OX w' e sz B ao cap n cs := by
  refine ⟨⟨h.own.1, ?_⟩, h.one⟩
  rcases h.own.2 with h1 | ⟨g, c, cur, h1, h2, h3, h4⟩
  · exact .inl h1
  · refine .inr ⟨g, c, cur, h1, h2, G.has h3 ?_, h4⟩
    injection h1 with h1
    exact hs _ h1
theorem OX.dis {w : World} {e e' : TypeId} {sz sz' B B' : Nat} {ao ao' : Option Addr} {cap cap' n n' : Nat} {cs cs' : List Value} (h : OX w e sz B ao cap n cs) (h' : OX w e' sz' B' ao' cap' n' cs') (hne : e' ≠ e) : ∀ ad, ao' = some ad → ad.block ∉ blk ao := fun ad ha hm => by
  obtain ⟨ad2, h2, h3⟩ := mem_blk.1 hm
  obtain ⟨c1, k1⟩ := h.ty h2
  obtain ⟨c2, k2⟩ := h'.ty ha
  exact ne_type k2 k1 hne h3.symm
theorem run_appX {P : Program} {o : Oper} {a : Act} {w : World} {t e : TypeId} {sz b : Nat} {z : Value} (T : RowT P t e sz b z) (s x : Operand)
    (ho : o.op = .call { callee := .builtin .append, args := #[s, x], argTypes := #[t, t] }) {B : Nat} {ao : Option Addr} {cap n : Nat} {cs : List Value} (hs : a.eval s = .slice ao n cap) (hown : OX w e sz B ao cap n cs)
    {ad : Addr} {cap' m : Nat} {cs' : List Value} (hx : a.eval x = .slice (some ad) m cap') (hsrc : XC w sz (some ad) cap' m cs') (hb : (n + m) * b ≤ 140737488355328) (hb0 : 0 < b) (hB : B ≤ w.heap.size) :
    ∃ ao2 cap2 w', (execOp a.eval o).run P w = .ok (.value (.slice ao2 (n + m) cap2)) w' ∧ OX w' e sz B ao2 cap2 (n + m) (cs ++ cs') ∧ GroS (blk ao) w w' := by
  obtain ⟨i, hi, hz, hsz, hby⟩ := T.info
  have hle : n + m ≤ 140737488355328 := Nat.le_trans (Nat.le_mul_of_pos_right _ hb0) hb
  obtain ⟨v', w', hr, h1, h2, _⟩ := run_append_own (P := P) w B t o.type e i z sz b T.und hi hz hsz hby T.zs T.pos _ n _ hown.own ad m cap' cs' hsrc.len (fun j u hu => hsrc.cell ad rfl j u hu) hsrc.one (by simp only [maxLen]; omega) hb hB
  have hrun : (execOp a.eval o).run P w = .ok (.value v') w' := by
    unfold execOp
    simp only [ho, resolve, invoke, builtin, Sem.run_bind, Sem.run_pure, Result.andThen_ok, List.map_toArray, List.map_cons, List.map_nil, hs, hx, hr]
  have hG : GroS (blk ao) w w' := ⟨h2.os, h2.tape, h2.output, h2.size, fun k hk hn => h2.block k hk (fun e => hn (by
    cases ao with
    | none => cases e
    | some a =>
      have : a.block = k := by simpa [Value.ownBlock] using e.symm
      exact mem_blk.2 ⟨a, rfl, this⟩))⟩
  have hone : ∀ v ∈ cs ++ cs', v.oneCell' = true := fun v hv => by
    rcases List.mem_append.1 hv with hv | hv
    · exact hown.one v hv
    · exact hsrc.one v hv
  rw [hrun]
  rcases h1.2 with ⟨rfl, h4⟩ | ⟨g, c, cur, rfl, _⟩
  · refine ⟨none, 0, w', ?_, ⟨by rw [h4] at h1; rw [h4]; exact h1, hone⟩, hG⟩
    rw [h4]
  · exact ⟨_, _, w', rfl, ⟨h1, hone⟩, hG⟩
theorem opX_appX {P : Program} {ops : Array Oper} {R1 : World → Prop} {o : Oper} {A : Act} {w : World} {t e : TypeId} {sz b : Nat} {z : Value} (T : RowT P t e sz b z) (kk : PostE) (hw : Region.wanted o (yielded ops A.tmps) = true) (s x : Operand)
    (ho : o.op = .call { callee := .builtin .append, args := #[s, x], argTypes := #[t, t] }) {B : Nat} {ao : Option Addr} {cap n : Nat} {cs : List Value} (hs : A.eval s = .slice ao n cap) (hown : OX w e sz B ao cap n cs)
    {ad : Addr} {cap' m : Nat} {cs' : List Value} (hx : A.eval x = .slice (some ad) m cap') (hsrc : XC w sz (some ad) cap' m cs') (hb : (n + m) * b ≤ 140737488355328) (hb0 : 0 < b) (hB : B ≤ w.heap.size)
    (H : ∀ ao2 cap2 w', OX w' e sz B ao2 cap2 (n + m) (cs ++ cs') → GroS (blk ao) w w' → R1 w' ∧ kk.p (.slice ao2 (n + m) cap2) w') : OpX P ops R1 kk o A w := by
  obtain ⟨ao2, cap2, w', hr, h1, h2⟩ := run_appX T s x ho hs hown hx hsrc hb hb0 hB
  exact ⟨hw, by rw [hr]; exact H ao2 cap2 w' h1 h2⟩
def xbE (sz : Nat) (cs : List Value) : PostE := .ex (fun v w => ∃ g, v = .slice (some ⟨g, 0, none⟩) 1 1 ∧ XC w sz (some ⟨g, 0, none⟩) 1 1 cs) fun _ _ _ hg ⟨g, h1, h2⟩ => ⟨g, h1, h2.gro hg⟩
theorem fill_xb (sz : Nat) (cs : List Value) (v : Value) : (xbE sz cs).fill v = v := rfl
def oxE (e : TypeId) (sz B n : Nat) (cs : List Value) : PostE := .ex (fun v w => ∃ ao cap, v = .slice ao n cap ∧ OX w e sz B ao cap n cs) fun _ _ _ hg ⟨ao, cap, h1, h2⟩ => ⟨ao, cap, h1, h2.gro hg⟩
theorem fill_ox (e : TypeId) (sz B n : Nat) (cs : List Value) (v : Value) : (oxE e sz B n cs).fill v = v := rfl
structure PJ (w : World) (g1 g2 g3 B : Nat) (c1 c2 c2' c3 : Array Value) (OR OT : World → Prop) (L : Nat → Bool) (x : World) : Prop where
  gg : Gro w x
  k1 : x.heap[g1]? = some (.cells c1 36 (0, 0))
  k2 : x.heap[g2]? = some (.cells (if L 3 = true then c2' else c2) 72 (0, 0))
  k3 : x.heap[g3]? = some (.cells c3 36 (0, 0))
  bs : B ≤ x.heap.size
  row : L 5 = false → OR x
  ot : OT x
theorem PJ.grow {w : World} {g1 g2 g3 B : Nat} {c1 c2 c2' c3 : Array Value} {OR OT : World → Prop} {L : Nat → Bool} {x y : World} {i : Nat} (h : PJ w g1 g2 g3 B c1 c2 c2' c3 OR OT L x) (e3 : upd L i 3 = L 3) (e5 : upd L i 5 = L 5) (hR : ∀ a b, Gro a b → OR a → OR b) (hT : ∀ a b, Gro a b → OT a → OT b) (G : Gro x y) : PJ w g1 g2 g3 B c1 c2 c2' c3 OR OT (upd L i) y :=
  ⟨h.gg.trans G, G.has h.k1, by rw [e3]; exact G.has h.k2, G.has h.k3, Nat.le_trans h.bs G.size, fun e => hR _ _ G (h.row (by rw [← e5]; exact e)), hT _ _ G h.ot⟩
theorem PJ.call {w : World} {g1 g2 g3 B : Nat} {c1 c2 c2' c3 : Array Value} {OR OT : World → Prop} {L : Nat → Bool} {x y : World} (h : PJ w g1 g2 g3 B c1 c2 c2' c3 OR OT L x) (n1 : g1 < g2) (n3 : g2 < g3) (hw : w.heap.size ≤ g2) (G : GroS [g2] x y) (kn : y.heap[g2]? = some (.cells c2' 72 (0, 0))) (hR : OR x → OR y) (hT : OT x → OT y) : PJ w g1 g2 g3 B c1 c2 c2' c3 OR OT (upd L 3) y :=
  ⟨G.gro h.gg (by simp; omega), G.has h.k1 (by simp; omega), kn, G.has h.k3 (by simp; omega), Nat.le_trans h.bs G.size, fun e => hR (h.row e), hT h.ot⟩
theorem PJ.app {w : World} {g1 g2 g3 B : Nat} {c1 c2 c2' c3 : Array Value} {OR OT : World → Prop} {L : Nat → Bool} {x y : World} {ao : Option Addr} (h : PJ w g1 g2 g3 B c1 c2 c2' c3 OR OT L x) (hwB : w.heap.size ≤ B) (n1 : g1 < B) (n2 : g2 < B) (n3 : g3 < B) (G : GroS (blk ao) x y) (hge : ∀ ad, ao = some ad → B ≤ ad.block) (hT : OT y) : PJ w g1 g2 g3 B c1 c2 c2' c3 OR OT (upd L 5) y := by
  have hb : ∀ k ∈ blk ao, B ≤ k := fun k hk => by
    obtain ⟨ad, h1, rfl⟩ := mem_blk.1 hk
    exact hge ad h1
  have hn : ∀ g, g < B → g ∉ blk ao := fun g hg hm => by have := hb g hm; omega
  exact ⟨G.gro h.gg (fun k hk => Nat.le_trans hwB (hb k hk)), G.has h.k1 (hn _ n1), G.has h.k2 (hn _ n2), G.has h.k3 (hn _ n3), Nat.le_trans h.bs G.size, fun e => (by cases e), hT⟩
theorem dRX_le {l : List Nat} {lo hi er a e v a1 e1 : Nat} (h : dR (rdX lo hi er l) 0 a e = (v, a1, e1)) : v ≤ hi := by
  by_cases he : e = 0
  · subst he
    cases hr : rdX lo hi er l a with
    | error x => rw [dR_err hr] at h; cases h; exact Nat.zero_le _
    | ok p =>
      obtain ⟨x, q⟩ := p
      rw [dR_ok hr] at h
      cases h
      unfold rdX at hr
      cases hN : rdN l a with
      | error y => rw [hN, tR_err] at hr; cases hr
      | ok p =>
        obtain ⟨y, q⟩ := p
        rw [hN, tR_ok] at hr
        split at hr
        · cases hr
        · cases hr; omega
  · rw [dR_skip he] at h
    cases h
    exact Nat.zero_le _
theorem dRI_len {l : List Nat} {a e a1 e1 : Nat} {v : List Nat} (h : dR (rdI l) z16 a e = (v, a1, e1)) : v.length = 16 := by
  by_cases he : e = 0
  · subst he
    cases hr : rdI l a with
    | error x => rw [dR_err hr] at h; cases h; rfl
    | ok p =>
      obtain ⟨x, q⟩ := p
      rw [dR_ok hr] at h
      cases h
      unfold rdI at hr
      have h16 := getI_len l (a : Int)
      obtain ⟨⟨y, q, e⟩, hg⟩ : ∃ r, getI l (a : Int) = r := ⟨_, rfl⟩
      rw [hg] at hr h16
      cases e with
      | succ n => cases hr
      | zero => cases hr; exact h16
  · rw [dR_skip he] at h
    cases h
    rfl
theorem itD_next {α : Type} {m : Dm α} {n a e a1 e1 : Nat} {xs : List α} (h : itD m n a e = (xs, a1, e1)) {x : α} {a2 e2 : Nat} (hx : m a1 e1 = (x, a2, e2)) : itD m (n + 1) a e = (xs ++ [x], a2, e2) := by
  simp only [itD, bD, pD, h, hx]
theorem hopD_at {l : List Nat} {a e v a1 e1 : Nat} (h : dR (rdX 0 5 2 l) 0 a e = (v, a1, e1)) : hopD l a e = (((v : Nat) : Int), a1, e1) := by
  simp only [hopD, bD, pD, h]
theorem stD_102 (l : List Nat) (s : Fr × FD) : stD l 102 s = ltD102 l s := rfl
theorem stD_116 (l : List Nat) (s : Fr × FD) : stD l 116 s = ltD116 l s := rfl
theorem stD_110 (l : List Nat) (s : Fr × FD) : stD l 110 s = ltD110 l s := rfl
theorem stD_112 (l : List Nat) (s : Fr × FD) : stD l 112 s = ltD112 l s := rfl
theorem stD_97 (l : List Nat) (s : Fr × FD) : stD l 97 s = ltD97 l s := rfl
theorem stD_98 (l : List Nat) (s : Fr × FD) : stD l 98 s = ltD98 l s := rfl
theorem stD_100 (l : List Nat) (s : Fr × FD) : stD l 100 s = ltD100 l s := rfl
theorem stD_114 (l : List Nat) (s : Fr × FD) : stD l 114 s = ltD114 l s := rfl
theorem stD_115 (l : List Nat) (s : Fr × FD) : stD l 115 s = ltD115 l s := rfl
theorem stD_105 (l : List Nat) (s : Fr × FD) : stD l 105 s = ltD105 l s := rfl
theorem stD_107 (l : List Nat) (s : Fr × FD) : stD l 107 s = ltD107 l s := rfl
theorem stD_108 (l : List Nat) (s : Fr × FD) : stD l 108 s = ltD108 l s := rfl
theorem stD_111 (l : List Nat) (s : Fr × FD) : stD l 111 s = ltD111 l s := rfl
theorem stD_119 (l : List Nat) (s : Fr × FD) : stD l 119 s = ltD119 l s := rfl
theorem stD_120 (l : List Nat) (s : Fr × FD) : stD l 120 s = ltD120 l s := rfl
theorem stD_121 (l : List Nat) (s : Fr × FD) : stD l 121 s = ltD121 l s := rfl
theorem stD_no (l : List Nat) (c : Nat) (s : Fr × FD) (h102 : c ≠ 102) (h116 : c ≠ 116) (h110 : c ≠ 110) (h112 : c ≠ 112) (h97 : c ≠ 97) (h98 : c ≠ 98) (h100 : c ≠ 100) (h114 : c ≠ 114) (h115 : c ≠ 115) (h105 : c ≠ 105) (h107 : c ≠ 107) (h108 : c ≠ 108) (h111 : c ≠ 111) (h119 : c ≠ 119) (h120 : c ≠ 120) (h121 : c ≠ 121) : stD l c s = pD s := by
  unfold stD
  simp only [if_neg h102, if_neg h116, if_neg h110, if_neg h112, if_neg h97, if_neg h98, if_neg h100, if_neg h114, if_neg h115, if_neg h105, if_neg h107, if_neg h108, if_neg h111, if_neg h119, if_neg h120, if_neg h121]
end Go.Proofs.Ythmcnlmphikicaa
