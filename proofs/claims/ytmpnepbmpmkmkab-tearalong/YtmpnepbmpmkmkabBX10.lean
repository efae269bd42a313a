/- A Drop that is handed on along a path. -/
import Derived.Test.YtmpnepbmpmkmkabBX9
namespace Go.Proofs.Ytmpnepbmpmkmkab
open Classical
open Go.RowKit Go.Maps
/-- A region in whatever order with new blocks, the frame written out by the caller. -/
def opsA2 (P : Program) (ops : Array Oper) (posts : List PostS) (A : (Nat → Value) → Act) (w0 : World) : Nat → List Oper → Prop
  | _, [] => True
  | i, o :: r => (∀ ptrs L w, Gro w0 w → newsHold2 L w0.heap.size posts ptrs w (edges o) → L i = false → OpOK2 P ops (postAt2 posts i) (postAt2 posts (postAt2 posts i).other) (ptrs (postAt2 posts i).other) o (A ptrs) w) ∧ opsA2 P ops posts A w0 (i + 1) r
theorem opsA2_nil {P : Program} {ops : Array Oper} {posts : List PostS} {A : (Nat → Value) → Act} {w0 : World} {i : Nat} : opsA2 P ops posts A w0 i [] := trivial
theorem opsA2_cons {P : Program} {ops : Array Oper} {posts : List PostS} {A : (Nat → Value) → Act} {w0 : World} {i : Nat} {o : Oper} {r : List Oper}
    (h : ∀ ptrs L w, Gro w0 w → newsHold2 L w0.heap.size posts ptrs w (edges o) → L i = false → OpOK2 P ops (postAt2 posts i) (postAt2 posts (postAt2 posts i).other) (ptrs (postAt2 posts i).other) o (A ptrs) w) (hr : opsA2 P ops posts A w0 (i + 1) r) : opsA2 P ops posts A w0 i (o :: r) := ⟨h, hr⟩
theorem ops2_of_A {P : Program} {ops : Array Oper} {posts : List PostS} {a0 : Act} {D : List (Nat × Nat)} {w0 : World} : ∀ (l : List Oper) (i : Nat), opsA2 P ops posts (fun ptrs => full a0 D (filled2 posts ptrs)) w0 i l → opsOK2 P ops posts a0 D w0 i l
  | [], _, _ => trivial
  | _ :: r, i, h => ⟨h.1, ops2_of_A r (i + 1) h.2⟩
theorem wp_region_g2A {P : Program} {id : Nat} {l : List Oper} {Q : Exit → Act → World → Prop} {a0 : Act} {w : World} {A : (Nat → Value) → Act} (n : Nat) (D : List (Nat × Nat)) (posts : List PostS) (hm : P.follows .mixedOrders = true)
    (hB : growB l.toArray n D = true) (hP : postsB l.toArray n (postAt2 posts) = true) (hsz : (D.all fun p => decide (p.2 < a0.tmps.size)) = true)
    (hA : ∀ ptrs, full a0 D (filled2 posts ptrs) = A ptrs)
    (hop : opsA2 P l.toArray posts A w.drew 0 (l.take n))
    (hrest : ∀ ptrs L w', Gro w.drew w' → (∀ i, L i = decide (i < n)) → newsHold2 L w.heap.size posts ptrs w' (List.range n) → newsApart2 posts ptrs n → wpList P l.toArray Q (l.drop n) (A ptrs) w') :
    (Code.region id l.toArray true).wp P Q a0 w := by
  have e : A = fun ptrs => full a0 D (filled2 posts ptrs) := funext fun ptrs => (hA ptrs).symm
  subst e
  exact wp_region_grow2 n D posts hm hB hP hsz (ops2_of_A _ _ hop) hrest
section
variable {w : World} {ao : Option Addr} {cap B b g : Nat} {l L : List En}
theorem RE.neG (h : RE w ao cap l) (c : w.heap.size ≤ g) : NE ao (flE l).length g := fun ad ha h0 => by
  have := h.lt ad ha h0
  omega
theorem OE.neG (h : OE w B ao cap l) (c : w.heap.size ≤ g) : g ∉ Go.Proofs.Ytmpnepbmpmkmkab.blk ao := fun hm => by
  have := h.own.lt g hm
  omega
theorem TM.neG (h : TM w b L) (c : w.heap.size ≤ g) : b ≠ g := by have := h.lt; omega
theorem RK.neG {α : Type} {K : Kd α} {l : List α} (h : RK K w ao cap l) (c : w.heap.size ≤ g) : NE ao (l.flatMap K.E).length g := fun ad ha h0 => by
  have := h.lt ad ha h0
  omega
theorem OW.neG {α : Type} {K : Kd α} {e : TypeId} {l : List α} (h : OW K e w B ao cap l) (c : w.heap.size ≤ g) : g ∉ Go.Proofs.Ytmpnepbmpmkmkab.blk ao := fun hm => by
  have := h.own.lt g hm
  omega
end
theorem Tbs.neG {w : World} {ts bs : List Nat} {F : Nat → List En} {n g : Nat} (_ : Tbs w ts bs F n) (_ : w.heap.size ≤ g) : True := trivial
theorem TnP.neG {w : World} {B g : Nat} {t : Tn} {ao : Option Addr} {c : Nat} {H : List Hp} {bo : Option Addr} {d : Nat} (_ : TnP w B t ao c H bo d) (_ : w.heap.size ≤ g) : True := trivial
section
variable {o : Oper} {A : Act}
theorem cv_iu (x : Operand) (ho : o.op = .convert 3 31 x) (n : Int) (hx : A.eval x = .int .i64 n) (u : Nat) (hu : n % 18446744073709551616 = (u : Int)) (w : World) : (execOp A.eval o).run Try.prog w = .ok (.value (.int .u64 (u : Int))) w := by
  have h : IntKind.u64.wrap n = (u : Int) := by
    rw [← hu]
    simp [IntKind.wrap, IntKind.bits, IntKind.signed]
  unfold execOp
  simp only [ho, hx]
  simp [go_sem, h]
theorem cv_ui (x : Operand) (ho : o.op = .convert 31 3 x) (k : Nat) (hk : k < 9223372036854775808) (hx : A.eval x = .int .u64 (k : Int)) (w : World) : (execOp A.eval o).run Try.prog w = .ok (.value (.int .i64 (k : Int))) w := by
  have h : IntKind.i64.wrap (k : Int) = (k : Int) := wrap_in _ (by omega) (by omega)
  unfold execOp
  simp only [ho, hx]
  simp [go_sem, h]
theorem run_remU (t t2 : TypeId) (x y : Operand) (ho : o.op = .binOp .rem t x y t2) (a b : Nat) (hx : A.eval x = .int .u64 (a : Int)) (hy : A.eval y = .int .u64 (b : Int)) (hb : 0 < b) (r : Nat) (hr : a % b = r) (w : World) : (execOp A.eval o).run Try.prog w = .ok (.value (.int .u64 (r : Int))) w := by
  refine run_binop .rem t x y t2 ho _ _ _ hx hy (by simp [eqGuard]) ?_
  have h2 : ((a : Int)).tmod (b : Int) = ((a % b : Nat) : Int) := by rw [Int.tmod_eq_emod_of_nonneg (by omega)]; rfl
  have h3 : ¬ (b : Int) = 0 := by omega
  subst hr
  simp only [binOp, Op.intDiv, h3, if_false, h2]
  simp
end
structure AlR (w0 : World) (b : Nat) (L : List En) (x : World) : Prop where
  g : GroS [b] w0 x
  t : TM x b L
theorem AlR.gro {w0 x y : World} {b : Nat} {L : List En} (h : AlR w0 b L x) (G : Gro x y) : AlR w0 b L y := ⟨h.g.tg G, h.t.gro G⟩
theorem AlR.or {w0 x : World} {b : Nat} {L : List En} (h : Gro w0 x ∨ AlR w0 b L x) : GroS [b] w0 x := h.elim (fun g => .of g) (fun k => k.g)
def tornA (T : Tn) : PostE := PostE.ex (fun v x => ∃ (ao : Option Addr) (c : Nat) (H : List Hp) (bo : Option Addr) (d : Nat), v = .agg (tnA ao H.length c bo T.lost.length d) ∧ TnP x 0 T ao c H bo d) (fun _ _ _ G ⟨ao, c, H, bo, d, h1, h2⟩ => ⟨ao, c, H, bo, d, h1, h2.gro G⟩)
theorem fill_tornA (T : Tn) (v : Value) : (tornA T).fill v = v := rfl
def boxA (SZ : Nat) : PostE := PostE.ex (fun v x => ∃ g : Nat, v = .pointer (some ⟨g, 0, none⟩) ∧ SZ ≤ g ∧ x.heap[g]? = some (.cells (tnA none 0 0 none 0 0) 35 (0, 0))) (fun _ _ _ G ⟨g, h1, h2, h3⟩ => ⟨g, h1, h2, G.has h3⟩)
theorem fill_boxA (SZ : Nat) (v : Value) : (boxA SZ).fill v = v := rfl
theorem havP {posts : List PostE} {n e0 : Nat} {late : Nat → Bool} {R0 : World → Prop} {S : World → World → Prop} (X Y : List Nat) (hS : ((List.range n).all fun j => j == e0 || (X.contains j || Y.contains j)) = true) (hv : allVal posts X) (hy : ∀ j ∈ Y, ∀ v a b, R0 a → S a b → (postE posts j).p v a → (postE posts j).p v b) : ∀ j, j < n → j ≠ e0 → late j = false → ∀ v a b, R0 a → S a b → (postE posts j).p v a → (postE posts j).p v b := fun j hj hne _ v a b ha hb hp => by
  have h1 := List.all_eq_true.1 hS j (List.mem_range.2 hj)
  rw [Bool.or_eq_true, Bool.or_eq_true] at h1
  rcases h1 with h1 | h1 | h1
  · exact absurd (by simpa using h1) hne
  · obtain ⟨u, hu⟩ := allVal_at hv j (by simpa using h1)
    rw [hu] at hp ⊢
    exact hp
  · exact hy j (by simpa using h1) v a b ha hb hp
theorem Tbs.congr {w : World} {ts bs : List Nat} {F F' : Nat → List En} {n : Nat} (h : Tbs w ts bs F n) (e : ∀ k, k < n → F k = F' k) : Tbs w ts bs F' n := ⟨h.lt, h.lb, h.tb, fun k hk => e k hk ▸ h.tm k hk, h.ne⟩
/-- What the tables have while the Drop is handed on. -/
def FL (W : List Int) (p : Pa) (k i j : Nat) : List En := if i ≤ j ∧ j ≤ k then [] else [xL W p j]
section
variable {W : List Int} {p : Pa} {k i j : Nat}
theorem FL_in (h1 : i ≤ j) (h2 : j ≤ k) : FL W p k i j = [] := if_pos ⟨h1, h2⟩
theorem FL_out (h : ¬ (i ≤ j ∧ j ≤ k)) : FL W p k i j = [xL W p j] := if_neg h
theorem FL_step (h0 : 0 < i) (hj : j ≠ i - 1) : FL W p k (i - 1) j = FL W p k i j := by
  by_cases e : i ≤ j ∧ j ≤ k
  · rw [FL_in e.1 e.2, FL_in (by omega) e.2]
  · rw [FL_out e, FL_out (by omega)]
theorem one_kn (x : En) : KN [x] := List.pairwise_singleton _ _
theorem one_ris (x : En) : Ris [x] := List.pairwise_singleton _ _
theorem one_rg (h : RW W) (h2 : 2 ≤ W.length) (hi : i < W.length) : Rg [xL W p i] := fun x hx => by
  rw [List.mem_singleton] at hx
  subst hx
  exact xL_rgt h h2 hi
theorem via_L (h : RW W) (hi : i + 1 < W.length) : viaF (W.getD (i + 1) 0) (xL W p i) = true := by
  have h0 := (h.at (i + 1)).1
  have hnb : nbL W i = W.getD (i + 1) 0 := if_pos hi
  unfold viaF
  rw [decide_eq_true h0]
  show (true && (_ || decide (nbL W i = W.getD (i + 1) 0))) = true
  rw [decide_eq_true hnb]
  simp
theorem oth_L (h : RW W) (hi : i + 1 < W.length) : othS (xL W p i) (W.getD (i + 1) 0) = naL W i := by
  have hnb : nbL W i = W.getD (i + 1) 0 := if_pos hi
  have hne := (rgt_iff.1 (xL_rgt (p := p) h (by omega) (show i < W.length by omega))).2.2.2
  unfold othS
  rw [if_neg (by rw [← hnb]; exact hne)]
  rfl
theorem del_1 (x : En) : delL x.p [x] = [] := by simp [delL]
theorem drop_L (h : RW W) (hi : i + 1 < W.length) : drpT [xL W p i] (W.getD (i + 1) 0) p = sideT (naL W i) p ∧ drpL [xL W p i] (W.getD (i + 1) 0) p = [] := by
  obtain ⟨h1, h2⟩ := drp_hit (one_kn (xL W p i)) List.mem_cons_self (via_L h hi)
  rw [oth_L h hi] at h1
  exact ⟨h1, h2.trans (del_1 _)⟩
theorem dead_L (h : RW W) (hi : i + 1 < W.length) : deadT [xL W p i] (W.getD (i + 1) 0) = sideT (naL W i) p ∧ deadL [xL W p i] (W.getD (i + 1) 0) = [] := by
  have hv := via_L (p := p) h hi
  have ho := oth_L (p := p) h hi
  constructor
  · unfold deadT sidesT
    rw [List.filter_cons_of_pos hv]
    show appT tn0 (sideT (othS (xL W p i) (W.getD (i + 1) 0)) p) = _
    rw [ho]
    exact appT_nil _
  · unfold deadL
    rw [List.filter_cons_of_neg (by rw [hv]; decide)]
    rfl
theorem side_0 (h : i = 0) : sideT (naL W i) p = ⟨[], [p]⟩ := by
  have : naL W i = -1 := if_pos h
  rw [this]
  rfl
theorem side_s (hW : RW W) (h : 0 < i) : sideT (naL W i) p = ⟨[(W.getD (i - 1) 0, p)], []⟩ := by
  have e : naL W i = W.getD (i - 1) 0 := if_neg (by omega)
  rw [e]
  exact sideT_out (by have := (hW.at (i - 1)).1; omega)
end
set_option maxRecDepth 100000 in
set_option maxHeartbeats 4000000 in
theorem tearAlong_any (w : World) (ao0 : Option Addr) (cap0 : Nat) (l : List Int) (H : RK kZ w ao0 cap0 l) (hl : l.length ≤ maxLen) (p : Pa) (hp : p.ok) (at_ : Int) : Calls Try.prog 3 #[.slice ao0 l.length cap0, .agg (paA p), .int .i64 at_] w (fun e w' => e = .returned (.bool true) ∧ Gro w w') := by
  refine s_enter Try.func3 rfl Try.ntmps3 [.slice ao0 l.length cap0, .agg (paA p), .int .i64 at_] [.slice ao0 l.length cap0, .agg (paA p), .int .i64 at_, undef, undef, undef, undef, undef, undef, undef, undef, undef, undef, undef, undef, undef, undef, undef, undef, undef, undef, undef, undef, undef, undef, undef, undef, undef, undef, undef, undef, undef, undef, undef, undef, undef, undef, undef, undef, undef, undef, undef, undef, undef, undef, undef, undef, undef, undef, undef, undef, undef, undef, undef, undef, undef, undef, undef, undef, undef, undef, undef, undef, undef, undef, undef, undef, undef, undef, undef, undef, undef, undef, undef, undef, undef, undef, undef, undef, undef, undef, undef, undef, undef, undef, undef, undef, undef, undef, undef, undef, undef, undef, undef, undef, undef, undef, undef, undef, undef, undef, undef, undef, undef, undef, undef, undef, undef, undef, undef, undef, undef, undef, undef, undef, undef, undef, undef, undef, undef, undef, undef, undef, undef, undef, undef, undef, undef, undef, undef, undef, undef, undef, undef, undef, undef, undef, undef, undef, undef, undef, undef] rfl ?_
  have GG := Gro.refl w
  refine wp_seq ?_
  refine wp_region_lit ?_
  refine s_box 4 rfl rfl 26 _ rfl _ rfl (paA p) rfl ?_
  intro w1 g1 G eg1 kg1
  have bg1 := size_base GG eg1
  replace GG := GG.trans G
  clear G
  clear eg1
  refine nr ?_; intro U h; simp only [z0, z1] at h; subst h
  refine s_val 6 rfl rfl (.bool false) (rfl) ?_
  refine nr ?_; intro U h; simp only [z0, z1] at h; subst h
  refine wpList_nil ?_
  refine then_n ?_
  refine wp_seq ?_
  refine wp_region_lit ?_
  refine s_val 16 rfl rfl (.slice ao0 l.length cap0) (rfl) ?_
  refine nr ?_; intro U h; simp only [z0, z1] at h; subst h
  refine s_val 17 rfl rfl (.agg (paA p)) (ldP0 _ rfl g1 rfl (kg1)) ?_
  refine nr ?_; intro U h; simp only [z0, z1] at h; subst h
  have hsw := lt_of_heap kg1
  refine s_callx 18 rfl rfl _ 4 Try.call4 rfl rfl _ rfl [.slice ao0 l.length cap0, .agg (paA p)] rfl (line_any _ ao0 cap0 l (H.gro GG) hl p hp) (by rintro _ _ ⟨_, _, _, _, _, _, _, he, _⟩; exact ⟨_, he⟩) ?_
  rintro v w2 ⟨ta, tc, ts, bs, wa, wc, W, he, G, hW, HTs, HWs, HB, hbb⟩
  cases he
  replace hbb := fun k hk => Nat.le_trans GG.size (hbb k hk)
  replace kg1 := G.has kg1
  replace GG := GG.trans G
  clear G
  refine nr ?_; intro U h; simp only [z0, z1] at h; subst h
  have htl := HB.lt
  have hWl := hW.len
  refine s_val 15 rfl rfl (.tuple #[.slice ta ts.length tc, .slice wa W.length wc]) (rfl) ?_
  refine nr ?_; intro U h; simp only [z0, z1] at h; subst h
  refine s_val 19 rfl rfl (.slice ta ts.length tc) (rfl) ?_
  refine nr ?_; intro U h; simp only [z0, z1] at h; subst h
  refine s_val 20 rfl rfl (.slice wa W.length wc) (rfl) ?_
  refine nr ?_; intro U h; simp only [z0, z1] at h; subst h
  refine s_val 7 rfl rfl (.slice ta ts.length tc) (rfl) ?_
  refine nr ?_; intro U h; simp only [z0, z1] at h; subst h
  refine s_val 8 rfl rfl (.slice wa W.length wc) (rfl) ?_
  refine nr ?_; intro U h; simp only [z0, z1] at h; subst h
  refine wpList_nil ?_
  refine then_n ?_
  refine wp_seq ?_
  refine wp_seq ?_
  refine wp_region_opq ?_
  intro OPS hY
  have y3 := hY 3 24 rfl
  clear hY
  refine s_val 21 rfl rfl (.slice wa W.length wc) (rfl) ?_
  refine nr ?_; intro U h; simp only [z0, z1] at h; subst h
  refine s_val 22 rfl rfl (.int .i64 ((W.length : Nat) : Int)) (run_len Try.underlying22 _ rfl _ _ _ rfl _) ?_
  refine nr ?_; intro U h; simp only [z0, z1] at h; subst h
  cases h2 : decide (((W.length : Nat) : Int) < 2)
  · refine s_val 23 rfl rfl (.bool false) (run_lssT 3 _ _ _ rfl ((W.length : Nat) : Int) 2 rfl rfl false h2 _) ?_
    refine nr ?_; intro U h; simp only [z0, z1] at h; subst h
    refine s_val 24 rfl rfl (.bool false) (rfl) ?_
    refine nr ?_; intro U h; simp only [z0, z1] at h; subst h
    refine s_gcallvY 25 rfl rfl y3 rfl _ 5 Try.call5 rfl rfl _ rfl [] rfl (fixed_any _) ?_
    intro w3 G
    replace kg1 := G.has kg1
    replace HTs := HTs.gro G
    replace HWs := HWs.gro G
    replace HB := HB.gro G
    replace GG := GG.trans G
    clear G
    refine nr ?_; intro U h; simp only [z0, z1] at h; subst h
    refine s_gvalY 26 rfl rfl y3 rfl (.bool false) (run_nt _ _ rfl true rfl) ?_
    refine nr ?_; intro U h; simp only [z0, z1] at h; subst h
    refine s_val 27 rfl rfl (.bool false) (rfl) ?_
    refine nr ?_; intro U h; simp only [z0, z1] at h; subst h
    refine wpList_nil ?_
    refine then_n ?_
    refine wp_cond_false rfl ?_
    refine wp_skip ?_
    refine then_n ?_
    refine wp_seq ?_
    have hW2 : 2 ≤ W.length := by have := of_decide_eq_false h2; omega
    replace HB := HB.congr (F' := fun k => [xL W p k]) (fun k hk => xL_l hW hW2 hk)
    obtain ⟨u, hu⟩ : ∃ u : Nat, at_ % 18446744073709551616 = (u : Int) := ⟨(at_ % 18446744073709551616).toNat, by omega⟩
    obtain ⟨k, hk⟩ : ∃ k, u % (W.length - 1) = k := ⟨_, rfl⟩
    have hkl : k < W.length - 1 := hk ▸ Nat.mod_lt _ (by omega)
    refine wp_region_lit ?_
    refine s_val 29 rfl rfl (.int .i64 at_) (rfl) ?_
    refine nr ?_; intro U h; simp only [z0, z1] at h; subst h
    refine s_val 30 rfl rfl (.int .u64 ((u : Nat) : Int)) (cv_iu _ rfl at_ rfl u hu _) ?_
    refine nr ?_; intro U h; simp only [z0, z1] at h; subst h
    refine s_val 31 rfl rfl (.slice wa W.length wc) (rfl) ?_
    refine nr ?_; intro U h; simp only [z0, z1] at h; subst h
    refine s_val 32 rfl rfl (.int .i64 ((W.length : Nat) : Int)) (run_len Try.underlying22 _ rfl _ _ _ rfl _) ?_
    refine nr ?_; intro U h; simp only [z0, z1] at h; subst h
    refine s_val 33 rfl rfl (.int .i64 ((W.length - 1 : Nat) : Int)) (run_subI 3 _ _ _ rfl ((W.length : Nat) : Int) 1 ((W.length - 1 : Nat) : Int) rfl rfl (by omega) (by omega) (by omega) _) ?_
    refine nr ?_; intro U h; simp only [z0, z1] at h; subst h
    refine s_val 34 rfl rfl (.int .u64 ((W.length - 1 : Nat) : Int)) (cv_iu _ rfl ((W.length - 1 : Nat) : Int) rfl (W.length - 1) (by omega) _) ?_
    refine nr ?_; intro U h; simp only [z0, z1] at h; subst h
    refine s_val 35 rfl rfl (.int .u64 ((k : Nat) : Int)) (run_remU 31 _ _ _ rfl u (W.length - 1) rfl rfl (by omega) k hk _) ?_
    refine nr ?_; intro U h; simp only [z0, z1] at h; subst h
    refine s_val 36 rfl rfl (.int .i64 ((k : Nat) : Int)) (cv_ui _ rfl k (by omega) rfl _) ?_
    refine nr ?_; intro U h; simp only [z0, z1] at h; subst h
    refine s_val 9 rfl rfl (.int .i64 ((k : Nat) : Int)) (rfl) ?_
    refine nr ?_; intro U h; simp only [z0, z1] at h; subst h
    refine wpList_nil ?_
    refine then_n ?_
    refine wp_seq ?_
    obtain ⟨SZ, hSZ⟩ : ∃ m, w3.heap.size = m := ⟨_, rfl⟩
    have sg1 : g1 < SZ := hSZ ▸ lt_of_heap kg1
    have hxn : k < W.length := by omega
    have hTMx := HB.tm k hxn
    have hbr := dead_L (p := p) hW (show k + 1 < W.length by omega)
    have hsT := HTs.lt
    have hsW := HWs.lt
    rw [hSZ] at hsT hsW
    refine wp_region_pl (A := ?Ax1) (R0 := fun x => Gro w3.drew x) (R1 := AlR w3.drew (bs.getD k 0) []) 11 [(0, 37), (1, 38), (2, 39), (3, 40), (4, 41), (5, 42), (6, 43), (7, 44), (8, 45), (9, 46), (10, 10)] [.val (.slice ta ts.length tc), .val (.int .i64 ((k : Nat) : Int)), .val (.pointer (pK kT ta k 0)), .val (.pointer (some ⟨(ts.getD k 0), 0, none⟩)), .val (.slice wa W.length wc), .val (.int .i64 ((k : Nat) : Int)), .val (.int .i64 ((k + 1 : Nat) : Int)), .val (.pointer (pK kZ wa (k + 1) 0)), .val (.int .i64 (W.getD (k + 1) 0)), tornA (sideT (naL W k) p), boxA SZ] 9 (fun _ => false) (fun x y => GroS [bs.getD k 0] x y) follows (by kernel_rfl) rfl (by decide) (havP [0, 1, 2, 3, 4, 5, 6, 7, 8] [10] (by decide) ⟨⟨_, rfl⟩, ⟨_, rfl⟩, ⟨_, rfl⟩, ⟨_, rfl⟩, ⟨_, rfl⟩, ⟨_, rfl⟩, ⟨_, rfl⟩, ⟨_, rfl⟩, ⟨_, rfl⟩, trivial⟩ ?hvx1) (by kernel_rfl) (Gro.refl _) (fun _ _ h g => h.trans g) (fun _ _ h g => h.gro g) ?hAx1 (opsL_a (by decide) rfl ?o0x1 (opsL_a (by decide) rfl ?o1x1 (opsL_a (by decide) rfl ?o2x1 (opsL_a (by decide) rfl ?o3x1 (opsL_a (by decide) rfl ?o4x1 (opsL_a (by decide) rfl ?o5x1 (opsL_a (by decide) rfl ?o6x1 (opsL_a (by decide) rfl ?o7x1 (opsL_a (by decide) rfl ?o8x1 (opsL_e ?o9x1 (opsL_a (by decide) rfl ?o10x1 opsL_nil))))))))))) ?restx1
    case hvx1 =>
      intro j hj v a b9 ha hb9 hp9
      rw [List.mem_singleton] at hj
      subst hj
      obtain ⟨g9, h1, h2, h3⟩ := hp9
      exact ⟨g9, h1, h2, hb9.has h3 (by simpa using ((hTMx.gro (Gro.refl _).drew).gro ha).nec h3)⟩
    case hAx1 =>
      intro ptrs
      simp only [full, foldSlots, filledE, postE, List.foldl_cons, List.foldl_nil, List.getD_cons_zero, List.getD_cons_succ, fill_val, fill_tornA, fill_boxA, List.set_cons_zero, List.set_cons_succ]
      exact rfl
    case o0x1 => exact fun _ _ _ _ => opE_move (v := .slice ta ts.length tc) _ rfl rfl rfl
    case o1x1 => exact fun _ _ _ _ => opE_move (v := .int .i64 ((k : Nat) : Int)) _ rfl rfl rfl
    case o2x1 => exact fun _ _ hw _ => opE_value (v := .pointer (pK kT ta k 0)) rfl (run_ixK rT ((HTs.gro (Gro.refl _).drew).mapw (hTMx.gro (Gro.refl _).drew) (AlR.or hw)) _ _ rfl rfl k rfl (by omega))
    case o3x1 => exact fun _ _ hw _ => opE_value (v := .pointer (some ⟨(ts.getD k 0), 0, none⟩)) rfl (run_ldT ((HTs.gro (Gro.refl _).drew).mapw (hTMx.gro (Gro.refl _).drew) (AlR.or hw)) _ rfl k rfl (by omega))
    case o4x1 => exact fun _ _ _ _ => opE_move (v := .slice wa W.length wc) _ rfl rfl rfl
    case o5x1 => exact fun _ _ _ _ => opE_move (v := .int .i64 ((k : Nat) : Int)) _ rfl rfl rfl
    case o6x1 => exact fun _ _ _ _ => opE_value (v := .int .i64 ((k + 1 : Nat) : Int)) rfl (run_addI 3 _ _ _ rfl ((k : Nat) : Int) 1 ((k + 1 : Nat) : Int) rfl rfl (by omega) (by omega) (by omega) _)
    case o7x1 => exact fun _ _ hw _ => opE_value (v := .pointer (pK kZ wa (k + 1) 0)) rfl (run_ixK rZ ((HWs.gro (Gro.refl _).drew).mapw (hTMx.gro (Gro.refl _).drew) (AlR.or hw)) _ _ rfl rfl (k + 1) rfl (by omega))
    case o8x1 => exact fun _ _ hw _ => opE_value (v := .int .i64 (W.getD (k + 1) 0)) rfl (run_ldZ ((HWs.gro (Gro.refl _).drew).mapw (hTMx.gro (Gro.refl _).drew) (AlR.or hw)) _ rfl (k + 1) rfl (by omega))
    case o9x1 =>
      intro ptrs x hw _
      refine opX_call (tornA (sideT (naL W k) p)) rfl _ 6 Try.call6 rfl rfl _ rfl [.pointer (some ⟨(ts.getD k 0), 0, none⟩), .int .i64 (W.getD (k + 1) 0)] rfl ((dead_eq _ (ts.getD k 0) (bs.getD k 0) 2 [xL W p k] (hw.has (HB.tb k hxn)) ((hTMx.gro (Gro.refl _).drew).gro hw) (one_rg hW (by omega) hxn) (one_ris _) (Nat.le_of_ble_eq_true rfl) (W.getD (k + 1) 0) _ _ hbr.1 hbr.2).mono ?_)
      rintro e w' ⟨ao, c, H, bo, d, he, HN9, HT9, G9⟩
      exact ⟨_, he, ⟨⟨(GroS.of hw).trans G9, HT9⟩, G9⟩, ao, c, H, bo, d, rfl, HN9.mono (Nat.zero_le _)⟩
    case o10x1 => exact fun _ _ hw _ => opE_new (boxA SZ) rfl (run_alloc_op 35 rfl _ zvT) (gro_alloc _ _) ⟨_, rfl, Nat.le_trans (Nat.le_of_eq hSZ.symm) (AlR.or hw).size, heap_alloc_new _ _⟩
    intro ptrs w4 hR hxE
    simp only [List.drop_succ_cons, List.drop_zero]
    obtain ⟨⟨ao4, c4, H4, bo4, d4, hx4, HN⟩, ⟨g2, hx2, hg2, kg2⟩, _⟩ := hxE
    simp only [hx4, hx2]
    clear hx4 hx2
    replace kg1 := hR.g.has kg1 (by simpa using hTMx.nec kg1)
    have dg1g2 : g1 < g2 := Nat.lt_of_lt_of_le sg1 hg2
    have dHTsg2 : NE ta (ts.flatMap kT.E).length g2 := fun ad ha h0 e => by have := hsT ad ha h0; omega
    have dHWsg2 : NE wa (W.flatMap kZ.E).length g2 := fun ad ha h0 e => by have := hsW ad ha h0; omega
    replace HTs := (HTs.gro (Gro.refl _).drew).mapw (hTMx.gro (Gro.refl _).drew) hR.g
    replace HWs := (HWs.gro (Gro.refl _).drew).mapw (hTMx.gro (Gro.refl _).drew) hR.g
    replace HB := (HB.gro (Gro.refl _).drew).upd hxn hR.t hR.g (F' := FL W p k k) (FL_in (Nat.le_refl _) (Nat.le_refl _)) (fun j _ hne => FL_out (by omega))
    have bg2 : w.heap.size ≤ g2 := Nat.le_trans (Nat.le_trans GG.size (Nat.le_of_eq hSZ)) hg2
    replace GG := hR.g.gro GG.drew (fun x hx => by rw [List.mem_singleton] at hx; rw [hx]; exact hbb _ hxn)
    clear hR hTMx hSZ
    refine s_store rfl rfl 35 _ _ rfl g2 0 rfl (.agg (tnA ao4 H4.length c4 bo4 (sideT (naL W k) p).lost.length d4)) rfl 35 _ kg2 (tnA ao4 H4.length c4 bo4 (sideT (naL W k) p).lost.length d4) rfl (siT) (Nat.le_refl _) (oneT _ _ _ _ _ _) (tnA ao4 H4.length c4 bo4 (sideT (naL W k) p).lost.length d4) (splice_whole _ _ (rfl)) ?_
    intro w5 St
    have kS := kg2
    replace kg1 := St.has (by omega) kg1
    replace HTs := HTs.st St dHTsg2
    replace HWs := HWs.st St dHWsg2
    replace HB := HB.st St kS (by decide)
    replace HN := HN.st St kS (by decide) (by decide)
    replace GG := GG.store St bg2
    replace kg2 := St.new
    clear St
    refine wpList_nil ?_
    refine then_n ?_
    refine wp_seq ?_
    refine wp_seq ?_
    refine wp_region_lit ?_
    refine s_val 47 rfl rfl (.int .i64 ((k : Nat) : Int)) (rfl) ?_
    refine nr ?_; intro U h; simp only [z0, z1] at h; subst h
    refine s_val 11 rfl rfl (.int .i64 ((k : Nat) : Int)) (rfl) ?_
    refine nr ?_; intro U h; simp only [z0, z1] at h; subst h
    refine wpList_nil ?_
    refine then_n ?_
    refine wp_block ?_
    have dTs : NE ta (ts.flatMap kT.E).length g2 := dHTsg2
    have dWs : NE wa (W.flatMap kZ.E).length g2 := dHWsg2
    refine wp_loopN (fun mz az wv => ∃ (i : Nat) (ao : Option Addr) (c : Nat) (H : List Hp) (bo : Option Addr) (d : Nat) (us1 : Nat → Value), mz = i + 1 ∧ az = ⟨[.slice ao0 l.length cap0, .agg (paA p), .int .i64 at_, undef, .pointer (some ⟨g1, 0, none⟩), undef, us1 0, .slice ta ts.length tc, .slice wa W.length wc, .int .i64 ((k : Nat) : Int), .pointer (some ⟨g2, 0, none⟩), .int .i64 ((i : Nat) : Int), us1 1, us1 2, undef, .tuple #[.slice ta ts.length tc, .slice wa W.length wc], .slice ao0 l.length cap0, .agg (paA p), .tuple #[.slice ta ts.length tc, .slice wa W.length wc], .slice ta ts.length tc, .slice wa W.length wc, .slice wa W.length wc, .int .i64 ((W.length : Nat) : Int), .bool false, .bool false, .bool true, .bool false, .bool false, undef, .int .i64 at_, .int .u64 ((u : Nat) : Int), .slice wa W.length wc, .int .i64 ((W.length : Nat) : Int), .int .i64 ((W.length - 1 : Nat) : Int), .int .u64 ((W.length - 1 : Nat) : Int), .int .u64 ((k : Nat) : Int), .int .i64 ((k : Nat) : Int), .slice ta ts.length tc, .int .i64 ((k : Nat) : Int), .pointer (pK kT ta k 0), .pointer (some ⟨(ts.getD k 0), 0, none⟩), .slice wa W.length wc, .int .i64 ((k : Nat) : Int), .int .i64 ((k + 1 : Nat) : Int), .pointer (pK kZ wa (k + 1) 0), .int .i64 (W.getD (k + 1) 0), .agg (tnA ao4 H4.length c4 bo4 (sideT (naL W k) p).lost.length d4), .int .i64 ((k : Nat) : Int), us1 3, us1 4, us1 5, us1 6, us1 7, us1 8, us1 9, us1 10, us1 11, us1 12, us1 13, us1 14, us1 15, us1 16, us1 17, us1 18, us1 19, us1 20, us1 21, us1 22, us1 23, us1 24, us1 25, us1 26, us1 27, us1 28, us1 29, us1 30, us1 31, us1 32, us1 33, us1 34, us1 35, us1 36, us1 37, us1 38, us1 39, us1 40, us1 41, us1 42, us1 43, us1 44, us1 45, us1 46, us1 47, us1 48, us1 49, us1 50, us1 51, us1 52, us1 53, us1 54, us1 55, us1 56, us1 57, us1 58, us1 59, us1 60, us1 61, us1 62, us1 63, us1 64, undef, undef, undef, undef, undef, undef, undef, undef, undef, undef, undef, undef, undef, undef, undef, undef, undef, undef, undef, undef, undef, undef, undef, undef, undef, undef, undef, undef, undef, undef, undef, undef].toArray, []⟩ ∧ i ≤ k ∧ Gro w wv ∧ wv.heap[g1]? = some (.cells (paA p) 26 (0, 0)) ∧ wv.heap[g2]? = some (.cells (tnA ao H.length c bo (sideT (naL W i) p).lost.length d) 35 (0, 0)) ∧ TnP wv 0 (sideT (naL W i) p) ao c H bo d ∧ RK kT wv ta tc ts ∧ RK kZ wv wa wc W ∧ Tbs wv ts bs (FL W p k i) W.length) ?_ _ ⟨k, ao4, c4, H4, bo4, d4, (fun kz => ([.bool false, undef, undef, undef, undef, undef, undef, undef, undef, undef, undef, undef, undef, undef, undef, undef, undef, undef, undef, undef, undef, undef, undef, undef, undef, undef, undef, undef, undef, undef, undef, undef, undef, undef, undef, undef, undef, undef, undef, undef, undef, undef, undef, undef, undef, undef, undef, undef, undef, undef, undef, undef, undef, undef, undef, undef, undef, undef, undef, undef, undef, undef, undef, undef, undef] : List Value).getD kz undef), rfl, rfl, Nat.le_refl _, GG, kg1, kg2, HN, HTs, HWs, HB⟩
    clear GG kg1 kg2 HTs HWs HB HN
    rintro mz az wv ⟨i, ao, c, H, bo, d, us1, rfl, rfl, hi, GG, kg1, kg2, HN, HTs, HWs, HB⟩
    have dHTsg2 : NE ta (ts.flatMap kT.E).length g2 := dTs
    have dHWsg2 : NE wa (W.flatMap kZ.E).length g2 := dWs
    refine wp_seq ?_
    refine wp_block ?_
    refine wp_seq ?_
    refine wp_seq ?_
    have hTMi := HB.tm i (by omega)
    rw [FL_in (Nat.le_refl _) hi] at hTMi
    refine wp_region_g2A (A := ?Ax2) 11 [(0, 51), (1, 52), (2, 53), (3, 54), (4, 55), (5, 56), (6, 50), (7, 57), (8, 58), (9, 12)] [.val (.slice ta ts.length tc), .val (.int .i64 ((i : Nat) : Int)), .val (.pointer (pK kT ta i 0)), .val (.pointer (some ⟨(ts.getD i 0), 0, none⟩)), .val (.agg (paA p)), .val (.tuple #[.agg (enA zE), .bool false]), .val (.tuple #[.agg (enA zE), .bool false]), .val (.agg (enA zE)), .val (.bool false), .new 39 (enA zE) (enA zE) 10, .put 9] follows (by kernel_rfl) (by kernel_rfl) rfl ?hAx2 (opsA2_cons ?o0x2 (opsA2_cons ?o1x2 (opsA2_cons ?o2x2 (opsA2_cons ?o3x2 (opsA2_cons ?o4x2 (opsA2_cons ?o5x2 (opsA2_cons ?o6x2 (opsA2_cons ?o7x2 (opsA2_cons ?o8x2 (opsA2_cons ?o9x2 (opsA2_cons ?o10x2 opsA2_nil))))))))))) ?restx2
    case hAx2 =>
      intro ptrs
      simp only [full, foldSlots, filled2, postAt2, List.foldl_cons, List.foldl_nil, List.getD_cons_zero, List.getD_cons_succ, PostS.fill, PostS.val, PostS.new, PostS.put, List.set_cons_zero, List.set_cons_succ]
      exact rfl
    case o0x2 => exact fun _ _ _ _ _ _ => OpOK2.of_val (ok_value (v := .slice ta ts.length tc) rfl rfl)
    case o1x2 => exact fun _ _ _ _ _ _ => OpOK2.of_val (ok_value (v := .int .i64 ((i : Nat) : Int)) rfl rfl)
    case o2x2 => exact fun _ _ _ hw _ _ => OpOK2.of_val (ok_value (v := .pointer (pK kT ta i 0)) rfl (run_ixK rT (HTs.gro ((Gro.refl _).drew.trans hw)) _ _ rfl rfl i rfl (by omega)))
    case o3x2 => exact fun _ _ _ hw _ _ => OpOK2.of_val (ok_value (v := .pointer (some ⟨(ts.getD i 0), 0, none⟩)) rfl (run_ldT (HTs.gro ((Gro.refl _).drew.trans hw)) _ rfl i rfl (by omega)))
    case o4x2 => exact fun _ _ _ hw _ _ => OpOK2.of_val (ok_value (v := .agg (paA p)) rfl (ldP0 _ rfl g1 rfl (hw.has kg1)))
    case o5x2 => exact fun _ _ _ hw _ _ => OpOK2.of_val (ok_call rfl _ 7 Try.call7 rfl rfl _ rfl [.pointer (some ⟨(ts.getD i 0), 0, none⟩), .agg (paA p)] rfl _ (get_any _ (ts.getD i 0) (bs.getD i 0) 2 [] (hw.has (HB.tb i (by omega))) ((hTMi.gro (Gro.refl _).drew).gro hw) p hp))
    case o6x2 => exact fun _ _ _ _ _ _ => OpOK2.of_val (ok_value (v := .tuple #[.agg (enA zE), .bool false]) rfl rfl)
    case o7x2 => exact fun _ _ _ _ _ _ => OpOK2.of_val (ok_value (v := .agg (enA zE)) rfl (rfl))
    case o8x2 => exact fun _ _ _ _ _ _ => OpOK2.of_val (ok_value (v := .bool false) rfl (rfl))
    case o9x2 => exact fun _ _ _ _ _ _ => OpOK2.of_new (ok_alloc rfl 39 rfl _ zero33)
    case o10x2 =>
      intro ptrs Lq wq hw hn hL
      obtain ⟨⟨gq, pq, kq, cq⟩, hz⟩ := hn
      have hL' : Lq 10 = false := hL
      have p' : ptrs 9 = .pointer (some ⟨gq, 0, none⟩) := pq
      have k' : wq.heap[gq]? = some (.cells (if Lq 10 = true then (enA zE) else (enA zE)) 39 (0, 0)) := kq
      rw [hL'] at k'
      refine ok2_store rfl 39 _ _ rfl gq ?_ (enA zE) rfl (enA zE) k' (si33' _) (enA_sz _ _) (enA_one _) rfl p' _
      show ptrs 9 = _
      exact p'
    intro ptrs Lz w6 GD hLz hnz hapz
    obtain ⟨⟨gN, pzgN, kgN, czgN⟩, hzz⟩ := hnz
    simp only [List.drop_succ_cons, List.drop_zero, pzgN]
    replace kgN : w6.heap[gN]? = some (.cells (enA zE) 39 (0, 0)) := by
      have hL' : Lz 10 = true := by rw [hLz]; rfl
      have kk : w6.heap[gN]? = some (.cells (if Lz 10 = true then (enA zE) else (enA zE)) 39 (0, 0)) := kgN
      rw [hL'] at kk
      exact kk
    clear hzz hapz hLz
    have dg1gN : g1 < gN := Nat.lt_of_lt_of_le (lt_of_heap kg1) czgN
    have dg2gN : g2 < gN := Nat.lt_of_lt_of_le (lt_of_heap kg2) czgN
    have dHTsgN := HTs.neG czgN
    have dHWsgN := HWs.neG czgN
    have dHBgN := HB.neG czgN
    have dHNgN := HN.neG czgN
    replace kg1 := GD.has kg1
    replace kg2 := GD.has kg2
    replace HTs := HTs.gro ((Gro.refl _).drew.trans GD)
    replace HWs := HWs.gro ((Gro.refl _).drew.trans GD)
    replace HB := HB.gro ((Gro.refl _).drew.trans GD)
    replace HN := HN.gro ((Gro.refl _).drew.trans GD)
    have bgN := Nat.le_trans GG.size czgN
    replace GG := GG.drew.trans GD
    clear GD pzgN czgN
    refine s_val 13 rfl rfl (.bool false) (rfl) ?_
    refine nr ?_; intro U h; simp only [z0, z1] at h; subst h
    refine wpList_nil ?_
    refine then_n ?_
    refine wp_seq ?_
    refine wp_region_lit ?_
    refine s_val 59 rfl rfl (.bool false) (rfl) ?_
    refine nr ?_; intro U h; simp only [z0, z1] at h; subst h
    refine wpList_nil ?_
    refine then_n ?_
    refine wp_cond_false rfl ?_
    refine wp_skip ?_
    refine then_n ?_
    refine wp_seq ?_
    refine wp_seq ?_
    refine wp_region_lit ?_
    refine s_val 60 rfl rfl (.int .i64 ((i : Nat) : Int)) (rfl) ?_
    refine nr ?_; intro U h; simp only [z0, z1] at h; subst h
    cases h0 : decide (((i : Nat) : Int) = 0)
    · have hi0 : 0 < i := by have := of_decide_eq_false h0; omega
      rw [side_s hW hi0] at kg2 HN
      obtain ⟨h9, rfl, hk9⟩ := map_one HN.eq
      have hk1 : h9.n = W.getD (i - 1) 0 := congrArg Prod.fst hk9
      have hkp : h9.p = p := congrArg Prod.snd hk9
      refine s_val 61 rfl rfl (.bool false) (run_eq_k 3 .i64 _ _ _ rfl Try.underlying3 ((i : Nat) : Int) 0 rfl rfl false h0 _) ?_
      refine nr ?_; intro U h; simp only [z0, z1] at h; subst h
      refine wpList_nil ?_
      refine then_n ?_
      refine wp_cond_false rfl ?_
      refine wp_skip ?_
      refine then_n ?_
      refine wp_seq ?_
      refine wp_seq ?_
      refine wp_region_exA (A := ?Ax3) 31 [(0, 62), (1, 63), (2, 64), (3, 65), (4, 66), (5, 67), (6, 68), (7, 69), (8, 70), (9, 71), (10, 72), (11, 73), (12, 74), (13, 75), (14, 76), (15, 77), (16, 78), (17, 79), (18, 80), (19, 81), (20, 82), (21, 83), (22, 84), (23, 85), (24, 86), (25, 87), (26, 88), (27, 89), (28, 90), (29, 91), (30, 92)] [.val (.pointer (some ⟨g2, 0, none⟩)), .val (.slice ao ([h9]).length c), .val (.int .i64 ((([h9]).length : Nat) : Int)), .val (.bool false), .val (.bool false), .val (.pointer (some ⟨g2, 1, none⟩)), .val (.slice bo 0 d), .val (.int .i64 0), .val (.bool false), .val (.bool false), .val (.bool false), .val (.pointer (some ⟨g2, 0, none⟩)), .val (.slice ao ([h9]).length c), .val (.pointer (pK kH ao 0 0)), .val (.pointer (pK kH ao 0 0)), .val (.int .i64 ([h9].getD 0 zHp).n), .val (.slice wa W.length wc), .val (.int .i64 ((i : Nat) : Int)), .val (.int .i64 ((i - 1 : Nat) : Int)), .val (.pointer (pK kZ wa (i - 1) 0)), .val (.int .i64 (W.getD (i - 1) 0)), .val (.bool false), .val (.bool false), .val (.bool false), .val (.pointer (some ⟨g2, 0, none⟩)), .val (.slice ao ([h9]).length c), .val (.pointer (pK kH ao 0 0)), .val (.pointer (pK kH ao 0 1)), .val (.pointer (pK kH ao 0 1)), .val (.int .i64 5), .val (.bool false)] follows (by kernel_rfl) rfl ?hAx3 (opsA_cons ?o0x3 (opsA_cons ?o1x3 (opsA_cons ?o2x3 (opsA_cons ?o3x3 (opsA_cons ?o4x3 (opsA_cons ?o5x3 (opsA_cons ?o6x3 (opsA_cons ?o7x3 (opsA_cons ?o8x3 (opsA_cons ?o9x3 (opsA_cons ?o10x3 (opsA_cons ?o11x3 (opsA_cons ?o12x3 (opsA_cons ?o13x3 (opsA_cons ?o14x3 (opsA_cons ?o15x3 (opsA_cons ?o16x3 (opsA_cons ?o17x3 (opsA_cons ?o18x3 (opsA_cons ?o19x3 (opsA_cons ?o20x3 (opsA_cons ?o21x3 (opsA_cons ?o22x3 (opsA_cons ?o23x3 (opsA_cons ?o24x3 (opsA_cons ?o25x3 (opsA_cons ?o26x3 (opsA_cons ?o27x3 (opsA_cons ?o28x3 (opsA_cons ?o29x3 (opsA_cons ?o30x3 opsA_nil))))))))))))))))))))))))))))))) ?restx3
      case hAx3 =>
        intro ptrs
        simp only [full, foldSlots, filledE, postE, List.foldl_cons, List.foldl_nil, List.getD_cons_zero, List.getD_cons_succ, fill_val, List.set_cons_zero, List.set_cons_succ]
        exact rfl
      case o0x3 => exact fun _ _ _ _ => opE_value (v := .pointer (some ⟨g2, 0, none⟩)) rfl (run_fld 35 _ 0 rfl g2 0 rfl 0 (by kernel_rfl))
      case o1x3 => exact fun _ _ hw _ => opE_value (v := .slice ao ([h9]).length c) rfl (ldT_o _ rfl g2 rfl (hw.has kg2))
      case o2x3 => exact fun _ _ _ _ => opE_value (v := .int .i64 ((([h9]).length : Nat) : Int)) rfl (run_len Try.underlying32 _ rfl _ _ _ rfl _)
      case o3x3 => exact fun _ _ _ _ => opE_value (v := .bool false) rfl (run_neq_k 3 .i64 _ _ _ rfl Try.underlying3 ((([h9] : List Hp).length : Nat) : Int) 1 rfl rfl false (decide_eq_true rfl) _)
      case o4x3 => exact fun _ _ _ _ => opE_move (v := .bool false) _ rfl rfl rfl
      case o5x3 => exact fun _ _ _ _ => opE_value (v := .pointer (some ⟨g2, 1, none⟩)) rfl (run_fld 35 _ 1 rfl g2 0 rfl 1 (by kernel_rfl))
      case o6x3 => exact fun _ _ hw _ => opE_value (v := .slice bo 0 d) rfl (ldT_l _ rfl g2 rfl (hw.has kg2))
      case o7x3 => exact fun _ _ _ _ => opE_value (v := .int .i64 0) rfl (run_len Try.underlying33 _ rfl _ _ _ rfl _)
      case o8x3 => exact fun _ _ _ _ => opE_value (v := .bool false) rfl (run_neq_k 3 .i64 _ _ _ rfl Try.underlying3 0 0 rfl rfl false (by decide) _)
      case o9x3 => exact fun _ _ _ _ => opE_pick (v := .bool false) _ _ _ rfl rfl false rfl rfl
      case o10x3 => exact fun _ _ _ _ => opE_move (v := .bool false) _ rfl rfl rfl
      case o11x3 => exact fun _ _ _ _ => opE_value (v := .pointer (some ⟨g2, 0, none⟩)) rfl (run_fld 35 _ 0 rfl g2 0 rfl 0 (by kernel_rfl))
      case o12x3 => exact fun _ _ hw _ => opE_value (v := .slice ao ([h9]).length c) rfl (ldT_o _ rfl g2 rfl (hw.has kg2))
      case o13x3 => exact fun _ _ hw _ => opE_value (v := .pointer (pK kH ao 0 0)) rfl (run_ixK rH ((HN.gro ((Gro.refl _).drew.trans hw)).out.re) _ _ rfl rfl 0 rfl Nat.zero_lt_one)
      case o14x3 => exact fun _ _ hw _ => opE_value (v := .pointer (pK kH ao 0 0)) rfl (run_fdKq ((HN.gro ((Gro.refl _).drew.trans hw)).out.re) 53 _ 0 0 0 (fun ad => fdH_0 ad _) rfl 0 rfl Nat.zero_lt_one)
      case o15x3 => exact fun _ _ hw _ => opE_value (v := .int .i64 ([h9].getD 0 zHp).n) rfl (run_ldHn ((HN.gro ((Gro.refl _).drew.trans hw)).out.re) _ rfl 0 rfl Nat.zero_lt_one)
      case o16x3 => exact fun _ _ _ _ => opE_move (v := .slice wa W.length wc) _ rfl rfl rfl
      case o17x3 => exact fun _ _ _ _ => opE_move (v := .int .i64 ((i : Nat) : Int)) _ rfl rfl rfl
      case o18x3 => exact fun _ _ _ _ => opE_value (v := .int .i64 ((i - 1 : Nat) : Int)) rfl (run_subI 3 _ _ _ rfl ((i : Nat) : Int) 1 ((i - 1 : Nat) : Int) rfl rfl (by omega) (by omega) (by omega) _)
      case o19x3 => exact fun _ _ hw _ => opE_value (v := .pointer (pK kZ wa (i - 1) 0)) rfl (run_ixK rZ (HWs.gro ((Gro.refl _).drew.trans hw)) _ _ rfl rfl (i - 1) rfl (by omega))
      case o20x3 => exact fun _ _ hw _ => opE_value (v := .int .i64 (W.getD (i - 1) 0)) rfl (run_ldZ (HWs.gro ((Gro.refl _).drew.trans hw)) _ rfl (i - 1) rfl (by omega))
      case o21x3 => exact fun _ _ _ _ => opE_value (v := .bool false) rfl (run_neq_k 3 .i64 _ _ _ rfl Try.underlying3 ([h9].getD 0 zHp).n (W.getD (i - 1) 0) rfl rfl false (decide_eq_true hk1) _)
      case o22x3 => exact fun _ _ _ _ => opE_pick (v := .bool false) _ _ _ rfl rfl false rfl rfl
      case o23x3 => exact fun _ _ _ _ => opE_move (v := .bool false) _ rfl rfl rfl
      case o24x3 => exact fun _ _ _ _ => opE_value (v := .pointer (some ⟨g2, 0, none⟩)) rfl (run_fld 35 _ 0 rfl g2 0 rfl 0 (by kernel_rfl))
      case o25x3 => exact fun _ _ hw _ => opE_value (v := .slice ao ([h9]).length c) rfl (ldT_o _ rfl g2 rfl (hw.has kg2))
      case o26x3 => exact fun _ _ hw _ => opE_value (v := .pointer (pK kH ao 0 0)) rfl (run_ixK rH ((HN.gro ((Gro.refl _).drew.trans hw)).out.re) _ _ rfl rfl 0 rfl Nat.zero_lt_one)
      case o27x3 => exact fun _ _ hw _ => opE_value (v := .pointer (pK kH ao 0 1)) rfl (run_fdKq ((HN.gro ((Gro.refl _).drew.trans hw)).out.re) 53 _ 1 0 1 (fun ad => fdH_1 ad _) rfl 0 rfl Nat.zero_lt_one)
      case o28x3 => exact fun _ _ hw _ => opE_value (v := .pointer (pK kH ao 0 1)) rfl (run_fdKq ((HN.gro ((Gro.refl _).drew.trans hw)).out.re) 51 _ 0 1 0 (fun ad => fdF_0 ad _) rfl 0 rfl Nat.zero_lt_one)
      case o29x3 => exact fun _ _ hw _ => opE_value (v := .int .i64 5) rfl (run_ldHk ((HN.gro ((Gro.refl _).drew.trans hw)).out.re) _ rfl 0 rfl Nat.zero_lt_one)
      case o30x3 => exact fun _ _ _ _ => opE_value (v := .bool false) rfl (run_neq_k 3 .i64 _ _ _ rfl Try.underlying3 5 5 rfl rfl false (by decide) _)
      intro ptrs w7 GD hxE
      simp only [List.drop_succ_cons, List.drop_zero]
      replace kg1 := GD.has kg1
      replace kg2 := GD.has kg2
      replace kgN := GD.has kgN
      replace HTs := HTs.gro ((Gro.refl _).drew.trans GD)
      replace HWs := HWs.gro ((Gro.refl _).drew.trans GD)
      replace HB := HB.gro ((Gro.refl _).drew.trans GD)
      replace HN := HN.gro ((Gro.refl _).drew.trans GD)
      replace GG := GG.drew.trans GD
      clear GD
      refine s_val 93 rfl rfl (.bool false) (rfl) ?_
      refine nr ?_; intro U h; simp only [z0, z1] at h; subst h
      refine wpList_nil ?_
      refine then_n ?_
      refine wp_cond_false rfl ?_
      refine wp_skip ?_
      refine then_n ?_
      refine wp_region_exA (A := ?Ax4) 15 [(0, 94), (1, 95), (2, 96), (3, 97), (4, 98), (5, 99), (6, 100), (7, 101), (8, 102), (9, 103), (10, 104), (11, 105), (12, 106), (13, 107), (14, 108)] [.val (.slice ta ts.length tc), .val (.int .i64 ((i : Nat) : Int)), .val (.int .i64 ((i - 1 : Nat) : Int)), .val (.pointer (pK kT ta (i - 1) 0)), .val (.pointer (some ⟨(ts.getD (i - 1) 0), 0, none⟩)), .val (.slice wa W.length wc), .val (.int .i64 ((i : Nat) : Int)), .val (.pointer (pK kZ wa i 0)), .val (.int .i64 (W.getD i 0)), .val (.pointer (some ⟨g2, 0, none⟩)), .val (.slice ao ([h9]).length c), .val (.pointer (pK kH ao 0 0)), .val (.pointer (pK kH ao 0 1)), .val (.pointer (pK kH ao 0 2)), .val (.agg (paA ([h9].getD 0 zHp).p))] follows (by kernel_rfl) rfl ?hAx4 (opsA_cons ?o0x4 (opsA_cons ?o1x4 (opsA_cons ?o2x4 (opsA_cons ?o3x4 (opsA_cons ?o4x4 (opsA_cons ?o5x4 (opsA_cons ?o6x4 (opsA_cons ?o7x4 (opsA_cons ?o8x4 (opsA_cons ?o9x4 (opsA_cons ?o10x4 (opsA_cons ?o11x4 (opsA_cons ?o12x4 (opsA_cons ?o13x4 (opsA_cons ?o14x4 opsA_nil))))))))))))))) ?restx4
      case hAx4 =>
        intro ptrs
        simp only [full, foldSlots, filledE, postE, List.foldl_cons, List.foldl_nil, List.getD_cons_zero, List.getD_cons_succ, fill_val, List.set_cons_zero, List.set_cons_succ]
        exact rfl
      case o0x4 => exact fun _ _ _ _ => opE_move (v := .slice ta ts.length tc) _ rfl rfl rfl
      case o1x4 => exact fun _ _ _ _ => opE_move (v := .int .i64 ((i : Nat) : Int)) _ rfl rfl rfl
      case o2x4 => exact fun _ _ _ _ => opE_value (v := .int .i64 ((i - 1 : Nat) : Int)) rfl (run_subI 3 _ _ _ rfl ((i : Nat) : Int) 1 ((i - 1 : Nat) : Int) rfl rfl (by omega) (by omega) (by omega) _)
      case o3x4 => exact fun _ _ hw _ => opE_value (v := .pointer (pK kT ta (i - 1) 0)) rfl (run_ixK rT (HTs.gro ((Gro.refl _).drew.trans hw)) _ _ rfl rfl (i - 1) rfl (by omega))
      case o4x4 => exact fun _ _ hw _ => opE_value (v := .pointer (some ⟨(ts.getD (i - 1) 0), 0, none⟩)) rfl (run_ldT (HTs.gro ((Gro.refl _).drew.trans hw)) _ rfl (i - 1) rfl (by omega))
      case o5x4 => exact fun _ _ _ _ => opE_move (v := .slice wa W.length wc) _ rfl rfl rfl
      case o6x4 => exact fun _ _ _ _ => opE_move (v := .int .i64 ((i : Nat) : Int)) _ rfl rfl rfl
      case o7x4 => exact fun _ _ hw _ => opE_value (v := .pointer (pK kZ wa i 0)) rfl (run_ixK rZ (HWs.gro ((Gro.refl _).drew.trans hw)) _ _ rfl rfl i rfl (by omega))
      case o8x4 => exact fun _ _ hw _ => opE_value (v := .int .i64 (W.getD i 0)) rfl (run_ldZ (HWs.gro ((Gro.refl _).drew.trans hw)) _ rfl i rfl (by omega))
      case o9x4 => exact fun _ _ _ _ => opE_value (v := .pointer (some ⟨g2, 0, none⟩)) rfl (run_fld 35 _ 0 rfl g2 0 rfl 0 (by kernel_rfl))
      case o10x4 => exact fun _ _ hw _ => opE_value (v := .slice ao ([h9]).length c) rfl (ldT_o _ rfl g2 rfl (hw.has kg2))
      case o11x4 => exact fun _ _ hw _ => opE_value (v := .pointer (pK kH ao 0 0)) rfl (run_ixK rH ((HN.gro ((Gro.refl _).drew.trans hw)).out.re) _ _ rfl rfl 0 rfl Nat.zero_lt_one)
      case o12x4 => exact fun _ _ hw _ => opE_value (v := .pointer (pK kH ao 0 1)) rfl (run_fdKq ((HN.gro ((Gro.refl _).drew.trans hw)).out.re) 53 _ 1 0 1 (fun ad => fdH_1 ad _) rfl 0 rfl Nat.zero_lt_one)
      case o13x4 => exact fun _ _ hw _ => opE_value (v := .pointer (pK kH ao 0 2)) rfl (run_fdKq ((HN.gro ((Gro.refl _).drew.trans hw)).out.re) 51 _ 1 1 1 (fun ad => fdF_1 ad _) rfl 0 rfl Nat.zero_lt_one)
      case o14x4 => exact fun _ _ hw _ => opE_value (v := .agg (paA ([h9].getD 0 zHp).p)) rfl (run_ldHp ((HN.gro ((Gro.refl _).drew.trans hw)).out.re) _ rfl 0 rfl Nat.zero_lt_one)
      intro ptrs w8 GD hxE
      simp only [List.drop_succ_cons, List.drop_zero]
      replace kg1 := GD.has kg1
      replace kg2 := GD.has kg2
      replace kgN := GD.has kgN
      replace HTs := HTs.gro ((Gro.refl _).drew.trans GD)
      replace HWs := HWs.gro ((Gro.refl _).drew.trans GD)
      replace HB := HB.gro ((Gro.refl _).drew.trans GD)
      replace HN := HN.gro ((Gro.refl _).drew.trans GD)
      replace GG := GG.drew.trans GD
      clear GD
      have hxn : i - 1 < W.length := by omega
      have hTMx := HB.tm (i - 1) hxn
      rw [FL_out (show ¬ (i ≤ i - 1 ∧ i - 1 ≤ k) by omega)] at hTMx
      have hbr := drop_L (p := p) hW (show i - 1 + 1 < W.length by omega)
      rw [show i - 1 + 1 = i by omega] at hbr
      refine s_callx 109 rfl rfl _ 8 Try.call8 rfl rfl _ rfl [.pointer (some ⟨(ts.getD (i - 1) 0), 0, none⟩), .int .i64 (W.getD i 0), .agg (paA ([h9].getD 0 zHp).p)] rfl (drop_eq _ (ts.getD (i - 1) 0) (bs.getD (i - 1) 0) 2 [xL W p (i - 1)] (HB.tb (i - 1) hxn) hTMx (one_rg hW (by omega) hxn) (W.getD i 0) h9.p (hkp ▸ hp) (sideT (naL W (i - 1)) p) [] (by rw [hkp]; exact hbr.1) (by rw [hkp]; exact hbr.2)) (by rintro _ _ ⟨_, _, _, _, _, he, _⟩; exact ⟨_, he⟩) ?_
      rintro v w9 ⟨ao5, c5, H5, bo5, d5, he, HNx, HT2, G2⟩
      cases he
      replace HNx := HNx.mono (Nat.zero_le _)
      replace kg1 := G2.has kg1 (by simpa using hTMx.nec kg1)
      replace kg2 := G2.has kg2 (by simpa using hTMx.nec kg2)
      replace kgN := G2.has kgN (by simpa using hTMx.nec kgN)
      replace HTs := HTs.mapw hTMx G2
      replace HWs := HWs.mapw hTMx G2
      replace HB := HB.upd hxn HT2 G2 (F' := FL W p k (i - 1)) (FL_in (Nat.le_refl _) (by omega)) (fun j _ hne => FL_step hi0 hne)
      replace GG := G2.gro GG (fun x hx => by rw [List.mem_singleton] at hx; rw [hx]; exact hbb _ hxn)
      clear HN
      clear G2 HT2 hTMx
      have HN := HNx
      clear HNx
      refine nr ?_; intro U h; simp only [z0, z1] at h; subst h
      refine s_store rfl rfl 35 _ _ rfl g2 0 rfl (.agg (tnA ao5 H5.length c5 bo5 (sideT (naL W (i - 1)) p).lost.length d5)) rfl 35 _ kg2 (tnA ao5 H5.length c5 bo5 (sideT (naL W (i - 1)) p).lost.length d5) rfl (siT) (Nat.le_refl _) (oneT _ _ _ _ _ _) (tnA ao5 H5.length c5 bo5 (sideT (naL W (i - 1)) p).lost.length d5) (splice_whole _ _ (rfl)) ?_
      intro w10 St
      have kS := kg2
      replace kg1 := St.has (by omega) kg1
      replace kgN := St.has (by omega) kgN
      replace HTs := HTs.st St dHTsg2
      replace HWs := HWs.st St dHWsg2
      replace HB := HB.st St kS (by decide)
      replace HN := HN.st St kS (by decide) (by decide)
      replace GG := GG.store St bg2
      replace kg2 := St.new
      clear St
      refine wpList_nil ?_
      refine blk_n ?_
      refine then_n ?_
      refine wp_region_lit ?_
      refine s_val 48 rfl rfl (.int .i64 ((i : Nat) : Int)) (rfl) ?_
      refine nr ?_; intro U h; simp only [z0, z1] at h; subst h
      refine s_val 49 rfl rfl (.int .i64 ((i - 1 : Nat) : Int)) (run_subI 3 _ _ _ rfl ((i : Nat) : Int) 1 ((i - 1 : Nat) : Int) rfl rfl (by omega) (by omega) (by omega) _) ?_
      refine nr ?_; intro U h; simp only [z0, z1] at h; subst h
      refine s_val 11 rfl rfl (.int .i64 ((i - 1 : Nat) : Int)) (rfl) ?_
      refine nr ?_; intro U h; simp only [z0, z1] at h; subst h
      refine wpList_nil ?_
      refine then_n ?_
      exact ⟨i - 1 + 1, by omega, i - 1, ao5, c5, H5, bo5, d5, (fun kz => ([us1 0, .pointer (some ⟨gN, 0, none⟩), .bool false, .int .i64 ((i : Nat) : Int), .int .i64 ((i - 1 : Nat) : Int), .tuple #[.agg (enA zE), .bool false], .slice ta ts.length tc, .int .i64 ((i : Nat) : Int), .pointer (pK kT ta i 0), .pointer (some ⟨(ts.getD i 0), 0, none⟩), .agg (paA p), .tuple #[.agg (enA zE), .bool false], .agg (enA zE), .bool false, .bool false, .int .i64 ((i : Nat) : Int), .bool false, .pointer (some ⟨g2, 0, none⟩), .slice ao ([h9]).length c, .int .i64 ((([h9]).length : Nat) : Int), .bool false, .bool false, .pointer (some ⟨g2, 1, none⟩), .slice bo 0 d, .int .i64 0, .bool false, .bool false, .bool false, .pointer (some ⟨g2, 0, none⟩), .slice ao ([h9]).length c, .pointer (pK kH ao 0 0), .pointer (pK kH ao 0 0), .int .i64 ([h9].getD 0 zHp).n, .slice wa W.length wc, .int .i64 ((i : Nat) : Int), .int .i64 ((i - 1 : Nat) : Int), .pointer (pK kZ wa (i - 1) 0), .int .i64 (W.getD (i - 1) 0), .bool false, .bool false, .bool false, .pointer (some ⟨g2, 0, none⟩), .slice ao ([h9]).length c, .pointer (pK kH ao 0 0), .pointer (pK kH ao 0 1), .pointer (pK kH ao 0 1), .int .i64 5, .bool false, .bool false, .slice ta ts.length tc, .int .i64 ((i : Nat) : Int), .int .i64 ((i - 1 : Nat) : Int), .pointer (pK kT ta (i - 1) 0), .pointer (some ⟨(ts.getD (i - 1) 0), 0, none⟩), .slice wa W.length wc, .int .i64 ((i : Nat) : Int), .pointer (pK kZ wa i 0), .int .i64 (W.getD i 0), .pointer (some ⟨g2, 0, none⟩), .slice ao ([h9]).length c, .pointer (pK kH ao 0 0), .pointer (pK kH ao 0 1), .pointer (pK kH ao 0 2), .agg (paA ([h9].getD 0 zHp).p), .agg (tnA ao5 H5.length c5 bo5 (sideT (naL W (i - 1)) p).lost.length d5)] : List Value).getD kz undef), rfl, rfl, by omega, GG, kg1, kg2, HN, HTs, HWs, HB⟩
    · have hi0 : i = 0 := by have := of_decide_eq_true h0; omega
      rw [side_0 hi0] at kg2 HN
      obtain rfl := List.map_eq_nil_iff.1 HN.eq
      refine s_val 61 rfl rfl (.bool true) (run_eq_k 3 .i64 _ _ _ rfl Try.underlying3 ((i : Nat) : Int) 0 rfl rfl true h0 _) ?_
      refine nr ?_; intro U h; simp only [z0, z1] at h; subst h
      refine wpList_nil ?_
      refine then_n ?_
      refine wp_cond_true rfl ?_
      refine wp_exit ?_
      refine then_x ?_
      refine blk_xn (by decide) ?_
      refine then_x ?_
      refine then_x ?_
      refine blk_x ?_
      refine then_n ?_
      refine wp_seq ?_
      refine wp_seq ?_
      refine wp_region_lit ?_
      refine s_val 110 rfl rfl (.int .i64 ((k : Nat) : Int)) (rfl) ?_
      refine nr ?_; intro U h; simp only [z0, z1] at h; subst h
      refine s_val 111 rfl rfl (.int .i64 ((k + 1 : Nat) : Int)) (run_addI 3 _ _ _ rfl ((k : Nat) : Int) 1 ((k + 1 : Nat) : Int) rfl rfl (by omega) (by omega) (by omega) _) ?_
      refine nr ?_; intro U h; simp only [z0, z1] at h; subst h
      refine s_val 14 rfl rfl (.int .i64 ((k + 1 : Nat) : Int)) (rfl) ?_
      refine nr ?_; intro U h; simp only [z0, z1] at h; subst h
      refine wpList_nil ?_
      refine then_n ?_
      refine wp_block ?_
      refine wp_loopN (fun mz az wv => ∃ (j : Nat) (us2 : Nat → Value), mz = W.length + 1 - j ∧ az = ⟨[.slice ao0 l.length cap0, .agg (paA p), .int .i64 at_, undef, .pointer (some ⟨g1, 0, none⟩), undef, us2 0, .slice ta ts.length tc, .slice wa W.length wc, .int .i64 ((k : Nat) : Int), .pointer (some ⟨g2, 0, none⟩), .int .i64 ((i : Nat) : Int), .pointer (some ⟨gN, 0, none⟩), .bool false, .int .i64 ((j : Nat) : Int), .tuple #[.slice ta ts.length tc, .slice wa W.length wc], .slice ao0 l.length cap0, .agg (paA p), .tuple #[.slice ta ts.length tc, .slice wa W.length wc], .slice ta ts.length tc, .slice wa W.length wc, .slice wa W.length wc, .int .i64 ((W.length : Nat) : Int), .bool false, .bool false, .bool true, .bool false, .bool false, undef, .int .i64 at_, .int .u64 ((u : Nat) : Int), .slice wa W.length wc, .int .i64 ((W.length : Nat) : Int), .int .i64 ((W.length - 1 : Nat) : Int), .int .u64 ((W.length - 1 : Nat) : Int), .int .u64 ((k : Nat) : Int), .int .i64 ((k : Nat) : Int), .slice ta ts.length tc, .int .i64 ((k : Nat) : Int), .pointer (pK kT ta k 0), .pointer (some ⟨(ts.getD k 0), 0, none⟩), .slice wa W.length wc, .int .i64 ((k : Nat) : Int), .int .i64 ((k + 1 : Nat) : Int), .pointer (pK kZ wa (k + 1) 0), .int .i64 (W.getD (k + 1) 0), .agg (tnA ao4 H4.length c4 bo4 (sideT (naL W k) p).lost.length d4), .int .i64 ((k : Nat) : Int), us1 3, us1 4, .tuple #[.agg (enA zE), .bool false], .slice ta ts.length tc, .int .i64 ((i : Nat) : Int), .pointer (pK kT ta i 0), .pointer (some ⟨(ts.getD i 0), 0, none⟩), .agg (paA p), .tuple #[.agg (enA zE), .bool false], .agg (enA zE), .bool false, .bool false, .int .i64 ((i : Nat) : Int), .bool true, us1 17, us1 18, us1 19, us1 20, us1 21, us1 22, us1 23, us1 24, us1 25, us1 26, us1 27, us1 28, us1 29, us1 30, us1 31, us1 32, us1 33, us1 34, us1 35, us1 36, us1 37, us1 38, us1 39, us1 40, us1 41, us1 42, us1 43, us1 44, us1 45, us1 46, us1 47, us1 48, us1 49, us1 50, us1 51, us1 52, us1 53, us1 54, us1 55, us1 56, us1 57, us1 58, us1 59, us1 60, us1 61, us1 62, us1 63, us1 64, .int .i64 ((k : Nat) : Int), .int .i64 ((k + 1 : Nat) : Int), us2 1, us2 2, us2 3, us2 4, us2 5, us2 6, us2 7, us2 8, us2 9, us2 10, us2 11, us2 12, undef, undef, undef, undef, undef, undef, undef, undef, undef, undef, undef, undef, undef, undef, undef, undef, undef, undef].toArray, []⟩ ∧ (k + 1 ≤ j ∧ j ≤ W.length) ∧ Gro w wv ∧ wv.heap[g1]? = some (.cells (paA p) 26 (0, 0)) ∧ wv.heap[g2]? = some (.cells (tnA ao 0 c bo ([p]).length d) 35 (0, 0)) ∧ TnP wv 0 ⟨[], [p]⟩ ao c [] bo d ∧ RK kT wv ta tc ts ∧ RK kZ wv wa wc W ∧ Tbs wv ts bs (FL W p k i) W.length) ?_ _ ⟨k + 1, (fun kz => ([us1 0, undef, undef, undef, undef, undef, undef, undef, undef, undef, undef, undef, undef] : List Value).getD kz undef), rfl, rfl, ⟨Nat.le_refl _, by omega⟩, GG, kg1, kg2, HN, HTs, HWs, HB⟩
      clear GG kg1 kg2 HTs HWs HB HN
      rintro mz az wv ⟨j, us2, rfl, rfl, hj, GG, kg1, kg2, HN, HTs, HWs, HB⟩
      refine wp_seq ?_
      refine wp_seq ?_
      refine wp_region_lit ?_
      refine s_val 112 rfl rfl (.int .i64 ((j : Nat) : Int)) (rfl) ?_
      refine nr ?_; intro U h; simp only [z0, z1] at h; subst h
      refine s_val 113 rfl rfl (.slice wa W.length wc) (rfl) ?_
      refine nr ?_; intro U h; simp only [z0, z1] at h; subst h
      refine s_val 114 rfl rfl (.int .i64 ((W.length : Nat) : Int)) (run_len Try.underlying22 _ rfl _ _ _ rfl _) ?_
      refine nr ?_; intro U h; simp only [z0, z1] at h; subst h
      cases hj1 : decide (((j : Nat) : Int) < ((W.length : Nat) : Int))
      · refine s_val 115 rfl rfl (.bool false) (run_lssT 3 _ _ _ rfl ((j : Nat) : Int) ((W.length : Nat) : Int) rfl rfl false hj1 _) ?_
        refine nr ?_; intro U h; simp only [z0, z1] at h; subst h
        refine wpList_nil ?_
        refine then_n ?_
        refine wp_cond_false rfl ?_
        refine wp_exit ?_
        refine then_x ?_
        refine then_x ?_
        refine blk_x ?_
        refine then_n ?_
        refine wp_seq ?_
        refine wp_region_exA (A := ?Ax5) 17 [(0, 124), (1, 125), (2, 126), (3, 127), (4, 128), (5, 129), (6, 130), (7, 131), (8, 132), (9, 133), (10, 134), (11, 135), (12, 136), (13, 137), (14, 138), (15, 139), (16, 140)] [.val (.pointer (some ⟨g2, 0, none⟩)), .val (.slice ao 0 c), .val (.int .i64 0), .val (.bool true), .val (.bool true), .val (.pointer (some ⟨g2, 1, none⟩)), .val (.slice bo ([p]).length d), .val (.int .i64 ((([p]).length : Nat) : Int)), .val (.bool true), .val (.bool true), .val (.bool true), .val (.pointer (some ⟨g2, 1, none⟩)), .val (.slice bo ([p]).length d), .val (.pointer (pK kP bo 0 0)), .val (.agg (paA ([p].getD 0 zP))), .val (.agg (paA p)), .val (.bool true)] follows (by kernel_rfl) rfl ?hAx5 (opsA_cons ?o0x5 (opsA_cons ?o1x5 (opsA_cons ?o2x5 (opsA_cons ?o3x5 (opsA_cons ?o4x5 (opsA_cons ?o5x5 (opsA_cons ?o6x5 (opsA_cons ?o7x5 (opsA_cons ?o8x5 (opsA_cons ?o9x5 (opsA_cons ?o10x5 (opsA_cons ?o11x5 (opsA_cons ?o12x5 (opsA_cons ?o13x5 (opsA_cons ?o14x5 (opsA_cons ?o15x5 (opsA_cons ?o16x5 opsA_nil))))))))))))))))) ?restx5
        case hAx5 =>
          intro ptrs
          simp only [full, foldSlots, filledE, postE, List.foldl_cons, List.foldl_nil, List.getD_cons_zero, List.getD_cons_succ, fill_val, List.set_cons_zero, List.set_cons_succ]
          exact rfl
        case o0x5 => exact fun _ _ _ _ => opE_value (v := .pointer (some ⟨g2, 0, none⟩)) rfl (run_fld 35 _ 0 rfl g2 0 rfl 0 (by kernel_rfl))
        case o1x5 => exact fun _ _ hw _ => opE_value (v := .slice ao 0 c) rfl (ldT_o _ rfl g2 rfl (hw.has kg2))
        case o2x5 => exact fun _ _ _ _ => opE_value (v := .int .i64 0) rfl (run_len Try.underlying32 _ rfl _ _ _ rfl _)
        case o3x5 => exact fun _ _ _ _ => opE_value (v := .bool true) rfl (run_eq_k 3 .i64 _ _ _ rfl Try.underlying3 0 0 rfl rfl true (by decide) _)
        case o4x5 => exact fun _ _ _ _ => opE_move (v := .bool true) _ rfl rfl rfl
        case o5x5 => exact fun _ _ _ _ => opE_value (v := .pointer (some ⟨g2, 1, none⟩)) rfl (run_fld 35 _ 1 rfl g2 0 rfl 1 (by kernel_rfl))
        case o6x5 => exact fun _ _ hw _ => opE_value (v := .slice bo ([p]).length d) rfl (ldT_l _ rfl g2 rfl (hw.has kg2))
        case o7x5 => exact fun _ _ _ _ => opE_value (v := .int .i64 ((([p]).length : Nat) : Int)) rfl (run_len Try.underlying33 _ rfl _ _ _ rfl _)
        case o8x5 => exact fun _ _ _ _ => opE_value (v := .bool true) rfl (run_eq_k 3 .i64 _ _ _ rfl Try.underlying3 ((([p] : List Pa).length : Nat) : Int) 1 rfl rfl true (decide_eq_true rfl) _)
        case o9x5 => exact fun _ _ _ _ => opE_pick (v := .bool true) _ _ _ rfl rfl true rfl rfl
        case o10x5 => exact fun _ _ _ _ => opE_move (v := .bool true) _ rfl rfl rfl
        case o11x5 => exact fun _ _ _ _ => opE_value (v := .pointer (some ⟨g2, 1, none⟩)) rfl (run_fld 35 _ 1 rfl g2 0 rfl 1 (by kernel_rfl))
        case o12x5 => exact fun _ _ hw _ => opE_value (v := .slice bo ([p]).length d) rfl (ldT_l _ rfl g2 rfl (hw.has kg2))
        case o13x5 => exact fun _ _ hw _ => opE_value (v := .pointer (pK kP bo 0 0)) rfl (run_ixK rP ((HN.gro ((Gro.refl _).drew.trans hw)).lost.re) _ _ rfl rfl 0 rfl Nat.zero_lt_one)
        case o14x5 => exact fun _ _ hw _ => opE_value (v := .agg (paA ([p].getD 0 zP))) rfl (run_ldPp ((HN.gro ((Gro.refl _).drew.trans hw)).lost.re) _ rfl 0 rfl Nat.zero_lt_one)
        case o15x5 => exact fun _ _ hw _ => opE_value (v := .agg (paA p)) rfl (ldP0 _ rfl g1 rfl (hw.has kg1))
        case o16x5 => exact fun _ _ _ _ => opE_value (v := .bool true) rfl (run_eqP _ _ _ rfl ([p].getD 0 zP) p rfl rfl hp hp true (decide_eq_true rfl))
        intro ptrs w7 GD hxE
        simp only [List.drop_succ_cons, List.drop_zero]
        replace kg1 := GD.has kg1
        replace kg2 := GD.has kg2
        replace HTs := HTs.gro ((Gro.refl _).drew.trans GD)
        replace HWs := HWs.gro ((Gro.refl _).drew.trans GD)
        replace HB := HB.gro ((Gro.refl _).drew.trans GD)
        replace HN := HN.gro ((Gro.refl _).drew.trans GD)
        replace GG := GG.drew.trans GD
        clear GD
        refine s_val 141 rfl rfl (.bool true) (rfl) ?_
        refine nr ?_; intro U h; simp only [z0, z1] at h; subst h
        refine s_val 6 rfl rfl (.bool true) (rfl) ?_
        refine nr ?_; intro U h; simp only [z0, z1] at h; subst h
        refine wpList_nil ?_
        refine then_n ?_
        refine wp_ret ?_
        refine bodyPost_ret (results_tmp Try.results3 _ _ _) rfl ?_
        exact ⟨rfl, GG⟩
      · have hjl : j < W.length := by have := of_decide_eq_true hj1; omega
        refine s_val 115 rfl rfl (.bool true) (run_lssT 3 _ _ _ rfl ((j : Nat) : Int) ((W.length : Nat) : Int) rfl rfl true hj1 _) ?_
        refine nr ?_; intro U h; simp only [z0, z1] at h; subst h
        refine wpList_nil ?_
        refine then_n ?_
        refine wp_cond_true rfl ?_
        refine wp_skip ?_
        refine then_n ?_
        refine wp_seq ?_
        refine wp_block ?_
        refine wp_seq ?_
        refine wp_region_lit ?_
        refine s_val 118 rfl rfl (.slice ta ts.length tc) (rfl) ?_
        refine nr ?_; intro U h; simp only [z0, z1] at h; subst h
        refine s_val 119 rfl rfl (.int .i64 ((j : Nat) : Int)) (rfl) ?_
        refine nr ?_; intro U h; simp only [z0, z1] at h; subst h
        refine s_val 120 rfl rfl (.pointer (pK kT ta j 0)) (run_ixK rT (HTs) _ _ rfl rfl j rfl (by omega)) ?_
        refine nr ?_; intro U h; simp only [z0, z1] at h; subst h
        refine s_val 121 rfl rfl (.pointer (some ⟨(ts.getD j 0), 0, none⟩)) (run_ldT (HTs) _ rfl j rfl (by omega)) ?_
        refine nr ?_; intro U h; simp only [z0, z1] at h; subst h
        have hTMj := HB.tm j hjl
        rw [FL_out (show ¬ (i ≤ j ∧ j ≤ k) by omega)] at hTMj
        refine s_callv 122 rfl rfl _ 9 Try.call9 rfl rfl _ rfl [.pointer (some ⟨(ts.getD j 0), 0, none⟩)] rfl (len_any _ (ts.getD j 0) (bs.getD j 0) 2 [xL W p j] (HB.tb j hjl) hTMj) ?_
        intro w7 G
        replace kg1 := G.has kg1
        replace kg2 := G.has kg2
        replace HTs := HTs.gro G
        replace HWs := HWs.gro G
        replace HB := HB.gro G
        replace HN := HN.gro G
        replace GG := GG.trans G
        clear G
        refine nr ?_; intro U h; simp only [z0, z1] at h; subst h
        refine s_val 123 rfl rfl (.bool false) (run_neq_k 3 .i64 _ _ _ rfl Try.underlying3 1 1 rfl rfl false (by decide) _) ?_
        refine nr ?_; intro U h; simp only [z0, z1] at h; subst h
        refine wpList_nil ?_
        refine then_n ?_
        refine wp_cond_false rfl ?_
        refine wp_skip ?_
        refine blk_n ?_
        refine then_n ?_
        refine wp_region_lit ?_
        refine s_val 116 rfl rfl (.int .i64 ((j : Nat) : Int)) (rfl) ?_
        refine nr ?_; intro U h; simp only [z0, z1] at h; subst h
        refine s_val 117 rfl rfl (.int .i64 ((j + 1 : Nat) : Int)) (run_addI 3 _ _ _ rfl ((j : Nat) : Int) 1 ((j + 1 : Nat) : Int) rfl rfl (by omega) (by omega) (by omega) _) ?_
        refine nr ?_; intro U h; simp only [z0, z1] at h; subst h
        refine s_val 14 rfl rfl (.int .i64 ((j + 1 : Nat) : Int)) (rfl) ?_
        refine nr ?_; intro U h; simp only [z0, z1] at h; subst h
        refine wpList_nil ?_
        refine then_n ?_
        exact ⟨W.length + 1 - (j + 1), by omega, j + 1, (fun kz => ([us2 0, .int .i64 ((j : Nat) : Int), .slice wa W.length wc, .int .i64 ((W.length : Nat) : Int), .bool true, .int .i64 ((j : Nat) : Int), .int .i64 ((j + 1 : Nat) : Int), .slice ta ts.length tc, .int .i64 ((j : Nat) : Int), .pointer (pK kT ta j 0), .pointer (some ⟨(ts.getD j 0), 0, none⟩), .int .i64 1, .bool false] : List Value).getD kz undef), rfl, rfl, by omega, GG, kg1, kg2, HN, HTs, HWs, HB⟩
  · refine s_val 23 rfl rfl (.bool true) (run_lssT 3 _ _ _ rfl ((W.length : Nat) : Int) 2 rfl rfl true h2 _) ?_
    refine nr ?_; intro U h; simp only [z0, z1] at h; subst h
    refine s_val 24 rfl rfl (.bool true) (rfl) ?_
    refine nr ?_; intro U h; simp only [z0, z1] at h; subst h
    refine s_skipY 25 rfl rfl y3 rfl ?_
    refine nr ?_; intro U h; simp only [z0, z1] at h; subst h
    refine s_skipY 26 rfl rfl y3 rfl ?_
    refine nr ?_; intro U h; simp only [z0, z1] at h; subst h
    refine s_val 27 rfl rfl (.bool true) (rfl) ?_
    refine nr ?_; intro U h; simp only [z0, z1] at h; subst h
    refine wpList_nil ?_
    refine then_n ?_
    refine wp_cond_true rfl ?_
    refine wp_seq ?_
    refine wp_region_lit ?_
    refine s_callv 28 rfl rfl _ 5 Try.call5 rfl rfl _ rfl [] rfl (fixed_any _) ?_
    intro w3 G
    replace kg1 := G.has kg1
    replace HTs := HTs.gro G
    replace HWs := HWs.gro G
    replace HB := HB.gro G
    replace GG := GG.trans G
    clear G
    refine nr ?_; intro U h; simp only [z0, z1] at h; subst h
    refine s_val 6 rfl rfl (.bool true) (rfl) ?_
    refine nr ?_; intro U h; simp only [z0, z1] at h; subst h
    refine wpList_nil ?_
    refine then_n ?_
    refine wp_ret ?_
    refine then_r ?_
    refine bodyPost_ret (results_tmp Try.results3 _ _ _) rfl ?_
    exact ⟨rfl, GG⟩
end Go.Proofs.Ytmpnepbmpmkmkab
