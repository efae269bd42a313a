/- Pipes: what lies in memory, and each call of the program's. -/
import Derived.Test.YtlonnbmkkmfmeaaQ1
namespace Go.Proofs.Ytlonnbmkkmfmeaa
open Go.RowKit
def c26 (x0 : Sl) : Array Value := #[.slice x0.ao x0.n x0.cap]
theorem cz26 (x0 : Sl) : (c26 x0).size = 1 := by kernel_rfl
theorem co26 (x0 : Sl) : (c26 x0).all (·.oneCell') = true := by kernel_rfl
theorem si26 : (Try.prog.info? 26).map (·.size) = some 1 := by kernel_rfl
theorem sc26 (x0 : Sl) : (Try.prog.info? 26).map (·.size) = some (c26 x0).size := by kernel_rfl
theorem zv26 (w : World) : (zeroValue 26).run Try.prog w = .ok (.agg (c26 Sl.nil)) w := by kernel_rfl
def c29 (x0 : Sl) : Array Value := #[.slice x0.ao x0.n x0.cap]
theorem cz29 (x0 : Sl) : (c29 x0).size = 1 := by kernel_rfl
theorem co29 (x0 : Sl) : (c29 x0).all (·.oneCell') = true := by kernel_rfl
theorem si29 : (Try.prog.info? 29).map (·.size) = some 1 := by kernel_rfl
theorem sc29 (x0 : Sl) : (Try.prog.info? 29).map (·.size) = some (c29 x0).size := by kernel_rfl
theorem zv29 (w : World) : (zeroValue 29).run Try.prog w = .ok (.agg (c29 Sl.nil)) w := by kernel_rfl
def c32 (x0 : Int) (x1 : Int) (x2 : Sl) : Array Value := #[.int .i64 x0, .int .i64 x1, .slice x2.ao x2.n x2.cap]
theorem cz32 (x0 : Int) (x1 : Int) (x2 : Sl) : (c32 x0 x1 x2).size = 3 := by kernel_rfl
theorem co32 (x0 : Int) (x1 : Int) (x2 : Sl) : (c32 x0 x1 x2).all (·.oneCell') = true := by kernel_rfl
theorem si32 : (Try.prog.info? 32).map (·.size) = some 3 := by kernel_rfl
theorem sc32 (x0 : Int) (x1 : Int) (x2 : Sl) : (Try.prog.info? 32).map (·.size) = some (c32 x0 x1 x2).size := by kernel_rfl
theorem zv32 (w : World) : (zeroValue 32).run Try.prog w = .ok (.agg (c32 0 0 Sl.nil)) w := by kernel_rfl
theorem si24 : (Try.prog.info? 24).map (·.size) = some 1 := by kernel_rfl
theorem na24 (w : World) : (isAgg 24).run Try.prog w = .ok false w := by kernel_rfl

theorem conv350 {o : Oper} {A : Act} (x : Operand) (ho : o.op = .convert 3 50 x) (z : Int) (hx : A.eval x = .int .i64 z) (w : World) : (execOp A.eval o).run Try.prog w = .ok (.value (.int .u64 ((uN z : Nat) : Int))) w := by
  unfold execOp
  simp only [ho, hx]
  simp [go_sem, uN_eq]
theorem uN_nat (n : Nat) (h : n < 9223372036854775808) : uN (n : Int) = n := by
  unfold uN
  omega
theorem conv350n {o : Oper} {A : Act} (x : Operand) (ho : o.op = .convert 3 50 x) (n : Nat) (hn : n < 9223372036854775808) (hx : A.eval x = .int .i64 (n : Int)) (w : World) : (execOp A.eval o).run Try.prog w = .ok (.value (.int .u64 (n : Int))) w := by
  rw [conv350 x ho n hx w, uN_nat n hn]
theorem conv503 {o : Oper} {A : Act} (x : Operand) (ho : o.op = .convert 50 3 x) (n : Nat) (hn : n < 9223372036854775808) (hx : A.eval x = .int .u64 (n : Int)) (w : World) : (execOp A.eval o).run Try.prog w = .ok (.value (.int .i64 (n : Int))) w := by
  have h : IntKind.i64.wrap (n : Int) = (n : Int) := wrap_in _ (by omega) (by omega)
  unfold execOp
  simp only [ho, hx]
  simp [go_sem, h]
theorem Kept.refl (M : Nat) (ao : Option Addr) : Kept M ao ao := fun _ h => .inl h
theorem Kept.mono {M M' : Nat} {ao ao2 : Option Addr} (h : Kept M ao ao2) (hm : M' ≤ M) : Kept M' ao ao2 := fun k hk => (h k hk).imp id fun h => by omega
theorem Kept.none (M : Nat) (ao : Option Addr) : Kept M ao none := fun k hk => by
  obtain ⟨ad, h, _⟩ := mem_blk.1 hk
  cases h
theorem OY.st {w w' : World} {e : TypeId} {sz B : Nat} {ao : Option Addr} {cap n : Nat} {cs : List Value} (h : OY w e sz B ao cap n cs) {g : Nat} {x : Obj} (S : Stored w w' g x) (hg : g ∉ blk ao) : OY w' e sz B ao cap n cs :=
  h.gros (S := [g]) ((GroS.refl [g] w).st S (.inr (by simp))) (fun k hk => by simp; exact fun e => hg (e ▸ hk))
/-- A pipe: its box, its row, its frames. -/
structure PK (t : TypeId) (w : World) (p B : Nat) (ao : Option Addr) (cap : Nat) (q : List RV) : Prop where
  box : w.heap[p]? = some (.cells #[.slice ao q.length cap] t (0, 0))
  row : OY w 30 1 B ao cap q.length (q.map RV.v)
  fr : ∀ x ∈ q, OB w 5 .u8 B x.ao x.cap x.l
  base : B ≤ p
  le : q.length ≤ 256
  sm : ∀ x ∈ q, x.l.length ≤ 140737488355000
  ty : t ≠ 30 ∧ t ≠ 5
section
variable {t : TypeId} {w w' : World} {p B : Nat} {ao : Option Addr} {cap : Nat} {q : List RV}
theorem PK.ne (H : PK t w p B ao cap q) : p ∉ blk ao := H.row.ne H.box H.ty.1
theorem PK.lt (H : PK t w p B ao cap q) : p < w.heap.size := lt_of_heap H.box
theorem PK.bl (H : PK t w p B ao cap q) : B ≤ w.heap.size := Nat.le_trans H.base (Nat.le_of_lt H.lt)
theorem PK.fe (H : PK t w p B ao cap q) : ∀ x ∈ q, ∀ ad, x.ao = some ad → B ≤ ad.block ∧ ad.block < w.heap.size := fun x hx ad ha => (H.fr x hx).ge ad ha
theorem PK.gros {S : List Nat} (H : PK t w p B ao cap q) (G : GroS S w w') (hp : p ∉ S) (hr : ∀ k ∈ blk ao, k ∉ S) (hf : ∀ x ∈ q, ∀ ad, x.ao = some ad → ad.block ∉ S) : PK t w' p B ao cap q :=
  ⟨G.has H.box hp, H.row.gros G hr, fun x hx => (H.fr x hx).gros G (hf x hx), H.base, H.le, H.sm, H.ty⟩
theorem PK.gro (H : PK t w p B ao cap q) (G : Gro w w') : PK t w' p B ao cap q := H.gros (S := []) (.of G) (by simp) (fun _ _ => by simp) (fun _ _ _ _ => by simp)
/-- Blocks of other types alone change: or the frames'. -/
theorem PK.five {S : List Nat} (H : PK t w p B ao cap q) (G : GroS S w w') (h5 : ∀ k ∈ S, ∃ c, w.heap[k]? = some (.cells c 5 (0, 0))) (hf : ∀ x ∈ q, ∀ ad, x.ao = some ad → ad.block ∉ S) : PK t w' p B ao cap q :=
  H.gros G (fun h => by obtain ⟨c, hc⟩ := h5 _ h; exact ne_type H.box hc H.ty.2 rfl) (fun k hk h => by obtain ⟨c, hc⟩ := h5 _ h; obtain ⟨_, cur, hk⟩ := H.row.at k hk; exact ne_type hk hc (by decide) rfl) hf
theorem PK.f5 (H : PK t w p B ao cap q) {S : List Nat} (hS : ∀ k ∈ S, ∃ c t', w.heap[k]? = some (.cells c t' (0, 0)) ∧ t' ≠ 5) : ∀ x ∈ q, ∀ ad, x.ao = some ad → ad.block ∉ S := fun x hx ad ha hm => by
  obtain ⟨cur, hc⟩ := (H.fr x hx).blk5 ha
  obtain ⟨c, t', h1, h2⟩ := hS _ hm
  exact ne_type h1 hc h2 rfl
theorem PK.own (H : PK t w p B ao cap q) : ∀ k ∈ p :: blk ao, ∃ c t', w.heap[k]? = some (.cells c t' (0, 0)) ∧ t' ≠ 5 := fun k hk => by
  rcases List.mem_cons.1 hk with rfl | hk
  · exact ⟨_, _, H.box, H.ty.2⟩
  · obtain ⟨_, cur, hc⟩ := H.row.at k hk
    exact ⟨_, _, hc, by decide⟩
theorem PK.at (H : PK t w p B ao cap q) {j : Nat} {x : RV} (hx : q[j]? = some x) : ∃ ad, ao = some ad ∧ w.cell? (ad.add j) = some (.slice x.ao x.l.length x.cap) := by
  have hj := (List.getElem?_eq_some_iff.1 hx).1
  obtain ⟨ad, ha⟩ := H.row.xc.some (by omega)
  exact ⟨ad, ha, H.row.xc.cell ad ha j _ (by rw [List.getElem?_map, hx]; rfl)⟩
end
theorem rY : RowT Try.prog 24 30 1 24 (.slice none 0 0) := ⟨Try.underlying24, info_of (by kernel_rfl), rfl, by decide⟩
set_option maxRecDepth 100000 in
set_option maxHeartbeats 4000000 in
theorem copyOf_any (w : World) (ao : Option Addr) (cap : Nat) (l : List Nat) (H : NC w .u8 ao cap l) (hl : l.length ≤ 140737488355000) : Calls Try.prog 19 #[.slice ao l.length cap] w fun e w' => ∃ g, e = .returned (.slice (some ⟨g, 0, none⟩) l.length l.length) ∧ Gro w w' ∧ w.heap.size ≤ g ∧ w'.heap[g]? = some (.cells (bv l) 5 (0, 0)) := by
  refine s_enter Try.func19 rfl Try.ntmps19 [.slice ao l.length cap] [.slice ao l.length cap, undef, undef, undef, undef, undef, undef, undef, undef, undef, undef] rfl ?_
  have GG := Gro.refl w
  refine wp_seq ?_
  refine wp_region_lit ?_
  refine s_val 2 rfl rfl (.slice none 0 0) (rfl) ?_
  refine nr ?_; intro U h; simp only [z0, z1] at h; subst h
  refine wpList_nil ?_
  refine then_n ?_
  refine wp_seq ?_
  refine wp_region_lit ?_
  refine s_val 4 rfl rfl (.slice ao l.length cap) (rfl) ?_
  refine nr ?_; intro U h; simp only [z0, z1] at h; subst h
  refine s_val 5 rfl rfl (.int .i64 ((l.length : Nat) : Int)) (run_len Try.underlying30 _ rfl _ _ _ rfl _) ?_
  refine nr ?_; intro U h; simp only [z0, z1] at h; subst h
  refine s_make bT 6 rfl rfl _ _ rfl l.length rfl rfl (by omega) (by simp only [maxLen]; omega) ?_
  intro w1 g1 G eg1 kg1
  have bg1 := size_base GG eg1
  replace GG := GG.trans G
  clear G eg1
  refine nr ?_; intro U h; simp only [z0, z1] at h; subst h
  refine s_val 3 rfl rfl (.slice (some ⟨g1, 0, none⟩) l.length l.length) (rfl) ?_
  refine nr ?_; intro U h; simp only [z0, z1] at h; subst h
  refine wpList_nil ?_
  refine then_n ?_
  refine wp_seq ?_
  refine wp_region_lit ?_
  refine s_val 7 rfl rfl (.slice (some ⟨g1, 0, none⟩) l.length l.length) (rfl) ?_
  refine nr ?_; intro U h; simp only [z0, z1] at h; subst h
  refine s_val 8 rfl rfl (.slice ao l.length cap) (rfl) ?_
  refine nr ?_; intro U h; simp only [z0, z1] at h; subst h
  refine s_copy bT 9 rfl rfl _ _ rfl g1 0 l.length l.length rfl kg1 rfl (rfl) (H.gro GG) (List.take_of_length_le (Nat.le_refl _)) (by rw [zs_len]; omega) ?_
  intro w2 St
  replace GG := GG.store St bg1
  replace kg1 := St.new
  clear St
  rw [wr_all (by rw [zs_len])] at kg1
  refine nr ?_; intro U h; simp only [z0, z1] at h; subst h
  refine wpList_nil ?_
  refine then_n ?_
  refine wp_seq ?_
  refine wp_region_lit ?_
  refine s_val 10 rfl rfl (.slice (some ⟨g1, 0, none⟩) l.length l.length) (rfl) ?_
  refine nr ?_; intro U h; simp only [z0, z1] at h; subst h
  refine s_val 2 rfl rfl (.slice (some ⟨g1, 0, none⟩) l.length l.length) (rfl) ?_
  refine nr ?_; intro U h; simp only [z0, z1] at h; subst h
  refine wpList_nil ?_
  refine then_n ?_
  refine wp_ret ?_
  refine bodyPost_ret (results_tmp Try.results19 _ _ _) rfl ?_
  exact ⟨g1, rfl, GG, bg1, kg1⟩
set_option maxRecDepth 100000 in
set_option maxHeartbeats 4000000 in
theorem len_any (w : World) (p B : Nat) (ro : Option Addr) (rc : Nat) (q : List RV) (H : PK 26 w p B ro rc q) : Calls Try.prog 17 #[.pointer (some ⟨p, 0, none⟩)] w fun e w' => e = .returned (.int .i64 ((q.length : Nat) : Int)) ∧ Gro w w' := by
  refine s_enter Try.func17 rfl Try.ntmps17 [.pointer (some ⟨p, 0, none⟩)] [.pointer (some ⟨p, 0, none⟩), undef, undef, undef, undef, undef, undef, undef, undef, undef] rfl ?_
  have GG := Gro.refl w
  have kp := H.box
  have hq := H.le
  have hpl := H.lt
  have hBl := H.bl
  refine wp_seq ?_
  refine wp_region_lit ?_
  refine s_val 2 rfl rfl (.int .i64 0) (rfl) ?_
  refine nr ?_; intro U h; simp only [z0, z1] at h; subst h
  refine wpList_nil ?_
  refine then_n ?_
  refine wp_seq ?_
  refine wp_seq ?_
  refine wp_region_lit ?_
  refine s_val 3 rfl rfl (.pointer (some ⟨p, 0, none⟩)) (rfl) ?_
  refine nr ?_; intro U h; simp only [z0, z1] at h; subst h
  refine s_val 4 rfl rfl (.bool false) (run_eqnp 23 _ _ _ rfl _ rfl rfl Try.underlying23 _) ?_
  refine nr ?_; intro U h; simp only [z0, z1] at h; subst h
  refine wpList_nil ?_
  refine then_n ?_
  refine wp_cond_false rfl ?_
  refine wp_skip ?_
  refine then_n ?_
  refine wp_seq ?_
  refine wp_region_lit ?_
  refine s_val 5 rfl rfl (.pointer (some ⟨p, 0, none⟩)) (rfl) ?_
  refine nr ?_; intro U h; simp only [z0, z1] at h; subst h
  refine s_val 6 rfl rfl (.pointer (some ⟨p, 0, none⟩)) (run_nc _ rfl _ rfl) ?_
  refine nr ?_; intro U h; simp only [z0, z1] at h; subst h
  refine s_val 7 rfl rfl (.pointer (some ⟨p, 0, none⟩)) (run_fld 26 _ 0 rfl _ _ rfl _ (by kernel_rfl)) ?_
  refine nr ?_; intro U h; simp only [z0, z1] at h; subst h
  refine s_val 8 rfl rfl (.slice ro q.length rc) (run_ldc 24 _ rfl p 0 rfl 26 _ kp (na24 _) _ rfl) ?_
  refine nr ?_; intro U h; simp only [z0, z1] at h; subst h
  refine s_val 9 rfl rfl (.int .i64 ((q.length : Nat) : Int)) (run_len Try.underlying24 _ rfl _ _ _ rfl _) ?_
  refine nr ?_; intro U h; simp only [z0, z1] at h; subst h
  refine s_val 2 rfl rfl (.int .i64 ((q.length : Nat) : Int)) (rfl) ?_
  refine nr ?_; intro U h; simp only [z0, z1] at h; subst h
  refine wpList_nil ?_
  refine then_n ?_
  refine wp_ret ?_
  refine bodyPost_ret (results_tmp Try.results17 _ _ _) rfl ?_
  exact ⟨rfl, GG⟩
set_option maxRecDepth 100000 in
set_option maxHeartbeats 4000000 in
theorem len_nil (w : World) : Calls Try.prog 17 #[.pointer none] w fun e w' => e = .returned (.int .i64 0) ∧ Gro w w' := by
  refine s_enter Try.func17 rfl Try.ntmps17 [.pointer none] [.pointer none, undef, undef, undef, undef, undef, undef, undef, undef, undef] rfl ?_
  have GG := Gro.refl w
  refine wp_seq ?_
  refine wp_region_lit ?_
  refine s_val 2 rfl rfl (.int .i64 0) (rfl) ?_
  refine nr ?_; intro U h; simp only [z0, z1] at h; subst h
  refine wpList_nil ?_
  refine then_n ?_
  refine wp_seq ?_
  refine wp_seq ?_
  refine wp_region_lit ?_
  refine s_val 3 rfl rfl (.pointer none) (rfl) ?_
  refine nr ?_; intro U h; simp only [z0, z1] at h; subst h
  refine s_val 4 rfl rfl (.bool true) (run_eqnn 23 _ _ _ rfl rfl rfl Try.underlying23 _) ?_
  refine nr ?_; intro U h; simp only [z0, z1] at h; subst h
  refine wpList_nil ?_
  refine then_n ?_
  refine wp_cond_true rfl ?_
  refine wp_seq ?_
  refine wp_region_lit ?_
  refine s_val 2 rfl rfl (.int .i64 0) (rfl) ?_
  refine nr ?_; intro U h; simp only [z0, z1] at h; subst h
  refine wpList_nil ?_
  refine then_n ?_
  refine wp_ret ?_
  refine then_r ?_
  refine bodyPost_ret (results_tmp Try.results17 _ _ _) rfl ?_
  exact ⟨rfl, GG⟩
set_option maxRecDepth 100000 in
set_option maxHeartbeats 4000000 in
theorem place_any (w : World) (p B : Nat) (ro : Option Addr) (rc : Nat) (q : List RV) (H : PK 26 w p B ro rc q) (i : Int) (h0 : 0 < q.length) : Calls Try.prog 20 #[.pointer (some ⟨p, 0, none⟩), .int .i64 i] w fun e w' => e = .returned (.int .i64 ((uN i % q.length : Nat) : Int)) ∧ Gro w w' := by
  refine s_enter Try.func20 rfl Try.ntmps20 [.pointer (some ⟨p, 0, none⟩), .int .i64 i] [.pointer (some ⟨p, 0, none⟩), .int .i64 i, undef, undef, undef, undef, undef, undef, undef, undef, undef, undef, undef, undef, undef] rfl ?_
  have GG := Gro.refl w
  have kp := H.box
  have hq := H.le
  have hpl := H.lt
  have hBl := H.bl
  refine wp_seq ?_
  refine wp_region_lit ?_
  refine s_val 4 rfl rfl (.int .i64 0) (rfl) ?_
  refine nr ?_; intro U h; simp only [z0, z1] at h; subst h
  refine wpList_nil ?_
  refine then_n ?_
  refine wp_seq ?_
  refine wp_region_lit ?_
  refine s_val 5 rfl rfl (.int .i64 i) (rfl) ?_
  refine nr ?_; intro U h; simp only [z0, z1] at h; subst h
  refine s_val 6 rfl rfl (.int .u64 ((uN i : Nat) : Int)) (conv350 _ rfl i rfl _) ?_
  refine nr ?_; intro U h; simp only [z0, z1] at h; subst h
  refine s_val 7 rfl rfl (.pointer (some ⟨p, 0, none⟩)) (rfl) ?_
  refine nr ?_; intro U h; simp only [z0, z1] at h; subst h
  refine s_val 8 rfl rfl (.pointer (some ⟨p, 0, none⟩)) (run_nc _ rfl _ rfl) ?_
  refine nr ?_; intro U h; simp only [z0, z1] at h; subst h
  refine s_val 9 rfl rfl (.pointer (some ⟨p, 0, none⟩)) (run_fld 26 _ 0 rfl _ _ rfl _ (by kernel_rfl)) ?_
  refine nr ?_; intro U h; simp only [z0, z1] at h; subst h
  refine s_val 10 rfl rfl (.slice ro q.length rc) (run_ldc 24 _ rfl p 0 rfl 26 _ kp (na24 _) _ rfl) ?_
  refine nr ?_; intro U h; simp only [z0, z1] at h; subst h
  refine s_val 11 rfl rfl (.int .i64 ((q.length : Nat) : Int)) (run_len Try.underlying24 _ rfl _ _ _ rfl _) ?_
  refine nr ?_; intro U h; simp only [z0, z1] at h; subst h
  refine s_val 12 rfl rfl (.int .u64 ((q.length : Nat) : Int)) (conv350n _ rfl q.length (by omega) rfl _) ?_
  refine nr ?_; intro U h; simp only [z0, z1] at h; subst h
  refine s_val 13 rfl rfl (.int .u64 ((uN i % q.length : Nat) : Int)) (run_remN 50 50 _ _ rfl (uN i) q.length rfl rfl (by omega) _) ?_
  refine nr ?_; intro U h; simp only [z0, z1] at h; subst h
  refine s_val 14 rfl rfl (.int .i64 ((uN i % q.length : Nat) : Int)) (conv503 _ rfl (uN i % q.length) (by have := Nat.mod_lt (uN i) h0; omega) rfl _) ?_
  refine nr ?_; intro U h; simp only [z0, z1] at h; subst h
  refine s_val 4 rfl rfl (.int .i64 ((uN i % q.length : Nat) : Int)) (rfl) ?_
  refine nr ?_; intro U h; simp only [z0, z1] at h; subst h
  refine wpList_nil ?_
  refine then_n ?_
  refine wp_ret ?_
  refine bodyPost_ret (results_tmp Try.results20 _ _ _) rfl ?_
  exact ⟨rfl, GG⟩
set_option maxRecDepth 100000 in
set_option maxHeartbeats 4000000 in
theorem put_nil (w : World) (ao : Option Addr) (cap : Nat) (l : List Nat) : Calls Try.prog 8 #[.pointer none, .slice ao l.length cap] w fun e w' => e = .returned (.bool false) ∧ Gro w w' := by
  refine s_enter Try.func8 rfl Try.ntmps8 [.pointer none, .slice ao l.length cap] [.pointer none, .slice ao l.length cap, undef, undef, undef, undef, undef, undef, undef, undef, undef, undef, undef, undef, undef, undef, undef, undef, undef, undef, undef, undef, undef, undef, undef, undef] rfl ?_
  have GG := Gro.refl w
  refine wp_seq ?_
  refine wp_region_lit ?_
  refine s_val 4 rfl rfl (.bool false) (rfl) ?_
  refine nr ?_; intro U h; simp only [z0, z1] at h; subst h
  refine wpList_nil ?_
  refine then_n ?_
  refine wp_seq ?_
  refine wp_seq ?_
  refine wp_region_opq ?_
  intro OPS hY
  have y2 := hY 2 7 rfl
  clear hY
  refine s_val 5 rfl rfl (.pointer none) (rfl) ?_
  refine nr ?_; intro U h; simp only [z0, z1] at h; subst h
  refine s_val 6 rfl rfl (.bool true) (run_eqnn 23 _ _ _ rfl rfl rfl Try.underlying23 _) ?_
  refine nr ?_; intro U h; simp only [z0, z1] at h; subst h
  refine s_val 7 rfl rfl (.bool true) (rfl) ?_
  refine nr ?_; intro U h; simp only [z0, z1] at h; subst h
  refine s_skipY 8 rfl rfl y2 rfl ?_
  refine nr ?_; intro U h; simp only [z0, z1] at h; subst h
  refine s_skipY 9 rfl rfl y2 rfl ?_
  refine nr ?_; intro U h; simp only [z0, z1] at h; subst h
  refine s_skipY 10 rfl rfl y2 rfl ?_
  refine nr ?_; intro U h; simp only [z0, z1] at h; subst h
  refine s_skipY 11 rfl rfl y2 rfl ?_
  refine nr ?_; intro U h; simp only [z0, z1] at h; subst h
  refine s_skipY 12 rfl rfl y2 rfl ?_
  refine nr ?_; intro U h; simp only [z0, z1] at h; subst h
  refine s_skipY 13 rfl rfl y2 rfl ?_
  refine nr ?_; intro U h; simp only [z0, z1] at h; subst h
  refine s_val 14 rfl rfl (.bool true) (rfl) ?_
  refine nr ?_; intro U h; simp only [z0, z1] at h; subst h
  refine wpList_nil ?_
  refine then_n ?_
  refine wp_cond_true rfl ?_
  refine wp_seq ?_
  refine wp_region_lit ?_
  refine s_val 4 rfl rfl (.bool false) (rfl) ?_
  refine nr ?_; intro U h; simp only [z0, z1] at h; subst h
  refine wpList_nil ?_
  refine then_n ?_
  refine wp_ret ?_
  refine then_r ?_
  refine bodyPost_ret (results_tmp Try.results8 _ _ _) rfl ?_
  exact ⟨rfl, GG⟩
set_option maxRecDepth 100000 in
set_option maxHeartbeats 4000000 in
theorem put_full (w : World) (p B : Nat) (ro : Option Addr) (rc : Nat) (q : List RV) (H : PK 26 w p B ro rc q) (hf : 256 ≤ q.length) (ao : Option Addr) (cap : Nat) (l : List Nat) : Calls Try.prog 8 #[.pointer (some ⟨p, 0, none⟩), .slice ao l.length cap] w fun e w' => e = .returned (.bool false) ∧ Gro w w' := by
  refine s_enter Try.func8 rfl Try.ntmps8 [.pointer (some ⟨p, 0, none⟩), .slice ao l.length cap] [.pointer (some ⟨p, 0, none⟩), .slice ao l.length cap, undef, undef, undef, undef, undef, undef, undef, undef, undef, undef, undef, undef, undef, undef, undef, undef, undef, undef, undef, undef, undef, undef, undef, undef] rfl ?_
  have GG := Gro.refl w
  have kp := H.box
  have hq := H.le
  have hpl := H.lt
  have hBl := H.bl
  refine wp_seq ?_
  refine wp_region_lit ?_
  refine s_val 4 rfl rfl (.bool false) (rfl) ?_
  refine nr ?_; intro U h; simp only [z0, z1] at h; subst h
  refine wpList_nil ?_
  refine then_n ?_
  refine wp_seq ?_
  refine wp_seq ?_
  refine wp_region_opq ?_
  intro OPS hY
  have y2 := hY 2 7 rfl
  clear hY
  refine s_val 5 rfl rfl (.pointer (some ⟨p, 0, none⟩)) (rfl) ?_
  refine nr ?_; intro U h; simp only [z0, z1] at h; subst h
  refine s_val 6 rfl rfl (.bool false) (run_eqnp 23 _ _ _ rfl _ rfl rfl Try.underlying23 _) ?_
  refine nr ?_; intro U h; simp only [z0, z1] at h; subst h
  refine s_val 7 rfl rfl (.bool false) (rfl) ?_
  refine nr ?_; intro U h; simp only [z0, z1] at h; subst h
  refine s_gvalY 8 rfl rfl y2 rfl (.pointer (some ⟨p, 0, none⟩)) (rfl) ?_
  refine nr ?_; intro U h; simp only [z0, z1] at h; subst h
  refine s_gvalY 9 rfl rfl y2 rfl (.pointer (some ⟨p, 0, none⟩)) (run_nc _ rfl _ rfl) ?_
  refine nr ?_; intro U h; simp only [z0, z1] at h; subst h
  refine s_gvalY 10 rfl rfl y2 rfl (.pointer (some ⟨p, 0, none⟩)) (run_fld 26 _ 0 rfl _ _ rfl _ (by kernel_rfl)) ?_
  refine nr ?_; intro U h; simp only [z0, z1] at h; subst h
  refine s_gvalY 11 rfl rfl y2 rfl (.slice ro q.length rc) (run_ldc 24 _ rfl p 0 rfl 26 _ kp (na24 _) _ rfl) ?_
  refine nr ?_; intro U h; simp only [z0, z1] at h; subst h
  refine s_gvalY 12 rfl rfl y2 rfl (.int .i64 ((q.length : Nat) : Int)) (run_len Try.underlying24 _ rfl _ _ _ rfl _) ?_
  refine nr ?_; intro U h; simp only [z0, z1] at h; subst h
  refine s_gvalY 13 rfl rfl y2 rfl (.bool true) (run_geqT 3 _ _ _ rfl ((q.length : Nat) : Int) 256 rfl rfl true (by first | exact decide_eq_true (by omega) | exact decide_eq_false (by omega)) _) ?_
  refine nr ?_; intro U h; simp only [z0, z1] at h; subst h
  refine s_val 14 rfl rfl (.bool true) (rfl) ?_
  refine nr ?_; intro U h; simp only [z0, z1] at h; subst h
  refine wpList_nil ?_
  refine then_n ?_
  refine wp_cond_true rfl ?_
  refine wp_seq ?_
  refine wp_region_lit ?_
  refine s_val 4 rfl rfl (.bool false) (rfl) ?_
  refine nr ?_; intro U h; simp only [z0, z1] at h; subst h
  refine wpList_nil ?_
  refine then_n ?_
  refine wp_ret ?_
  refine then_r ?_
  refine bodyPost_ret (results_tmp Try.results8 _ _ _) rfl ?_
  exact ⟨rfl, GG⟩

/-- A copy of some bytes. -/
def cpE (M : Nat) (l : List Nat) : PostE := PostE.ex (fun v x => ∃ g, v = .slice (some ⟨g, 0, none⟩) l.length l.length ∧ M ≤ g ∧ x.heap[g]? = some (.cells (bv l) 5 (0, 0))) (fun _ _ _ G ⟨g, h1, h2, h3⟩ => ⟨g, h1, h2, G.has h3⟩)
theorem fill_cp (M : Nat) (l : List Nat) (v : Value) : (cpE M l).fill v = v := rfl
/-- A row of bytes of one's own. -/
def ocE (M : Nat) (l : List Nat) : PostE := PostE.ex (fun v x => ∃ ao cap, v = .slice ao l.length cap ∧ OB x 5 .u8 M ao cap l) (fun _ _ _ G ⟨a, c, h1, h2⟩ => ⟨a, c, h1, h2.gro G⟩)
theorem fill_oc (M : Nat) (l : List Nat) (v : Value) : (ocE M l).fill v = v := rfl
/-- A row of one such row. -/
def bsE (M : Nat) (l : List Nat) : PostE := PostE.ex (fun v x => ∃ (y : RV) (h : Nat), v = .slice (some ⟨h, 0, none⟩) 1 1 ∧ M ≤ h ∧ y.l = l ∧ OB x 5 .u8 M y.ao y.cap y.l ∧ x.heap[h]? = some (.cells #[y.v] 30 (0, 0))) (fun _ _ _ G ⟨y, h, h1, h2, h3, h4, h5⟩ => ⟨y, h, h1, h2, h3, h4.gro G, G.has h5⟩)
theorem fill_bs (M : Nat) (l : List Nat) (v : Value) : (bsE M l).fill v = v := rfl
/-- A pipe's row with one more frame. -/
def ptE (M B : Nat) (ro : Option Addr) (q : List RV) (l : List Nat) : PostE := PostE.ex (fun v x => ∃ ao2 cap2 y, v = .slice ao2 (q ++ [y]).length cap2 ∧ y.l = l ∧ OB x 5 .u8 M y.ao y.cap y.l ∧ OY x 30 1 B ao2 cap2 (q ++ [y]).length ((q ++ [y]).map RV.v) ∧ Kept M ro ao2) (fun _ _ _ G ⟨a, c, y, h1, h2, h3, h4, h5⟩ => ⟨a, c, y, h1, h2, h3.gro G, h4.gro G, h5⟩)
theorem fill_pt (M B : Nat) (ro : Option Addr) (q : List RV) (l : List Nat) (v : Value) : (ptE M B ro q l).fill v = v := rfl
theorem blk_ge {M : Nat} {w : World} {e : TypeId} {sz B : Nat} {ao : Option Addr} {cap n : Nat} {cs : List Value} (h : OY w e sz B ao cap n cs) (hM : w.heap.size = M) {g : Nat} (hg : M ≤ g) : g ∉ blk ao := fun hm => by
  have := h.lt g hm
  omega
theorem ob_av {M : Nat} {w a b : World} {e : TypeId} {sz B : Nat} {ao : Option Addr} {cap n : Nat} {cs : List Value} (h : OY w e sz B ao cap n cs) (hM : w.heap.size = M) (G : GroS (blk ao) a b) {ao' : Option Addr} {cap' : Nat} {l : List Nat} (H : OB a 5 .u8 M ao' cap' l) : OB b 5 .u8 M ao' cap' l :=
  H.gros G fun ad ha => blk_ge h hM (H.ge ad ha).1
theorem put_app {ops : Array Oper} {o : Oper} {A : Act} {x : World} (s y : Operand) (hw : Region.wanted o (yielded ops A.tmps) = true) (ho : o.op = .call { callee := .builtin .append, args := #[s, y], argTypes := #[24, 24] })
    {w : World} {B M : Nat} {ro : Option Addr} {rc : Nat} {q : List RV} (hr : OY w 30 1 B ro rc q.length (q.map RV.v)) (hM : w.heap.size = M) (hB : B ≤ M) (hq : q.length ≤ 256) (G : Gro w x) (hs : A.eval s = .slice ro q.length rc) {l : List Nat} {v : Value} (hy : A.eval y = v) (hb : (bsE M l).p v x) :
    OpX Try.prog ops (fun z => GroS (blk ro) x z) (ptE M B ro q l) o A x := by
  obtain ⟨z, h, rfl, h1, h2, h3, h4⟩ := hb
  have hsz := G.size
  refine opX_appY rY _ hw s y ho hs (hr.gro G) hy (xc_one h4 rfl) (by omega) (by decide) (by omega) ?_
  intro ao2 cap2 w' g1 g2 g3
  have e1 : q.length + 1 = (q ++ [z]).length := by simp
  have e2 : q.map RV.v ++ [z.v] = (q ++ [z]).map RV.v := by simp
  rw [e1, e2] at g1
  rw [e1]
  exact ⟨ao2, cap2, z, rfl, h2, ob_av hr hM g2 h3, g1, g3.mono (by omega)⟩
set_option maxRecDepth 100000 in
set_option maxHeartbeats 4000000 in
theorem put_ok (w : World) (p B : Nat) (ro : Option Addr) (rc : Nat) (q : List RV) (H : PK 26 w p B ro rc q) (hf : q.length < 256) (ao : Option Addr) (cap : Nat) (l : List Nat) (HB : NC w .u8 ao cap l) (hne : ∀ ad, ao = some ad → 0 < l.length → ad.block ∉ blk ro) (hl : l.length ≤ 140737488355000) : Calls Try.prog 8 #[.pointer (some ⟨p, 0, none⟩), .slice ao l.length cap] w fun e w' => ∃ ao2 cap2 y, e = .returned (.bool true) ∧ y.l = l ∧ GroS (p :: blk ro) w w' ∧ PK 26 w' p B ao2 cap2 (q ++ [y]) ∧ OB w' 5 .u8 w.heap.size y.ao y.cap y.l ∧ Kept w.heap.size ro ao2 := by
  refine s_enter Try.func8 rfl Try.ntmps8 [.pointer (some ⟨p, 0, none⟩), .slice ao l.length cap] [.pointer (some ⟨p, 0, none⟩), .slice ao l.length cap, undef, undef, undef, undef, undef, undef, undef, undef, undef, undef, undef, undef, undef, undef, undef, undef, undef, undef, undef, undef, undef, undef, undef, undef] rfl ?_
  have GG := GroS.refl (p :: blk ro) w
  have kp := H.box
  have hq := H.le
  have hpl := H.lt
  have hBl := H.bl
  refine wp_seq ?_
  refine wp_region_lit ?_
  refine s_val 4 rfl rfl (.bool false) (rfl) ?_
  refine nr ?_; intro U h; simp only [z0, z1] at h; subst h
  refine wpList_nil ?_
  refine then_n ?_
  refine wp_seq ?_
  refine wp_seq ?_
  refine wp_region_opq ?_
  intro OPS hY
  have y2 := hY 2 7 rfl
  clear hY
  refine s_val 5 rfl rfl (.pointer (some ⟨p, 0, none⟩)) (rfl) ?_
  refine nr ?_; intro U h; simp only [z0, z1] at h; subst h
  refine s_val 6 rfl rfl (.bool false) (run_eqnp 23 _ _ _ rfl _ rfl rfl Try.underlying23 _) ?_
  refine nr ?_; intro U h; simp only [z0, z1] at h; subst h
  refine s_val 7 rfl rfl (.bool false) (rfl) ?_
  refine nr ?_; intro U h; simp only [z0, z1] at h; subst h
  refine s_gvalY 8 rfl rfl y2 rfl (.pointer (some ⟨p, 0, none⟩)) (rfl) ?_
  refine nr ?_; intro U h; simp only [z0, z1] at h; subst h
  refine s_gvalY 9 rfl rfl y2 rfl (.pointer (some ⟨p, 0, none⟩)) (run_nc _ rfl _ rfl) ?_
  refine nr ?_; intro U h; simp only [z0, z1] at h; subst h
  refine s_gvalY 10 rfl rfl y2 rfl (.pointer (some ⟨p, 0, none⟩)) (run_fld 26 _ 0 rfl _ _ rfl _ (by kernel_rfl)) ?_
  refine nr ?_; intro U h; simp only [z0, z1] at h; subst h
  refine s_gvalY 11 rfl rfl y2 rfl (.slice ro q.length rc) (run_ldc 24 _ rfl p 0 rfl 26 _ kp (na24 _) _ rfl) ?_
  refine nr ?_; intro U h; simp only [z0, z1] at h; subst h
  refine s_gvalY 12 rfl rfl y2 rfl (.int .i64 ((q.length : Nat) : Int)) (run_len Try.underlying24 _ rfl _ _ _ rfl _) ?_
  refine nr ?_; intro U h; simp only [z0, z1] at h; subst h
  refine s_gvalY 13 rfl rfl y2 rfl (.bool false) (run_geqT 3 _ _ _ rfl ((q.length : Nat) : Int) 256 rfl rfl false (by first | exact decide_eq_true (by omega) | exact decide_eq_false (by omega)) _) ?_
  refine nr ?_; intro U h; simp only [z0, z1] at h; subst h
  refine s_val 14 rfl rfl (.bool false) (rfl) ?_
  refine nr ?_; intro U h; simp only [z0, z1] at h; subst h
  refine wpList_nil ?_
  refine then_n ?_
  refine wp_cond_false rfl ?_
  refine wp_skip ?_
  refine then_n ?_
  refine wp_seq ?_
  refine wp_region_pg (A := ?Ag1) (blk ro) 9 [(0, 15), (1, 16), (2, 17), (3, 18), (4, 19), (5, 20), (6, 21), (7, 22), (8, 23)] [.val (.pointer (some ⟨p, 0, none⟩)), .val (.pointer (some ⟨p, 0, none⟩)), .val (.pointer (some ⟨p, 0, none⟩)), .val (.pointer (some ⟨p, 0, none⟩)), .val (.slice ro q.length rc), .val (.slice ao l.length cap), cpE w.heap.size l, bsE w.heap.size l, ptE w.heap.size B ro q l] 8 follows (by kernel_rfl) rfl (by decide) (fun j hj hne v a b _ hb hp => match j, hj, hne, hp with | 0, _, _, hp => hp | 1, _, _, hp => hp | 2, _, _, hp => hp | 3, _, _, hp => hp | 4, _, _, hp => hp | 5, _, _, hp => hp | 6, _, _, hp => Exists.elim hp fun g hp => ⟨g, hp.1, hp.2.1, hb.has hp.2.2 (blk_ge H.row rfl hp.2.1)⟩ | 7, _, _, hp => Exists.elim hp fun y hp => Exists.elim hp fun h hp => ⟨y, h, hp.1, hp.2.1, hp.2.2.1, ob_av H.row rfl hb hp.2.2.2.1, hb.has hp.2.2.2.2 (blk_ge H.row rfl hp.2.1)⟩ | 8, _, hne, _ => absurd rfl hne | m + 9, hj, _, _ => absurd hj (by omega)) ?hAg1 (opsG_a (by decide) ?o0g1 (opsG_a (by decide) ?o1g1 (opsG_a (by decide) ?o2g1 (opsG_a (by decide) ?o3g1 (opsG_a (by decide) ?o4g1 (opsG_a (by decide) ?o5g1 (opsG_a (by decide) ?o6g1 (opsG_a (by decide) ?o7g1 (opsG_e ?o8g1 opsG_nil))))))))) ?restg1
  case hAg1 =>
    intro ptrs
    simp only [full, foldSlots, filledE, postE, List.foldl_cons, List.foldl_nil, List.getD_cons_zero, List.getD_cons_succ, fill_val, fill_cp, fill_bs, fill_pt,  List.set_cons_zero, List.set_cons_succ]
    exact rfl
  case o0g1 => exact fun _ _ _ _ => opE_move (v := .pointer (some ⟨p, 0, none⟩)) _ rfl rfl rfl
  case o1g1 => exact fun _ _ _ _ => opE_move (v := .pointer (some ⟨p, 0, none⟩)) _ rfl rfl rfl
  case o2g1 => exact fun _ _ hw _ => opE_value (v := .pointer (some ⟨p, 0, none⟩)) rfl (run_nc _ rfl _ rfl)
  case o3g1 => exact fun _ _ hw _ => opE_value (v := .pointer (some ⟨p, 0, none⟩)) rfl (run_fld 26 _ 0 rfl _ _ rfl _ (by kernel_rfl))
  case o4g1 => exact fun _ _ hw _ => opE_value (v := .slice ro q.length rc) rfl (run_ldc 24 _ rfl p 0 rfl 26 _ (hw.has kp (H.ne)) (na24 _) _ rfl)
  case o5g1 => exact fun _ _ _ _ => opE_move (v := .slice ao l.length cap) _ rfl rfl rfl
  case o6g1 => exact fun _ x hw _ => opE_call (cpE w.heap.size l) rfl _ 19 Try.call19 rfl rfl _ rfl [.slice ao l.length cap] rfl ((copyOf_any _ ao cap l (hw.nc (HB.gro (Gro.refl _).drew) hne) hl).mono fun e w' ⟨g, he, hg, hz, hk⟩ => ⟨_, he, hg, g, rfl, Nat.le_trans hw.size hz, hk⟩)
  case o7g1 =>
    intro ptrs x hw hE
    obtain ⟨⟨g, hg, h1, h2⟩, _⟩ := hE
    refine opE_new _ rfl (run_bsl 24 1 _ rfl [(0, .slice (some ⟨g, 0, none⟩) l.length l.length)] (by exact congrArg (fun v => [(0, v)]) hg) (by kernel_rfl)) (gro_alloc _ _) ⟨⟨some ⟨g, 0, none⟩, l.length, l⟩, x.heap.size, rfl, hw.size, rfl, ?_, heap_alloc_new _ _⟩
    exact (ob_all h2 h1 HB.lt256 (by simp only [maxLen]; omega)).gro (gro_alloc _ _)
  case o8g1 =>
    intro ptrs x hw hE
    exact put_app (v := ptrs 7) _ _ rfl rfl H.row rfl hBl H.le ((Gro.refl _).drew.trans hw) rfl rfl hE.1
  intro ptrs w1 GS hxE
  simp only [List.drop_succ_cons, List.drop_zero]
  obtain ⟨_, _, ⟨ao2, cap2, y, hv, hyl, HY, HR, hkp⟩, _⟩ := hxE
  simp only [hv]
  have HF : ∀ x ∈ q, OB _ 5 .u8 B x.ao x.cap x.l := fun x hx => (H.fr x hx).gros (S := blk ro) ((GroS.refl _ w).drew.trans GS) (fun ad ha hm => H.f5 H.own x hx ad ha (List.mem_cons_of_mem _ hm))
  replace kp := GS.has kp H.ne
  replace GG := GG.drew.trans (GS.mono (T := p :: blk ro) (fun x hx => List.mem_cons_of_mem _ hx))
  have hp2 : p ∉ blk ao2 := HR.ne kp (by decide)
  clear GS hv
  have hyp : ∀ ad, y.ao = some ad → ad.block ≠ p := fun ad ha e => by have := (HY.ge ad ha).1; omega
  refine s_val 24 rfl rfl (.pointer (some ⟨p, 0, none⟩)) (run_nc _ rfl _ rfl) ?_
  refine nr ?_; intro U h; simp only [z0, z1] at h; subst h
  refine s_val 25 rfl rfl (.pointer (some ⟨p, 0, none⟩)) (run_fld 26 _ 0 rfl _ _ rfl _ (by kernel_rfl)) ?_
  refine nr ?_; intro U h; simp only [z0, z1] at h; subst h
  refine s_store rfl rfl 24 _ _ rfl p 0 rfl (.slice ao2 ((q ++ [y]).length) cap2) rfl 26 _ kp #[.slice ao2 ((q ++ [y]).length) cap2] rfl (by kernel_rfl) (Nat.le_of_ble_eq_true rfl) (by kernel_rfl) (c26 ⟨ao2, (q ++ [y]).length, cap2⟩) (by kernel_rfl) ?_
  intro w3 St
  replace HR := HR.st St hp2
  replace HY := HY.apart St hyp
  replace HF := fun x hx => (HF x hx).apart St (fun ad ha e => by obtain ⟨cur, hc⟩ := (HF x hx).blk5 ha; exact ne_type hc kp (by decide) e)
  replace GG := GG.st St (.inr (by simp))
  replace kp := St.new
  clear St
  refine wpList_nil ?_
  refine then_n ?_
  refine wp_seq ?_
  refine wp_region_lit ?_
  refine s_val 4 rfl rfl (.bool true) (rfl) ?_
  refine nr ?_; intro U h; simp only [z0, z1] at h; subst h
  refine wpList_nil ?_
  refine then_n ?_
  refine wp_ret ?_
  refine bodyPost_ret (results_tmp Try.results8 _ _ _) rfl ?_
  refine ⟨ao2, cap2, y, rfl, hyl, GG, ⟨kp, HR, fun x hx => ?_, H.base, by simp; omega, fun x hx => ?_, H.ty⟩, HY, hkp⟩
  · rcases List.mem_append.1 hx with hx | hx
    · exact HF x hx
    · cases List.mem_singleton.1 hx
      exact HY.mono hBl
  · rcases List.mem_append.1 hx with hx | hx
    · exact H.sm x hx
    · cases List.mem_singleton.1 hx
      rw [hyl]; exact hl
end Go.Proofs.Ytlonnbmkkmfmeaa
