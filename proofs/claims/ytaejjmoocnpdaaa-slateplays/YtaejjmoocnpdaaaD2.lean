/- Disk: how many sectors, how many writes, power. -/
import Derived.Test.YtaejjmoocnpdaaaD1
namespace Go.Proofs.Ytaejjmoocnpdaaa
open Go.RowKit

section
variable {P : Program} {o : Oper} {A : Act}
theorem run_geqT (t : TypeId) (x y : Operand) (t2 : TypeId) (ho : o.op = .binOp .geq t x y t2) (a b : Int) (hx : A.eval x = .int .i64 a) (hy : A.eval y = .int .i64 b) (p : Bool) (hp : decide (b ≤ a) = p) (w : World) : (execOp A.eval o).run P w = .ok (.value (.bool p)) w := by
  subst hp
  refine run_binop .geq t x y t2 ho _ _ _ hx hy (by simp [eqGuard]) ?_
  simp [go_sem]
theorem run_leqT (t : TypeId) (x y : Operand) (t2 : TypeId) (ho : o.op = .binOp .leq t x y t2) (a b : Int) (hx : A.eval x = .int .i64 a) (hy : A.eval y = .int .i64 b) (p : Bool) (hp : decide (a ≤ b) = p) (w : World) : (execOp A.eval o).run P w = .ok (.value (.bool p)) w := by
  subst hp
  refine run_binop .leq t x y t2 ho _ _ _ hx hy (by simp [eqGuard]) ?_
  simp [go_sem]
theorem run_lssT (t : TypeId) (x y : Operand) (t2 : TypeId) (ho : o.op = .binOp .lss t x y t2) (a b : Int) (hx : A.eval x = .int .i64 a) (hy : A.eval y = .int .i64 b) (p : Bool) (hp : decide (a < b) = p) (w : World) : (execOp A.eval o).run P w = .ok (.value (.bool p)) w := by
  subst hp
  refine run_binop .lss t x y t2 ho _ _ _ hx hy (by simp [eqGuard]) ?_
  simp [go_sem]
theorem run_gtrT (t : TypeId) (x y : Operand) (t2 : TypeId) (ho : o.op = .binOp .gtr t x y t2) (a b : Int) (hx : A.eval x = .int .i64 a) (hy : A.eval y = .int .i64 b) (p : Bool) (hp : decide (b < a) = p) (w : World) : (execOp A.eval o).run P w = .ok (.value (.bool p)) w := by
  subst hp
  refine run_binop .gtr t x y t2 ho _ _ _ hx hy (by simp [eqGuard]) ?_
  simp [go_sem]
theorem run_eqB (t : TypeId) (x y : Operand) (t2 : TypeId) (ho : o.op = .binOp .eql t x y t2) (a b : Bool) (hx : A.eval x = .bool a) (hy : A.eval y = .bool b) (hu : P.underlying t = some .bool) (p : Bool) (hp : decide (a = b) = p) (w : World) : (execOp A.eval o).run P w = .ok (.value (.bool p)) w := by
  subst hp
  refine run_binop .eql t x y t2 ho _ _ _ hx hy (by simp [eqGuard, go_sem]) ?_
  have h := run_equalIn_bool w (Op.maxDepth - 1) t a b hu
  simp only [binOp]
  simp [go_sem]
  exact h ▸ by cases a <;> cases b <;> rfl
end
theorem s_gcallv {P : Program} {ops : Array Oper} {rest : List Oper} {o : Oper} {T : List Value} {ds : List Deferred} {w : World} {Q : Exit → Act → World → Prop} (dst : Nat) (hd : o.dst = some dst) (hw : Region.wanted o (yielded ops T.toArray) = true) (c : Call) (f : FuncId) (hen : ∀ args w, (callFunc f args).run P w = .ok (.enter f args) w) (ho : o.op = .call c) (hc : c.callee = .value (.func f)) (xs : List Operand) (hxs : c.args = xs.toArray) (vs : List Value) (hvs : xs.map (Act.eval ⟨T.toArray, ds⟩) = vs)
    {v : Value} {R : World → Prop} (H : Calls P f vs.toArray w fun e w' => e = .returned v ∧ R w')
    (h : ∀ w', R w' → wpList P ops Q rest ⟨(T.set dst v).toArray, ds⟩ w') : wpList P ops Q (o :: rest) ⟨T.toArray, ds⟩ w :=
  wpList_step fun K hK => by
    rw [if_pos hw]
    unfold Oper.wp
    rw [run_call c f hen ho hc, hxs, List.map_toArray, hvs, Oper.upon_enter]
    refine H.mono fun e w' hR => ?_
    obtain ⟨rfl, hR⟩ := hR
    have := h w' hR
    rw [← put_list, ← hd] at this
    exact hK _ _ this

/-! ### Regions whose operations are not looked at again -/
def yv (T : Array Value) (d : Nat) : Option Bool :=
  match T[d]? with
  | some (.bool b) => some b
  | _ => none
theorem yielded_yv {l : List Oper} {j d : Nat} (h : (l[j]?).bind (·.dst) = some d) (T : Array Value) : yielded l.toArray T j = yv T d := by
  unfold yielded yv
  have : ((l.toArray[j]?).bind (·.dst)) = some d := by simpa using h
  rw [this]
  rfl
theorem wp_region_opq {P : Program} {id : Nat} {l : List Oper} {Q : Exit → Act → World → Prop} {a : Act} {w : World} (h : ∀ OPS : Array Oper, (∀ j d, (l[j]?).bind (·.dst) = some d → ∀ T, yielded OPS T j = yv T d) → wpList P OPS Q l a w) : (Code.region id l.toArray false).wp P Q a w :=
  wp_region_lit (h l.toArray fun _ _ hd T => yielded_yv hd T)
section
variable {P : Program} {ops : Array Oper} {rest : List Oper} {o : Oper} {T : List Value} {ds : List Deferred} {w : World} {Q : Exit → Act → World → Prop}
theorem wanted_yv {gi d : Nat} {b r : Bool} (hg : o.guard = some (gi, b)) (y : ∀ T, yielded ops T gi = yv T d) (hv : (yv T.toArray d == some b) = r) : Region.wanted o (yielded ops T.toArray) = r := by
  unfold Region.wanted
  rw [hg]
  show (yielded ops T.toArray gi == some b) = r
  rw [y]
  exact hv
theorem s_skipY {gi d : Nat} {b : Bool} (dst : Nat) (hd : o.dst = some dst) (hg : o.guard = some (gi, b)) (y : ∀ T, yielded ops T gi = yv T d) (hv : (yv T.toArray d == some b) = false)
    (h : wpList P ops Q rest ⟨(T.set dst undef).toArray, ds⟩ w) : wpList P ops Q (o :: rest) ⟨T.toArray, ds⟩ w := s_skip dst hd (wanted_yv hg y hv) h
theorem s_gvalY {gi d : Nat} {b : Bool} (dst : Nat) (hd : o.dst = some dst) (hg : o.guard = some (gi, b)) (y : ∀ T, yielded ops T gi = yv T d) (hv : (yv T.toArray d == some b) = true) (v : Value) (he : (execOp (Act.eval ⟨T.toArray, ds⟩) o).run P w = .ok (.value v) w)
    (h : wpList P ops Q rest ⟨(T.set dst v).toArray, ds⟩ w) : wpList P ops Q (o :: rest) ⟨T.toArray, ds⟩ w := s_gval dst hd (wanted_yv hg y hv) v he h
theorem s_gcallvY {gi d : Nat} {b : Bool} (dst : Nat) (hd : o.dst = some dst) (hg : o.guard = some (gi, b)) (y : ∀ T, yielded ops T gi = yv T d) (hv : (yv T.toArray d == some b) = true) (c : Call) (f : FuncId) (hen : ∀ args w, (callFunc f args).run P w = .ok (.enter f args) w) (ho : o.op = .call c) (hc : c.callee = .value (.func f)) (xs : List Operand) (hxs : c.args = xs.toArray) (vs : List Value) (hvs : xs.map (Act.eval ⟨T.toArray, ds⟩) = vs)
    {v : Value} {R : World → Prop} (H : Calls P f vs.toArray w fun e w' => e = .returned v ∧ R w')
    (h : ∀ w', R w' → wpList P ops Q rest ⟨(T.set dst v).toArray, ds⟩ w') : wpList P ops Q (o :: rest) ⟨T.toArray, ds⟩ w := s_gcallv dst hd (wanted_yv hg y hv) c f hen ho hc xs hxs vs hvs H h
end

structure DK (w : World) (p sg n : Nat) (L : List Nat) (pw dn : Int) : Prop where
  box : w.heap[p]? = some (.cells (c76 ⟨some ⟨sg, 0, none⟩, n, n⟩ pw dn) 76 (0, 0))
  sec : w.heap[sg]? = some (.cells (bv L) 73 (0, 0))
  len : L.length = n * 64
  le : n ≤ 4096
  byte : ∀ x ∈ L, x < 256
  ne : p ≠ sg
theorem DK.gro {w w' : World} {p sg n : Nat} {L : List Nat} {pw dn : Int} (h : DK w p sg n L pw dn) (G : Gro w w') : DK w' p sg n L pw dn := ⟨G.has h.box, G.has h.sec, h.len, h.le, h.byte, h.ne⟩
theorem DK.gros {S : List Nat} {w w' : World} {p sg n : Nat} {L : List Nat} {pw dn : Int} (h : DK w p sg n L pw dn) (G : GroS S w w') (hp : p ∉ S) (hs : sg ∉ S) : DK w' p sg n L pw dn := ⟨G.has h.box hp, G.has h.sec hs, h.len, h.le, h.byte, h.ne⟩
theorem size_basS {S : List Nat} {w cur : World} {g : Nat} (h : GroS S w cur) (e : cur.heap.size = g) : w.heap.size ≤ g := e ▸ h.size
theorem run_len {P : Program} {o : Oper} {A : Act} {t e : TypeId} (hu : P.underlying t = some (.slice e)) (x : Operand) (ho : o.op = .call { callee := .builtin .len, args := #[x], argTypes := #[t] }) (ao : Option Addr) (n cap : Nat) (hx : A.eval x = .slice ao n cap) (w : World) : (execOp A.eval o).run P w = .ok (.value (.int .i64 (n : Int))) w := by
  have hr := run_underlying hu w
  unfold execOp
  simp [ho, resolve, invoke, builtin, hx, Builtin.len_, hr, goInt]
section
variable {P : Program} {o : Oper} {A : Act}
theorem run_eqnp (t : TypeId) (x y : Operand) (t2 : TypeId) (ho : o.op = .binOp .eql t x y t2) (a : Addr) (hx : A.eval x = .pointer (some a)) (hy : A.eval y = .pointer none) {e : TypeId} (hu : P.underlying t = some (.pointer e)) (w : World) : (execOp A.eval o).run P w = .ok (.value (.bool false)) w := by
  refine run_binop .eql t x y t2 ho _ _ _ hx hy (by simp [eqGuard, go_sem]) ?_
  exact run_eql_pointer_nil w t (some a) (by simp [Program.pointee, hu])
theorem run_eqnn (t : TypeId) (x y : Operand) (t2 : TypeId) (ho : o.op = .binOp .eql t x y t2) (hx : A.eval x = .pointer none) (hy : A.eval y = .pointer none) {e : TypeId} (hu : P.underlying t = some (.pointer e)) (w : World) : (execOp A.eval o).run P w = .ok (.value (.bool true)) w := by
  refine run_binop .eql t x y t2 ho _ _ _ hx hy (by simp [eqGuard, go_sem]) ?_
  exact run_eql_pointer_nil w t none (by simp [Program.pointee, hu])
end
set_option maxRecDepth 100000 in
set_option maxHeartbeats 4000000 in
theorem size_any (w : World) (p sg n : Nat) (L : List Nat) (pw dn : Int) (H : DK w p sg n L pw dn) : Calls Try.prog 26 #[.pointer (some ⟨p, 0, none⟩)] w fun e w' => e = .returned (.int .i64 ((n : Nat) : Int)) ∧ Gro w w' := by
  refine s_enter Try.func26 rfl Try.ntmps26 [.pointer (some ⟨p, 0, none⟩)] [.pointer (some ⟨p, 0, none⟩), undef, undef, undef, undef, undef, undef, undef, undef, undef] rfl ?_
  have GG := Gro.refl w
  have kp := H.box
  have ksg := H.sec
  have hne := H.ne
  refine wp_seq ?_
  refine wp_region_lit ?_
  refine s_val 2 rfl rfl (.int .i64 0) (rfl) ?_
  refine nr ?_; intro U h; simp only [z0, z1] at h; subst h
  refine wpList_nil ?_
  refine then_n ?_
  refine wp_seq ?_
  refine wp_seq ?_
  refine wp_region_lit ?_
  refine s_val 3 rfl rfl (.pointer (some ⟨p, 0, none⟩)) (rfl) ?_
  refine nr ?_; intro U h; simp only [z0, z1] at h; subst h
  refine s_val 4 rfl rfl (.bool false) (run_eqnp 24 _ _ _ rfl _ rfl rfl Try.underlying24 _) ?_
  refine nr ?_; intro U h; simp only [z0, z1] at h; subst h
  refine wpList_nil ?_
  refine then_n ?_
  refine wp_cond_false rfl ?_
  refine wp_skip ?_
  refine then_n ?_
  refine wp_seq ?_
  refine wp_region_lit ?_
  refine s_val 5 rfl rfl (.pointer (some ⟨p, 0, none⟩)) (rfl) ?_
  refine nr ?_; intro U h; simp only [z0, z1] at h; subst h
  refine s_val 6 rfl rfl (.pointer (some ⟨p, 0, none⟩)) (run_nc _ rfl _ rfl) ?_
  refine nr ?_; intro U h; simp only [z0, z1] at h; subst h
  refine s_val 7 rfl rfl (.pointer (some ⟨p, 0, none⟩)) (run_fld 76 _ 0 rfl _ _ rfl _ (by kernel_rfl)) ?_
  refine nr ?_; intro U h; simp only [z0, z1] at h; subst h
  refine s_val 8 rfl rfl (.slice (some ⟨sg, 0, none⟩) n n) (run_ldc 74 _ rfl p 0 rfl 76 _ kp (na74 _) _ rfl) ?_
  refine nr ?_; intro U h; simp only [z0, z1] at h; subst h
  refine s_val 9 rfl rfl (.int .i64 ((n : Nat) : Int)) (run_len Try.underlying74 _ rfl _ _ _ rfl _) ?_
  refine nr ?_; intro U h; simp only [z0, z1] at h; subst h
  refine s_val 2 rfl rfl (.int .i64 ((n : Nat) : Int)) (rfl) ?_
  refine nr ?_; intro U h; simp only [z0, z1] at h; subst h
  refine wpList_nil ?_
  refine then_n ?_
  refine wp_ret ?_
  refine bodyPost_ret (results_tmp Try.results26 _ _ _) rfl ?_
  exact ⟨rfl, GG⟩
set_option maxRecDepth 100000 in
set_option maxHeartbeats 4000000 in
theorem size_nil (w : World) : Calls Try.prog 26 #[.pointer none] w fun e w' => e = .returned (.int .i64 0) ∧ Gro w w' := by
  refine s_enter Try.func26 rfl Try.ntmps26 [.pointer none] [.pointer none, undef, undef, undef, undef, undef, undef, undef, undef, undef] rfl ?_
  have GG := Gro.refl w
  refine wp_seq ?_
  refine wp_region_lit ?_
  refine s_val 2 rfl rfl (.int .i64 0) (rfl) ?_
  refine nr ?_; intro U h; simp only [z0, z1] at h; subst h
  refine wpList_nil ?_
  refine then_n ?_
  refine wp_seq ?_
  refine wp_seq ?_
  refine wp_region_lit ?_
  refine s_val 3 rfl rfl (.pointer none) (rfl) ?_
  refine nr ?_; intro U h; simp only [z0, z1] at h; subst h
  refine s_val 4 rfl rfl (.bool true) (run_eqnn 24 _ _ _ rfl rfl rfl Try.underlying24 _) ?_
  refine nr ?_; intro U h; simp only [z0, z1] at h; subst h
  refine wpList_nil ?_
  refine then_n ?_
  refine wp_cond_true rfl ?_
  refine wp_seq ?_
  refine wp_region_lit ?_
  refine s_val 2 rfl rfl (.int .i64 0) (rfl) ?_
  refine nr ?_; intro U h; simp only [z0, z1] at h; subst h
  refine wpList_nil ?_
  refine then_n ?_
  refine wp_ret ?_
  refine then_r ?_
  refine bodyPost_ret (results_tmp Try.results26 _ _ _) rfl ?_
  exact ⟨rfl, GG⟩
set_option maxRecDepth 100000 in
set_option maxHeartbeats 4000000 in
theorem power_nil (w : World) (x : Int) : Calls Try.prog 20 #[.pointer none, .int .i64 x] w fun e w' => e = .returned (.tuple #[]) ∧ Gro w w' := by
  refine s_enter Try.func20 rfl Try.ntmps20 [.pointer none, .int .i64 x] [.pointer none, .int .i64 x, undef, undef, undef, undef, undef, undef, undef, undef, undef] rfl ?_
  have GG := Gro.refl w
  refine wp_seq ?_
  refine wp_seq ?_
  refine wp_region_lit ?_
  refine s_val 4 rfl rfl (.pointer none) (rfl) ?_
  refine nr ?_; intro U h; simp only [z0, z1] at h; subst h
  refine s_val 5 rfl rfl (.bool true) (run_eqnn 24 _ _ _ rfl rfl rfl Try.underlying24 _) ?_
  refine nr ?_; intro U h; simp only [z0, z1] at h; subst h
  refine wpList_nil ?_
  refine then_n ?_
  refine wp_cond_true rfl ?_
  refine wp_ret ?_
  refine then_r ?_
  refine bodyPost_ret (results_none Try.results20 _ _ _) rfl ?_
  exact ⟨rfl, GG⟩
set_option maxRecDepth 100000 in
set_option maxHeartbeats 4000000 in
theorem power_any (w : World) (p sg n : Nat) (L : List Nat) (pw dn : Int) (H : DK w p sg n L pw dn) (x : Int) : Calls Try.prog 20 #[.pointer (some ⟨p, 0, none⟩), .int .i64 x] w fun e w' => e = .returned (.tuple #[]) ∧ GroS [p] w w' ∧ DK w' p sg n L (max x (-1)) dn := by
  refine s_enter Try.func20 rfl Try.ntmps20 [.pointer (some ⟨p, 0, none⟩), .int .i64 x] [.pointer (some ⟨p, 0, none⟩), .int .i64 x, undef, undef, undef, undef, undef, undef, undef, undef, undef] rfl ?_
  have GG := GroS.refl [p] w
  have kp := H.box
  have ksg := H.sec
  have hne := H.ne
  refine wp_seq ?_
  refine wp_seq ?_
  refine wp_region_lit ?_
  refine s_val 4 rfl rfl (.pointer (some ⟨p, 0, none⟩)) (rfl) ?_
  refine nr ?_; intro U h; simp only [z0, z1] at h; subst h
  refine s_val 5 rfl rfl (.bool false) (run_eqnp 24 _ _ _ rfl _ rfl rfl Try.underlying24 _) ?_
  refine nr ?_; intro U h; simp only [z0, z1] at h; subst h
  refine wpList_nil ?_
  refine then_n ?_
  refine wp_cond_false rfl ?_
  refine wp_skip ?_
  refine then_n ?_
  refine wp_region_lit ?_
  refine s_val 6 rfl rfl (.pointer (some ⟨p, 0, none⟩)) (rfl) ?_
  refine nr ?_; intro U h; simp only [z0, z1] at h; subst h
  refine s_val 7 rfl rfl (.int .i64 x) (rfl) ?_
  refine nr ?_; intro U h; simp only [z0, z1] at h; subst h
  refine s_val 8 rfl rfl (.int .i64 (max x (-1))) (run_max64 _ _ _ rfl x (-1) _ rfl rfl rfl _) ?_
  refine nr ?_; intro U h; simp only [z0, z1] at h; subst h
  refine s_val 9 rfl rfl (.pointer (some ⟨p, 0, none⟩)) (run_nc _ rfl _ rfl) ?_
  refine nr ?_; intro U h; simp only [z0, z1] at h; subst h
  refine s_val 10 rfl rfl (.pointer (some ⟨p, 1, none⟩)) (run_fld 76 _ 1 rfl _ _ rfl _ (by kernel_rfl)) ?_
  refine nr ?_; intro U h; simp only [z0, z1] at h; subst h
  refine s_store rfl rfl 3 _ _ rfl p 1 rfl (.int .i64 (max x (-1))) rfl 76 _ kp #[.int .i64 (max x (-1))] rfl (by kernel_rfl) (Nat.le_of_ble_eq_true rfl) (by kernel_rfl) (c76 ⟨some ⟨sg, 0, none⟩, n, n⟩ (max x (-1)) dn) (by kernel_rfl) ?_
  intro w2 St
  replace ksg := St.has (by omega) ksg
  replace GG := GG.st St (.inr (by simp))
  replace kp := St.new
  clear St
  refine wpList_nil ?_
  refine post_n (results_none Try.results20 _ _ _) rfl ?_
  exact ⟨rfl, GG, kp, ksg, H.len, H.le, H.byte, H.ne⟩
def hasB (n : Nat) (i : Int) : Bool := bif decide (0 ≤ i) then decide (i < (n : Int)) else false
set_option maxRecDepth 100000 in
set_option maxHeartbeats 4000000 in
theorem has_any (w : World) (p sg n : Nat) (L : List Nat) (pw dn : Int) (H : DK w p sg n L pw dn) (i : Int) : Calls Try.prog 35 #[.pointer (some ⟨p, 0, none⟩), .int .i64 i] w fun e w' => e = .returned (.bool (hasB n i)) ∧ Gro w w' := by
  refine s_enter Try.func35 rfl Try.ntmps35 [.pointer (some ⟨p, 0, none⟩), .int .i64 i] [.pointer (some ⟨p, 0, none⟩), .int .i64 i, undef, undef, undef, undef, undef, undef, undef, undef, undef, undef, undef] rfl ?_
  have GG := Gro.refl w
  have kp := H.box
  have ksg := H.sec
  have hne := H.ne
  refine wp_seq ?_
  refine wp_region_lit ?_
  refine s_val 4 rfl rfl (.bool false) (rfl) ?_
  refine nr ?_; intro U h; simp only [z0, z1] at h; subst h
  refine wpList_nil ?_
  refine then_n ?_
  refine wp_seq ?_
  refine wp_region_opq ?_
  intro OPS hY
  have y2 := hY 2 7 rfl
  clear hY
  refine s_val 5 rfl rfl (.int .i64 i) (rfl) ?_
  refine nr ?_; intro U h; simp only [z0, z1] at h; subst h
  obtain ⟨p1, hp1⟩ : ∃ p, decide (0 ≤ i) = p := ⟨_, rfl⟩
  refine s_val 6 rfl rfl (.bool p1) (run_leqT 3 _ _ _ rfl 0 i rfl rfl p1 hp1 _) ?_
  refine nr ?_; intro U h; simp only [z0, z1] at h; subst h
  cases p1
  · refine s_val _ rfl rfl (.bool false) rfl ?_
    refine nr ?_; intro U h; simp only [z0, z1] at h; subst h
    iterate 4 (refine s_skipY _ rfl rfl y2 rfl ?_; refine nr ?_; intro U h; simp only [z0, z1] at h; subst h)
    refine s_val _ rfl rfl (.bool false) rfl ?_
    refine nr ?_; intro U h; simp only [z0, z1] at h; subst h
    refine s_val _ rfl rfl (.bool false) rfl ?_
    refine nr ?_; intro U h; simp only [z0, z1] at h; subst h
    refine wpList_nil ?_
    refine then_n ?_
    refine wp_ret ?_
    refine bodyPost_ret (results_tmp Try.results35 _ _ _) rfl ?_
    refine ⟨?_, GG⟩
    show Ending.returned (.bool false) = _
    unfold hasB
    rw [hp1]
    first | done | rfl
  refine s_val 7 rfl rfl (.bool true) (rfl) ?_
  refine nr ?_; intro U h; simp only [z0, z1] at h; subst h
  refine s_gvalY 8 rfl rfl y2 rfl (.int .i64 i) (rfl) ?_
  refine nr ?_; intro U h; simp only [z0, z1] at h; subst h
  refine s_gvalY 9 rfl rfl y2 rfl (.pointer (some ⟨p, 0, none⟩)) (rfl) ?_
  refine nr ?_; intro U h; simp only [z0, z1] at h; subst h
  refine s_gcallvY 10 rfl rfl y2 rfl _ 26 Try.call26 rfl rfl _ rfl [.pointer (some ⟨p, 0, none⟩)] rfl (size_any w p sg n L pw dn (H.gro GG)) ?_
  intro w1 G
  replace kp := G.has kp
  replace ksg := G.has ksg
  replace GG := GG.trans G
  clear G
  refine nr ?_; intro U h; simp only [z0, z1] at h; subst h
  obtain ⟨p2, hp2⟩ : ∃ p, decide (i < ((n : Nat) : Int)) = p := ⟨_, rfl⟩
  refine s_gvalY 11 rfl rfl y2 rfl (.bool p2) (run_lssT 3 _ _ _ rfl i ((n : Nat) : Int) rfl rfl p2 hp2 _) ?_
  refine nr ?_; intro U h; simp only [z0, z1] at h; subst h
  cases p2
  · refine s_val _ rfl rfl (.bool false) rfl ?_
    refine nr ?_; intro U h; simp only [z0, z1] at h; subst h
    refine s_val _ rfl rfl (.bool false) rfl ?_
    refine nr ?_; intro U h; simp only [z0, z1] at h; subst h
    refine wpList_nil ?_
    refine then_n ?_
    refine wp_ret ?_
    refine bodyPost_ret (results_tmp Try.results35 _ _ _) rfl ?_
    refine ⟨?_, GG⟩
    show Ending.returned (.bool false) = _
    unfold hasB
    rw [hp1, hp2]
    first | done | rfl
  refine s_val 12 rfl rfl (.bool true) (rfl) ?_
  refine nr ?_; intro U h; simp only [z0, z1] at h; subst h
  refine s_val 4 rfl rfl (.bool true) (rfl) ?_
  refine nr ?_; intro U h; simp only [z0, z1] at h; subst h
  refine wpList_nil ?_
  refine then_n ?_
  refine wp_ret ?_
  refine bodyPost_ret (results_tmp Try.results35 _ _ _) rfl ?_
  refine ⟨?_, GG⟩
  show Ending.returned (.bool true) = _
  unfold hasB
  rw [hp1, hp2]
  first | done | rfl
set_option maxRecDepth 100000 in
set_option maxHeartbeats 4000000 in
theorem has_nil (w : World) (i : Int) : Calls Try.prog 35 #[.pointer none, .int .i64 i] w fun e w' => e = .returned (.bool (hasB 0 i)) ∧ Gro w w' := by
  refine s_enter Try.func35 rfl Try.ntmps35 [.pointer none, .int .i64 i] [.pointer none, .int .i64 i, undef, undef, undef, undef, undef, undef, undef, undef, undef, undef, undef] rfl ?_
  have GG := Gro.refl w
  refine wp_seq ?_
  refine wp_region_lit ?_
  refine s_val 4 rfl rfl (.bool false) (rfl) ?_
  refine nr ?_; intro U h; simp only [z0, z1] at h; subst h
  refine wpList_nil ?_
  refine then_n ?_
  refine wp_seq ?_
  refine wp_region_opq ?_
  intro OPS hY
  have y2 := hY 2 7 rfl
  clear hY
  refine s_val 5 rfl rfl (.int .i64 i) (rfl) ?_
  refine nr ?_; intro U h; simp only [z0, z1] at h; subst h
  obtain ⟨p1, hp1⟩ : ∃ p, decide (0 ≤ i) = p := ⟨_, rfl⟩
  refine s_val 6 rfl rfl (.bool p1) (run_leqT 3 _ _ _ rfl 0 i rfl rfl p1 hp1 _) ?_
  refine nr ?_; intro U h; simp only [z0, z1] at h; subst h
  cases p1
  · refine s_val _ rfl rfl (.bool false) rfl ?_
    refine nr ?_; intro U h; simp only [z0, z1] at h; subst h
    iterate 4 (refine s_skipY _ rfl rfl y2 rfl ?_; refine nr ?_; intro U h; simp only [z0, z1] at h; subst h)
    refine s_val _ rfl rfl (.bool false) rfl ?_
    refine nr ?_; intro U h; simp only [z0, z1] at h; subst h
    refine s_val _ rfl rfl (.bool false) rfl ?_
    refine nr ?_; intro U h; simp only [z0, z1] at h; subst h
    refine wpList_nil ?_
    refine then_n ?_
    refine wp_ret ?_
    refine bodyPost_ret (results_tmp Try.results35 _ _ _) rfl ?_
    refine ⟨?_, GG⟩
    show Ending.returned (.bool false) = _
    unfold hasB
    rw [hp1]
    first | done | rfl
  refine s_val 7 rfl rfl (.bool true) (rfl) ?_
  refine nr ?_; intro U h; simp only [z0, z1] at h; subst h
  refine s_gvalY 8 rfl rfl y2 rfl (.int .i64 i) (rfl) ?_
  refine nr ?_; intro U h; simp only [z0, z1] at h; subst h
  refine s_gvalY 9 rfl rfl y2 rfl (.pointer none) (rfl) ?_
  refine nr ?_; intro U h; simp only [z0, z1] at h; subst h
  refine s_gcallvY 10 rfl rfl y2 rfl _ 26 Try.call26 rfl rfl _ rfl [.pointer none] rfl (size_nil w) ?_
  intro w1 G
  replace GG := GG.trans G
  clear G
  refine nr ?_; intro U h; simp only [z0, z1] at h; subst h
  obtain ⟨p2, hp2⟩ : ∃ p, decide (i < ((0 : Nat) : Int)) = p := ⟨_, rfl⟩
  refine s_gvalY 11 rfl rfl y2 rfl (.bool p2) (run_lssT 3 _ _ _ rfl i ((0 : Nat) : Int) rfl rfl p2 hp2 _) ?_
  refine nr ?_; intro U h; simp only [z0, z1] at h; subst h
  cases p2
  · refine s_val _ rfl rfl (.bool false) rfl ?_
    refine nr ?_; intro U h; simp only [z0, z1] at h; subst h
    refine s_val _ rfl rfl (.bool false) rfl ?_
    refine nr ?_; intro U h; simp only [z0, z1] at h; subst h
    refine wpList_nil ?_
    refine then_n ?_
    refine wp_ret ?_
    refine bodyPost_ret (results_tmp Try.results35 _ _ _) rfl ?_
    refine ⟨?_, GG⟩
    show Ending.returned (.bool false) = _
    unfold hasB
    rw [hp1, hp2]
    first | done | rfl
  refine s_val 12 rfl rfl (.bool true) (rfl) ?_
  refine nr ?_; intro U h; simp only [z0, z1] at h; subst h
  refine s_val 4 rfl rfl (.bool true) (rfl) ?_
  refine nr ?_; intro U h; simp only [z0, z1] at h; subst h
  refine wpList_nil ?_
  refine then_n ?_
  refine wp_ret ?_
  refine bodyPost_ret (results_tmp Try.results35 _ _ _) rfl ?_
  refine ⟨?_, GG⟩
  show Ending.returned (.bool true) = _
  unfold hasB
  rw [hp1, hp2]
  first | done | rfl
theorem hasB_0 (i : Int) : hasB 0 i = false := by
  unfold hasB
  cases h : decide (0 ≤ i)
  · rfl
  · have : 0 ≤ i := of_decide_eq_true h
    exact decide_eq_false (by omega)
end Go.Proofs.Ytaejjmoocnpdaaa
