/- Each frame is taken or lost as often as it was put (PipeCounts). -/
import Derived.Test.YtlonnbmkkmfmeaaQ5
import Derived.Test.YtlonnbmkkmfmeaaFr5
namespace Go.Proofs.Ytlonnbmkkmfmeaa
open Go.RowKit

/-- 256 numbers. -/
def cv (f : Nat → Int) : Array Value := ((List.range 256).map fun v => Value.int .i64 (f v)).toArray
theorem cv_size (f : Nat → Int) : (cv f).size = 256 := by simp [cv]
theorem cv_get (f : Nat → Int) {v : Nat} (h : v < 256) : (cv f)[v]? = some (.int .i64 (f v)) := by simp [cv, h]
def up (f : Nat → Int) (v : Nat) (x : Int) : Nat → Int := fun u => if u = v then x else f u
theorem cv_up (f : Nat → Int) {v : Nat} (h : v < 256) (x : Int) : splice (cv f) v #[.int .i64 x] = cv (up f v x) := by
  rw [splice_one _ _ _ (by rw [cv_size]; exact h)]
  apply Array.ext (by simp [cv])
  intro i h1 h2
  have hi : i < 256 := by simpa [cv] using h2
  by_cases e : v = i
  · subst e
    simp [cv, up]
  · have e' : ¬ i = v := fun h => e h.symm
    simp [cv, up, e, e']
theorem zv45 (w : World) : (zeroValue 45).run Try.prog w = .ok (.agg (cv fun _ => 0)) w := by kernel_rfl
theorem si45 : (Try.prog.info? 45).map (·.size) = some 256 := by kernel_rfl
theorem run_idx45 {o : Oper} {A : Act} (x y : Operand) (ho : o.op = .indexAddr 45 x y) (g j : Nat) (k : IntKind) (hx : A.eval x = .pointer (some ⟨g, 0, none⟩)) (hy : A.eval y = .int k (j : Int)) (hj : j < 256) (w : World) :
    (execOp A.eval o).run Try.prog w = .ok (.value (.pointer (some ⟨g, j, none⟩))) w := by
  have h : (Instr.indexAt 45 (.pointer (some ⟨g, 0, none⟩)) (.int k (j : Int))).run Try.prog w = .ok (.pointer (some ⟨g, j, none⟩)) w := by
    have h1 : (j : Int) < 256 := by omega
    simp only [Instr.indexAt, Sem.run_bind, run_underlying Try.underlying45, Result.andThen_ok]
    simp [asIntOf, Instr.sureAddr, h1, Try.sizeOf3, add_at]
  unfold execOp
  simp only [ho, hx, hy, Sem.run_bind, h, Result.andThen_ok, Sem.run_pure]
theorem run_at45 {o : Oper} {A : Act} (x y : Operand) (ho : o.op = .index 45 x y) (f : Nat → Int) (j : Nat) (hx : A.eval x = .agg (cv f)) (hy : A.eval y = .int .i64 (j : Int)) (hj : j < 256) (w : World) :
    (execOp A.eval o).run Try.prog w = .ok (.value (.int .i64 (f j))) w := by
  have h : (Instr.index 45 (.agg (cv f)) (.int .i64 (j : Int))).run Try.prog w = .ok (.int .i64 (f j)) w := by
    have hs := run_underlying Try.underlying45 w
    have hp : (part 3 (cv f) j).run Try.prog w = .ok (.int .i64 (f j)) w := by
      have h := cv_get f hj
      simp [part, go_sem, h]
    have h1 : (j : Int) < 256 := by omega
    simp [Instr.index, asIntOf, hs, Try.sizeOf3, hp]
    intro h2
    exact absurd h2 (by omega)
  unfold execOp
  simp only [ho, hx, hy, Sem.run_bind, h, Result.andThen_ok, Sem.run_pure]
/-- How often each single byte is there. -/
def cn (c : List (List Nat)) (v : Nat) : Int := ((c.count [v] : Nat) : Int)
theorem cn_le (c : List (List Nat)) (v : Nat) : 0 ≤ cn c v ∧ cn c v ≤ c.length := by
  have := List.count_le_length (a := [v]) (l := c)
  unfold cn
  omega
theorem count_one (b v : Nat) : List.count [v] [[b]] = if v = b then 1 else 0 := by
  by_cases h : v = b
  · subst h; simp
  · have : ¬ b = v := fun e => h e.symm
    simp [h, this]
theorem cn_app (c : List (List Nat)) (b : Nat) : up (cn c) b (cn c b + 1) = cn (c ++ [[b]]) := by
  funext v
  unfold up cn
  rw [List.count_append, count_one]
  by_cases h : v = b
  · subst h; simp
  · simp [h]
theorem cn_split (a d : List (List Nat)) (b : Nat) : up (cn (a ++ [b] :: d)) b (cn (a ++ [b] :: d) b - 1) = cn (a ++ d) := by
  have e : ∀ v, List.count [v] (a ++ [b] :: d) = List.count [v] (a ++ d) + if v = b then 1 else 0 := fun v => by
    have : a ++ [b] :: d = a ++ ([[b]] ++ d) := rfl
    rw [this, List.count_append, List.count_append, List.count_append, count_one]
    omega
  funext v
  unfold up cn
  rw [e b, e v]
  by_cases h : v = b
  · subst h; simp
  · simp [h]
theorem cn_erase {c : List (List Nat)} {k b : Nat} (h : c[k]? = some [b]) : up (cn c) b (cn c b - 1) = cn (c.eraseIdx k) := by
  obtain ⟨hk, hc⟩ := List.getElem?_eq_some_iff.1 h
  have e : c = c.take k ++ [b] :: c.drop (k + 1) := by
    rw [← hc, ← List.drop_eq_getElem_cons hk, List.take_append_drop]
  rw [List.eraseIdx_eq_take_drop_succ, ← cn_split, ← e]
theorem cn_drop {c : List (List Nat)} {j b : Nat} (h : c[j]? = some [b]) : up (cn (c.drop j)) b (cn (c.drop j) b - 1) = cn (c.drop (j + 1)) := by
  obtain ⟨hk, hc⟩ := List.getElem?_eq_some_iff.1 h
  have e : c.drop j = [] ++ [b] :: c.drop (j + 1) := by
    rw [List.drop_eq_getElem_cons hk, hc]; rfl
  rw [e, cn_split]
  rfl
theorem one_of {l : List Nat} (h : l.length = 1) (hb : ∀ x ∈ l, x < 256) : ∃ b, l = [b] ∧ b < 256 := by
  match l, h with
  | [b], _ => exact ⟨b, rfl, hb b (by simp)⟩
theorem NC.one {w : World} {ao : Option Addr} {cap : Nat} {l : List Nat} (h : NC w .u8 ao cap l) (h0 : 0 < l.length) : ∃ b, l.getD 0 0 = b ∧ b < 256 ∧ NC w .u8 ao cap [b] := by
  have h1 := h.take 1 (by omega)
  have e : l.take 1 = [l.getD 0 0] := by
    cases l with
    | nil => simp at h0
    | cons x r => simp
  rw [e] at h1
  exact ⟨_, rfl, h1.lt256 _ (by simp), h1⟩

theorem cnt_st {t : TypeId} {w w' : World} {p B : Nat} {ao : Option Addr} {cap : Nat} {q : List RV} (H : PK t w p B ao cap q) (ht : t ≠ 45) {g : Nat} {c : Array Value} {x : Obj} (hg : w.heap[g]? = some (.cells c 45 (0, 0))) (St : Stored w w' g x) : PK t w' p B ao cap q :=
  H.gros (S := [g]) ((GroS.refl [g] w).st St (.inr (by simp))) (fun h => by cases List.mem_singleton.1 h; exact ne_type H.box hg ht rfl) (fun k hk h => by cases List.mem_singleton.1 h; exact H.row.ne hg (by decide) hk)
    (H.f5 fun k hk => by cases List.mem_singleton.1 hk; exact ⟨_, _, hg, by decide⟩)
theorem cnt_put {t : TypeId} {w w' : World} {p B : Nat} {ao : Option Addr} {cap : Nat} {q : List RV} (H : PK t w p B ao cap q) (ht : t ≠ 45) {g : Nat} {c : Array Value} (hg : w.heap[g]? = some (.cells c 45 (0, 0))) (G : GroS (p :: blk ao) w w') : w'.heap[g]? = some (.cells c 45 (0, 0)) :=
  G.has hg fun h => by
    rcases List.mem_cons.1 h with rfl | h
    · exact ne_type H.box hg ht rfl
    · exact H.row.ne hg (by decide) h
theorem cnt_take {t : TypeId} {w w' : World} {p B : Nat} {ao : Option Addr} {cap : Nat} {q : List RV} (H : PK t w p B ao cap q) (ht : t ≠ 45) {g : Nat} {c : Array Value} (hg : w.heap[g]? = some (.cells c 45 (0, 0))) (G : GroS [p] w w') : w'.heap[g]? = some (.cells c 45 (0, 0)) :=
  G.has hg fun h => by cases List.mem_singleton.1 h; exact ne_type H.box hg ht rfl
theorem AL.cst {w w' : World} {M g : Nat} {r : List (Nat × List Nat)} (h : AL w M g r) {k : Nat} {c : Array Value} {x : Obj} (hk : w.heap[k]? = some (.cells c 45 (0, 0))) (St : Stored w w' k x) : AL w' M g r :=
  ⟨h.base, St.has (ne_type h.row hk (by decide)) h.row, fun x hx => ⟨(h.fr x hx).1, St.has (ne_type (h.fr x hx).2.1 hk (by decide)) (h.fr x hx).2.1, (h.fr x hx).2.2⟩⟩
theorem AL.at {w : World} {M g : Nat} {r : List (Nat × List Nat)} (h : AL w M g r) {j : Nat} {x : Nat × List Nat} (hx : r[j]? = some x) : w.cell? ⟨g, j, none⟩ = some (rv x) := by
  rw [cell_of_row w g j _ 30 _ h.row]
  simp [hx]
theorem map_erase (q : List RV) (k : Nat) : (q.eraseIdx k).map (·.l) = (q.map (·.l)).eraseIdx k := by
  rw [List.eraseIdx_eq_take_drop_succ, List.eraseIdx_eq_take_drop_succ, List.map_append, List.map_take, List.map_drop]
theorem run_ldI {o : Oper} {A : Act} (x : Operand) (ho : o.op = .load 3 x) (p : Addr) (hx : A.eval x = .pointer (some p)) (w : World) (v : Value) (hc : w.cell? p = some v) : (execOp A.eval o).run Try.prog w = .ok (.value v) w := by
  unfold execOp
  simp only [ho, hx]
  simp [go_sem, hc]
set_option maxRecDepth 100000 in
set_option maxHeartbeats 4000000 in
theorem pipeCounts_any (w : World) (ao : Option Addr) (cap : Nat) (ls : List (List Nat)) (HA : LC w ao cap ls) (hal : ls.length ≤ 140737488355000) (_hlens : ∀ l ∈ ls, l.length ≤ 140737488355000) (ai : Option Addr) (capi : Nat) (xs : List Int) (HI : IC w ai capi xs) (hxs : xs.length < 9223372036854775808) : Calls Try.prog 5 #[.slice ao ls.length cap, .slice ai xs.length capi] w fun e w' => e = .returned (.bool true) ∧ Gro w w' := by
  refine s_enter Try.func5 rfl Try.ntmps5 [.slice ao ls.length cap, .slice ai xs.length capi] [.slice ao ls.length cap, .slice ai xs.length capi, undef, undef, undef, undef, undef, undef, undef, undef, undef, undef, undef, undef, undef, undef, undef, undef, undef, undef, undef, undef, undef, undef, undef, undef, undef, undef, undef, undef, undef, undef, undef, undef, undef, undef, undef, undef, undef, undef, undef, undef, undef, undef, undef, undef, undef, undef, undef, undef, undef, undef, undef, undef, undef, undef, undef, undef, undef, undef, undef, undef, undef, undef, undef, undef, undef, undef, undef, undef, undef, undef, undef, undef, undef, undef, undef, undef, undef, undef, undef, undef, undef, undef, undef, undef, undef, undef, undef, undef, undef, undef, undef, undef, undef, undef, undef, undef, undef, undef, undef, undef, undef, undef, undef, undef, undef, undef, undef, undef, undef, undef, undef, undef, undef, undef] rfl ?_
  have GG := Gro.refl w
  refine wp_seq ?_
  refine wp_region_lit ?_
  refine s_val 4 rfl rfl (.bool false) (rfl) ?_
  refine nr ?_; intro U h; simp only [z0, z1] at h; subst h
  refine wpList_nil ?_
  refine then_n ?_
  refine wp_seq ?_
  refine wp_region_lit ?_
  refine s_val 18 rfl rfl (.agg (c26 Sl.nil)) (run_bd 26 _ rfl [] rfl _ (by kernel_rfl)) ?_
  refine nr ?_; intro U h; simp only [z0, z1] at h; subst h
  refine s_box 19 rfl rfl 26 _ rfl _ rfl (c26 Sl.nil) rfl ?_
  intro w1 p G ep kp
  have bp := size_base GG ep
  clear ep
  replace GG := GG.trans G
  clear G
  have HP : PK 26 _ p w.heap.size none 0 [] := PK.new kp bp (by decide)
  clear kp
  refine nr ?_; intro U h; simp only [z0, z1] at h; subst h
  refine s_val 5 rfl rfl (.pointer (some ⟨p, 0, none⟩)) (rfl) ?_
  refine nr ?_; intro U h; simp only [z0, z1] at h; subst h
  refine wpList_nil ?_
  refine then_n ?_
  refine wp_seq ?_
  refine wp_region_lit ?_
  refine s_alloc 6 rfl rfl 45 rfl _ zv45 _ rfl ?_
  intro w2 gc G egc kgc
  have bgc := size_base GG egc
  clear egc
  replace HP := HP.gro G
  replace GG := GG.trans G
  clear G
  refine nr ?_; intro U h; simp only [z0, z1] at h; subst h
  have KC : w2.heap[gc]? = some (.cells (cv (cn [])) 45 (0, 0)) := kgc
  clear kgc
  refine wpList_nil ?_
  refine then_n ?_
  refine wp_seq ?_
  refine wp_region_lit ?_
  refine s_val 7 rfl rfl (.int .i64 0) (rfl) ?_
  refine nr ?_; intro U h; simp only [z0, z1] at h; subst h
  refine wpList_nil ?_
  refine then_n ?_
  refine wp_seq ?_
  refine wp_seq ?_
  refine wp_region_lit ?_
  refine s_val 20 rfl rfl (.slice ao ls.length cap) (rfl) ?_
  refine nr ?_; intro U h; simp only [z0, z1] at h; subst h
  refine s_val 21 rfl rfl (.int .i64 ((ls.length : Nat) : Int)) (run_len Try.underlying24 _ rfl _ _ _ rfl _) ?_
  refine nr ?_; intro U h; simp only [z0, z1] at h; subst h
  refine s_val 22 rfl rfl (.int .i64 0) (rfl) ?_
  refine nr ?_; intro U h; simp only [z0, z1] at h; subst h
  refine wpList_nil ?_
  refine then_n ?_
  refine wp_block ?_
  refine wp_loopN (fun mz az wv => ∃ (j : Nat) (ro : Option Addr) (rc : Nat) (q : List RV) (us1 : Nat → Value), mz = ls.length - j ∧ az = ⟨[.slice ao ls.length cap, .slice ai xs.length capi, undef, undef, .bool false, .pointer (some ⟨p, 0, none⟩), .pointer (some ⟨gc, 0, none⟩), .int .i64 ((q.length : Nat) : Int), undef, us1 0, undef, undef, undef, undef, undef, undef, undef, undef, .agg (c26 Sl.nil), .pointer (some ⟨p, 0, none⟩), .slice ao ls.length cap, .int .i64 ((ls.length : Nat) : Int), .int .i64 ((j : Nat) : Int), us1 1, us1 2, us1 3, us1 4, us1 5, us1 6, us1 7, us1 8, us1 9, us1 10, us1 11, us1 12, us1 13, us1 14, us1 15, us1 16, us1 17, us1 18, us1 19, us1 20, us1 21, us1 22, undef, undef, undef, undef, undef, undef, undef, undef, undef, undef, undef, undef, undef, undef, undef, undef, undef, undef, undef, undef, undef, undef, undef, undef, undef, undef, undef, undef, undef, undef, undef, undef, undef, undef, undef, undef, undef, undef, undef, undef, undef, undef, undef, undef, undef, undef, undef, undef, undef, undef, undef, undef, undef, undef, undef, undef, undef, undef, undef, undef, undef, undef, undef, undef, undef, undef, undef, undef, undef, undef, undef].toArray, []⟩ ∧ j ≤ ls.length ∧ (∀ x ∈ q, x.l.length = 1) ∧ Gro w wv ∧ PK 26 wv p w.heap.size ro rc q ∧ wv.heap[gc]? = some (.cells (cv (cn (q.map (·.l)))) 45 (0, 0))) ?_ _ ⟨0, none, 0, [], (fun kz => ([undef, undef, undef, undef, undef, undef, undef, undef, undef, undef, undef, undef, undef, undef, undef, undef, undef, undef, undef, undef, undef, undef, undef] : List Value).getD kz undef), rfl, rfl, Nat.zero_le _, (fun x hx => by cases hx), GG, HP, KC⟩
  clear GG HP
  rintro mz az wv ⟨j, ro, rc, q, us1, rfl, rfl, hj, h1, GG, HP, KC⟩
  have hq256 := HP.le
  have hcl : (q.map (·.l)).length = q.length := by simp
  refine wp_seq ?_
  refine wp_region_lit ?_
  obtain ⟨p1, hp1⟩ : ∃ p, decide (((j : Nat) : Int) < ((ls.length : Nat) : Int)) = p := ⟨_, rfl⟩
  refine s_val 23 rfl rfl (.bool p1) (run_lssT 3 _ _ _ rfl ((j : Nat) : Int) ((ls.length : Nat) : Int) rfl rfl p1 hp1 _) ?_
  refine nr ?_; intro U h; simp only [z0, z1] at h; subst h
  cases p1
  · refine wpList_nil ?_
    refine then_n ?_
    refine wp_seq ?_
    refine wp_cond_false rfl ?_
    refine wp_exit ?_
    refine then_x ?_
    refine then_x ?_
    refine blk_x ?_
    refine then_n ?_
    refine wp_seq ?_
    refine wp_seq ?_
    refine wp_region_lit ?_
    refine s_val 45 rfl rfl (.slice ai xs.length capi) (rfl) ?_
    refine nr ?_; intro U h; simp only [z0, z1] at h; subst h
    refine s_val 46 rfl rfl (.int .i64 ((xs.length : Nat) : Int)) (run_len Try.underlying44 _ rfl _ _ _ rfl _) ?_
    refine nr ?_; intro U h; simp only [z0, z1] at h; subst h
    refine s_val 47 rfl rfl (.int .i64 0) (rfl) ?_
    refine nr ?_; intro U h; simp only [z0, z1] at h; subst h
    refine wpList_nil ?_
    refine then_n ?_
    refine wp_block ?_
    refine wp_loopN (fun mz az wv => ∃ (i2 : Nat) (ro : Option Addr) (rc : Nat) (q : List RV) (us2 : Nat → Value), mz = xs.length - i2 ∧ az = ⟨[.slice ao ls.length cap, .slice ai xs.length capi, undef, undef, us2 0, .pointer (some ⟨p, 0, none⟩), .pointer (some ⟨gc, 0, none⟩), .int .i64 ((q.length : Nat) : Int), undef, us1 0, undef, us2 1, us2 2, us2 3, undef, undef, undef, undef, .agg (c26 Sl.nil), .pointer (some ⟨p, 0, none⟩), .slice ao ls.length cap, .int .i64 ((ls.length : Nat) : Int), .int .i64 ((j : Nat) : Int), .bool false, us1 2, us1 3, us1 4, us1 5, us1 6, us1 7, us1 8, us1 9, us1 10, us1 11, us1 12, us1 13, us1 14, us1 15, us1 16, us1 17, us1 18, us1 19, us1 20, us1 21, us1 22, .slice ai xs.length capi, .int .i64 ((xs.length : Nat) : Int), .int .i64 ((i2 : Nat) : Int), us2 4, us2 5, us2 6, us2 7, us2 8, us2 9, us2 10, us2 11, us2 12, us2 13, us2 14, us2 15, us2 16, us2 17, us2 18, us2 19, us2 20, us2 21, us2 22, us2 23, us2 24, us2 25, us2 26, us2 27, us2 28, us2 29, us2 30, us2 31, us2 32, us2 33, undef, undef, undef, undef, undef, undef, undef, undef, undef, undef, undef, undef, undef, undef, undef, undef, undef, undef, undef, undef, undef, undef, undef, undef, undef, undef, undef, undef, undef, undef, undef, undef, undef, undef, undef, undef, undef, undef].toArray, []⟩ ∧ i2 ≤ xs.length ∧ (∀ x ∈ q, x.l.length = 1) ∧ Gro w wv ∧ PK 26 wv p w.heap.size ro rc q ∧ wv.heap[gc]? = some (.cells (cv (cn (q.map (·.l)))) 45 (0, 0))) ?_ _ ⟨0, _, _, q, (fun kz => ([.bool false, undef, undef, undef, undef, undef, undef, undef, undef, undef, undef, undef, undef, undef, undef, undef, undef, undef, undef, undef, undef, undef, undef, undef, undef, undef, undef, undef, undef, undef, undef, undef, undef, undef] : List Value).getD kz undef), rfl, rfl, Nat.zero_le _, h1, GG, HP, KC⟩
    clear GG HP
    rintro mz az wv ⟨i2, ro, rc, q, us2, rfl, rfl, hi, h1, GG, HP, KC⟩
    have hq256 := HP.le
    have hcl : (q.map (·.l)).length = q.length := by simp
    refine wp_seq ?_
    refine wp_region_lit ?_
    obtain ⟨p2, hp2⟩ : ∃ p, decide (((i2 : Nat) : Int) < ((xs.length : Nat) : Int)) = p := ⟨_, rfl⟩
    refine s_val 48 rfl rfl (.bool p2) (run_lssT 3 _ _ _ rfl ((i2 : Nat) : Int) ((xs.length : Nat) : Int) rfl rfl p2 hp2 _) ?_
    refine nr ?_; intro U h; simp only [z0, z1] at h; subst h
    cases p2
    · refine wpList_nil ?_
      refine then_n ?_
      refine wp_seq ?_
      refine wp_cond_false rfl ?_
      refine wp_exit ?_
      refine then_x ?_
      refine then_x ?_
      refine blk_x ?_
      refine then_n ?_
      refine wp_seq ?_
      refine wp_seq ?_
      refine wp_region_lit ?_
      refine s_val 78 rfl rfl (.pointer (some ⟨p, 0, none⟩)) (rfl) ?_
      refine nr ?_; intro U h; simp only [z0, z1] at h; subst h
      refine s_callx 79 rfl rfl _ 15 Try.call15 rfl rfl _ rfl [.pointer (some ⟨p, 0, none⟩)] rfl (all_any _ p w.heap.size ro rc q HP) (fun _ _ ⟨_, _, he, _⟩ => ⟨_, he⟩) ?_
      rintro v w3 ⟨gl, r, he, G, hr, HL⟩
      cases he
      have hrl : r.length = q.length := by have := congrArg List.length hr; simpa using this
      replace HL := HL
      replace KC := G.has KC
      replace HP := HP.gro G
      replace GG := GG.trans G
      clear G
      simp only [hrl]
      refine nr ?_; intro U h; simp only [z0, z1] at h; subst h
      obtain ⟨MM, hMM⟩ : ∃ M, AL _ M gl r := ⟨_, HL⟩
      clear HL
      have HL := hMM
      clear hMM
      refine s_val 80 rfl rfl (.int .i64 ((q.length : Nat) : Int)) (run_len Try.underlying24 _ rfl _ _ _ rfl _) ?_
      refine nr ?_; intro U h; simp only [z0, z1] at h; subst h
      refine s_val 81 rfl rfl (.int .i64 0) (rfl) ?_
      refine nr ?_; intro U h; simp only [z0, z1] at h; subst h
      refine wpList_nil ?_
      refine then_n ?_
      refine wp_block ?_
      refine wp_loopN (fun mz az wv => ∃ (j3 : Nat) (us3 : Nat → Value), mz = q.length - j3 ∧ az = ⟨[.slice ao ls.length cap, .slice ai xs.length capi, undef, undef, us3 0, .pointer (some ⟨p, 0, none⟩), .pointer (some ⟨gc, 0, none⟩), .int .i64 ((q.length : Nat) : Int), undef, us1 0, undef, us2 1, us2 2, us2 3, undef, us3 1, undef, undef, .agg (c26 Sl.nil), .pointer (some ⟨p, 0, none⟩), .slice ao ls.length cap, .int .i64 ((ls.length : Nat) : Int), .int .i64 ((j : Nat) : Int), .bool false, us1 2, us1 3, us1 4, us1 5, us1 6, us1 7, us1 8, us1 9, us1 10, us1 11, us1 12, us1 13, us1 14, us1 15, us1 16, us1 17, us1 18, us1 19, us1 20, us1 21, us1 22, .slice ai xs.length capi, .int .i64 ((xs.length : Nat) : Int), .int .i64 ((i2 : Nat) : Int), .bool false, us2 5, us2 6, us2 7, us2 8, us2 9, us2 10, us2 11, us2 12, us2 13, us2 14, us2 15, us2 16, us2 17, us2 18, us2 19, us2 20, us2 21, us2 22, us2 23, us2 24, us2 25, us2 26, us2 27, us2 28, us2 29, us2 30, us2 31, us2 32, us2 33, .pointer (some ⟨p, 0, none⟩), .slice (some ⟨gl, 0, none⟩) q.length q.length, .int .i64 ((q.length : Nat) : Int), .int .i64 ((j3 : Nat) : Int), us3 2, us3 3, us3 4, us3 5, us3 6, us3 7, us3 8, us3 9, us3 10, us3 11, us3 12, us3 13, us3 14, us3 15, undef, undef, undef, undef, undef, undef, undef, undef, undef, undef, undef, undef, undef, undef, undef, undef, undef, undef, undef, undef].toArray, []⟩ ∧ j3 ≤ q.length ∧ Gro w wv ∧ PK 26 wv p w.heap.size ro rc q ∧ AL wv MM gl r ∧ wv.heap[gc]? = some (.cells (cv (cn ((q.map (·.l)).drop j3))) 45 (0, 0))) ?_ _ ⟨0, (fun kz => ([us2 0, undef, undef, undef, undef, undef, undef, undef, undef, undef, undef, undef, undef, undef, undef, undef] : List Value).getD kz undef), rfl, rfl, Nat.zero_le _, GG, HP, HL, KC⟩
      clear GG HP
      rintro mz az wv ⟨j3, us3, rfl, rfl, hj, GG, HP, HL, KC⟩
      refine wp_seq ?_
      refine wp_region_lit ?_
      obtain ⟨p3, hp3⟩ : ∃ p, decide (((j3 : Nat) : Int) < ((q.length : Nat) : Int)) = p := ⟨_, rfl⟩
      refine s_val 82 rfl rfl (.bool p3) (run_lssT 3 _ _ _ rfl ((j3 : Nat) : Int) ((q.length : Nat) : Int) rfl rfl p3 hp3 _) ?_
      refine nr ?_; intro U h; simp only [z0, z1] at h; subst h
      cases p3
      · have hjn : j3 = q.length := by have := of_decide_eq_false hp3; omega
        refine wpList_nil ?_
        refine then_n ?_
        refine wp_seq ?_
        refine wp_cond_false rfl ?_
        refine wp_exit ?_
        refine then_x ?_
        refine then_x ?_
        refine blk_x ?_
        refine then_n ?_
        refine wp_seq ?_
        refine wp_seq ?_
        refine wp_region_lit ?_
        rw [hjn, List.drop_of_length_le (by rw [hcl]; exact Nat.le_refl _)] at KC
        refine s_val 96 rfl rfl (.agg (cv (cn []))) (run_lda 45 _ rfl gc 0 256 rfl 45 _ KC _ Try.underlying45 rfl si45 (by rw [cv_size]; exact Nat.le_refl _) _ (by kernel_rfl)) ?_
        refine nr ?_; intro U h; simp only [z0, z1] at h; subst h
        refine s_val 97 rfl rfl (.int .i64 0) (rfl) ?_
        refine nr ?_; intro U h; simp only [z0, z1] at h; subst h
        refine wpList_nil ?_
        refine then_n ?_
        refine wp_block ?_
        refine wp_loopN (fun mz az wv => ∃ (u : Nat) (us4 : Nat → Value), mz = 256 - u ∧ az = ⟨[.slice ao ls.length cap, .slice ai xs.length capi, undef, undef, us4 0, .pointer (some ⟨p, 0, none⟩), .pointer (some ⟨gc, 0, none⟩), .int .i64 ((q.length : Nat) : Int), undef, us1 0, undef, us2 1, us2 2, us2 3, undef, us3 1, undef, us4 1, .agg (c26 Sl.nil), .pointer (some ⟨p, 0, none⟩), .slice ao ls.length cap, .int .i64 ((ls.length : Nat) : Int), .int .i64 ((j : Nat) : Int), .bool false, us1 2, us1 3, us1 4, us1 5, us1 6, us1 7, us1 8, us1 9, us1 10, us1 11, us1 12, us1 13, us1 14, us1 15, us1 16, us1 17, us1 18, us1 19, us1 20, us1 21, us1 22, .slice ai xs.length capi, .int .i64 ((xs.length : Nat) : Int), .int .i64 ((i2 : Nat) : Int), .bool false, us2 5, us2 6, us2 7, us2 8, us2 9, us2 10, us2 11, us2 12, us2 13, us2 14, us2 15, us2 16, us2 17, us2 18, us2 19, us2 20, us2 21, us2 22, us2 23, us2 24, us2 25, us2 26, us2 27, us2 28, us2 29, us2 30, us2 31, us2 32, us2 33, .pointer (some ⟨p, 0, none⟩), .slice (some ⟨gl, 0, none⟩) q.length q.length, .int .i64 ((q.length : Nat) : Int), .int .i64 ((j3 : Nat) : Int), .bool false, us3 3, us3 4, us3 5, us3 6, us3 7, us3 8, us3 9, us3 10, us3 11, us3 12, us3 13, us3 14, us3 15, .agg (cv (cn [])), .int .i64 ((u : Nat) : Int), us4 2, us4 3, us4 4, us4 5, us4 6, undef, undef, undef, undef, undef, undef, undef, undef, undef, undef, undef, undef, undef].toArray, []⟩ ∧ u ≤ 256 ∧ Gro w wv ∧ PK 26 wv p w.heap.size ro rc q) ?_ _ ⟨0, (fun kz => ([us3 0, undef, undef, undef, undef, undef, undef] : List Value).getD kz undef), rfl, rfl, Nat.zero_le _, GG, HP⟩
        clear GG HP
        rintro mz az wv ⟨u, us4, rfl, rfl, hu, GG, HP⟩
        refine wp_seq ?_
        refine wp_region_lit ?_
        obtain ⟨p4, hp4⟩ : ∃ p, decide (((u : Nat) : Int) < 256) = p := ⟨_, rfl⟩
        refine s_val 98 rfl rfl (.bool p4) (run_lssT 3 _ _ _ rfl ((u : Nat) : Int) 256 rfl rfl p4 hp4 _) ?_
        refine nr ?_; intro U h; simp only [z0, z1] at h; subst h
        cases p4
        · refine wpList_nil ?_
          refine then_n ?_
          refine wp_seq ?_
          refine wp_cond_false rfl ?_
          refine wp_exit ?_
          refine then_x ?_
          refine then_x ?_
          refine blk_x ?_
          refine then_n ?_
          refine wp_seq ?_
          refine wp_region_opq ?_
          intro OPS hY
          have y1 := hY 1 104 rfl
          have y7 := hY 7 110 rfl
          clear hY
          refine s_callv 103 rfl rfl _ 18 Try.call18 rfl rfl _ rfl [] rfl (fixed_true _) ?_
          intro w4 G
          replace HP := HP.gro G
          replace GG := GG.trans G
          clear G
          refine nr ?_; intro U h; simp only [z0, z1] at h; subst h
          refine s_val 104 rfl rfl (.bool true) (rfl) ?_
          refine nr ?_; intro U h; simp only [z0, z1] at h; subst h
          refine s_gvalY 105 rfl rfl y1 rfl (.pointer (some ⟨p, 0, none⟩)) (rfl) ?_
          refine nr ?_; intro U h; simp only [z0, z1] at h; subst h
          refine s_gcallvY 106 rfl rfl y1 rfl _ 17 Try.call17 rfl rfl _ rfl [.pointer (some ⟨p, 0, none⟩)] rfl (len_any _ p w.heap.size ro rc q HP) ?_
          intro w5 G
          replace HP := HP.gro G
          replace GG := GG.trans G
          clear G
          refine nr ?_; intro U h; simp only [z0, z1] at h; subst h
          refine s_gvalY 107 rfl rfl y1 rfl (.int .i64 ((q.length : Nat) : Int)) (rfl) ?_
          refine nr ?_; intro U h; simp only [z0, z1] at h; subst h
          refine s_gvalY 108 rfl rfl y1 rfl (.bool true) (run_eq_k 3 .i64 _ _ _ rfl Try.underlying3 ((q.length : Nat) : Int) ((q.length : Nat) : Int) rfl rfl true (decide_eq_true (by omega)) _) ?_
          refine nr ?_; intro U h; simp only [z0, z1] at h; subst h
          refine s_val 109 rfl rfl (.bool true) (rfl) ?_
          refine nr ?_; intro U h; simp only [z0, z1] at h; subst h
          refine s_val 110 rfl rfl (.bool true) (rfl) ?_
          refine nr ?_; intro U h; simp only [z0, z1] at h; subst h
          refine s_gvalY 111 rfl rfl y7 rfl (.pointer (some ⟨p, 0, none⟩)) (rfl) ?_
          refine nr ?_; intro U h; simp only [z0, z1] at h; subst h
          refine s_gcallxY 112 rfl rfl y7 rfl _ 14 Try.call14 rfl rfl _ rfl [.pointer (some ⟨p, 0, none⟩)] rfl (fall_any _ p w.heap.size ro rc q HP) (fun _ _ ⟨_, _, he, _⟩ => ⟨_, he⟩) ?_
          rintro v w6 ⟨a5, c5, he, G, HP2, hkp⟩
          cases he
          replace GG := G.gro GG (by simpa using bp)
          clear G HP hkp HP2
          refine nr ?_; intro U h; simp only [z0, z1] at h; subst h
          refine s_gvalY 113 rfl rfl y7 rfl (.int .i64 ((q.length : Nat) : Int)) (rfl) ?_
          refine nr ?_; intro U h; simp only [z0, z1] at h; subst h
          refine s_gvalY 114 rfl rfl y7 rfl (.bool true) (run_eq_k 3 .i64 _ _ _ rfl Try.underlying3 ((q.length : Nat) : Int) ((q.length : Nat) : Int) rfl rfl true (decide_eq_true (by omega)) _) ?_
          refine nr ?_; intro U h; simp only [z0, z1] at h; subst h
          refine s_val 115 rfl rfl (.bool true) (rfl) ?_
          refine nr ?_; intro U h; simp only [z0, z1] at h; subst h
          refine s_val 4 rfl rfl (.bool true) (rfl) ?_
          refine nr ?_; intro U h; simp only [z0, z1] at h; subst h
          refine wpList_nil ?_
          refine then_n ?_
          refine wp_ret ?_
          refine bodyPost_ret (results_tmp Try.results5 _ _ _) rfl ?_
          exact ⟨rfl, GG⟩
        have hun : u < 256 := by have := of_decide_eq_true hp4; omega
        refine wpList_nil ?_
        refine then_n ?_
        refine wp_seq ?_
        refine wp_cond_true rfl ?_
        refine wp_skip ?_
        refine then_n ?_
        refine wp_seq ?_
        refine wp_block ?_
        refine wp_seq ?_
        refine wp_region_lit ?_
        refine s_val 99 rfl rfl (.int .i64 0) (run_at45 _ _ rfl (cn []) u rfl rfl hun _) ?_
        refine nr ?_; intro U h; simp only [z0, z1] at h; subst h
        refine s_val 17 rfl rfl (.int .i64 0) (rfl) ?_
        refine nr ?_; intro U h; simp only [z0, z1] at h; subst h
        refine wpList_nil ?_
        refine then_n ?_
        refine wp_seq ?_
        refine wp_region_lit ?_
        refine s_val 100 rfl rfl (.int .i64 0) (rfl) ?_
        refine nr ?_; intro U h; simp only [z0, z1] at h; subst h
        refine s_val 101 rfl rfl (.bool false) (run_neq_k 3 .i64 _ _ _ rfl Try.underlying3 0 0 rfl rfl false rfl _) ?_
        refine nr ?_; intro U h; simp only [z0, z1] at h; subst h
        refine wpList_nil ?_
        refine then_n ?_
        refine wp_cond_false rfl ?_
        refine wp_skip ?_
        refine blk_n ?_
        refine then_n ?_
        refine wp_region_lit ?_
        refine s_val 102 rfl rfl (.int .i64 ((u + 1 : Nat) : Int)) (run_add64 _ _ _ rfl ((u : Nat) : Int) 1 _ rfl rfl (by omega) (by omega) (by omega) _) ?_
        refine nr ?_; intro U h; simp only [z0, z1] at h; subst h
        refine s_val 97 rfl rfl (.int .i64 ((u + 1 : Nat) : Int)) (rfl) ?_
        refine nr ?_; intro U h; simp only [z0, z1] at h; subst h
        refine wpList_nil ?_
        refine then_n ?_
        exact ⟨_, (by omega : 256 - (u + 1) < 256 - u), u + 1, (fun kz => ([us4 0, .int .i64 0, .bool true, .int .i64 0, .int .i64 0, .bool false, .int .i64 ((u + 1 : Nat) : Int)] : List Value).getD kz undef), rfl, rfl, hun, GG, HP⟩
      have hjn : j3 < q.length := by have := of_decide_eq_true hp3; omega
      obtain ⟨x, hx⟩ : ∃ x, q[j3]? = some x := ⟨_, List.getElem?_eq_getElem hjn⟩
      obtain ⟨z, hz⟩ : ∃ z, r[j3]? = some z := ⟨_, List.getElem?_eq_getElem (by omega)⟩
      have hxq := List.mem_of_getElem? hx
      have hzr := List.mem_of_getElem? hz
      obtain ⟨b, hxl, hb⟩ := one_of (h1 x hxq) (HP.fr x hxq).nc.lt256
      have hzl : z.2 = [b] := by have h2 : (r.map (·.2))[j3]? = some x.l := by rw [hr, List.getElem?_map, hx]; rfl
                                 rw [List.getElem?_map, hz] at h2; rw [← hxl]; simpa using h2
      have hzl1 : z.2.length = 1 := by rw [hzl]; rfl
      have hxb : (q.map (·.l))[j3]? = some [b] := by rw [List.getElem?_map, hx, Option.map_some, hxl]
      have hcn := cn_le ((q.map (·.l)).drop j3) b
      have hcd : ((q.map (·.l)).drop j3).length ≤ 256 := by rw [List.length_drop, hcl]; omega
      have kz := (HL.fr z hzr).2.1
      rw [hzl] at kz
      have hat := HL.at hz
      rw [rv, hzl] at hat
      refine wpList_nil ?_
      refine then_n ?_
      refine wp_seq ?_
      refine wp_cond_true rfl ?_
      refine wp_skip ?_
      refine then_n ?_
      refine wp_seq ?_
      refine wp_block ?_
      refine wp_seq ?_
      refine wp_region_lit ?_
      refine s_val 83 rfl rfl (.pointer (some ⟨gl, j3, none⟩)) (run_idxg _ _ rfl gl q.length q.length j3 rfl rfl hjn _) ?_
      refine nr ?_; intro U h; simp only [z0, z1] at h; subst h
      refine s_val 84 rfl rfl (.slice (some ⟨z.1, 0, none⟩) ([b].length) ([b].length)) (run_ld24 _ rfl _ rfl _ _ hat) ?_
      refine nr ?_; intro U h; simp only [z0, z1] at h; subst h
      refine s_val 15 rfl rfl (.slice (some ⟨z.1, 0, none⟩) ([b].length) ([b].length)) (rfl) ?_
      refine nr ?_; intro U h; simp only [z0, z1] at h; subst h
      refine wpList_nil ?_
      refine then_n ?_
      refine wp_seq ?_
      refine wp_seq ?_
      refine wp_region_lit ?_
      refine s_val 85 rfl rfl (.slice (some ⟨z.1, 0, none⟩) ([b].length) ([b].length)) (rfl) ?_
      refine nr ?_; intro U h; simp only [z0, z1] at h; subst h
      refine s_val 86 rfl rfl (.int .i64 1) (run_len Try.underlying30 _ rfl _ _ _ rfl _) ?_
      refine nr ?_; intro U h; simp only [z0, z1] at h; subst h
      refine s_val 87 rfl rfl (.bool false) (run_neq_k 3 .i64 _ _ _ rfl Try.underlying3 1 1 rfl rfl false rfl _) ?_
      refine nr ?_; intro U h; simp only [z0, z1] at h; subst h
      refine wpList_nil ?_
      refine then_n ?_
      refine wp_cond_false rfl ?_
      refine wp_skip ?_
      refine then_n ?_
      refine wp_region_lit ?_
      refine s_val 88 rfl rfl (.slice (some ⟨z.1, 0, none⟩) ([b].length) ([b].length)) (rfl) ?_
      refine nr ?_; intro U h; simp only [z0, z1] at h; subst h
      refine s_val 89 rfl rfl (.pointer (some ⟨z.1, 0, none⟩)) (bat _ _ rfl z.1 1 1 0 rfl rfl (by decide) _) ?_
      refine nr ?_; intro U h; simp only [z0, z1] at h; subst h
      refine s_val 90 rfl rfl (.int .u8 ((b : Nat) : Int)) (run_ld bT _ rfl ⟨z.1, 0, none⟩ rfl _ _ (bvc kz (by simp))) ?_
      refine nr ?_; intro U h; simp only [z0, z1] at h; subst h
      refine s_val 91 rfl rfl (.pointer (some ⟨gc, b, none⟩)) (run_idx45 _ _ rfl gc b .u8 rfl rfl hb _) ?_
      refine nr ?_; intro U h; simp only [z0, z1] at h; subst h
      refine s_val 92 rfl rfl (.int .i64 (cn ((q.map (·.l)).drop j3) b)) (run_ldc 3 _ rfl gc b rfl 45 _ KC (na3 _) _ (cv_get _ hb)) ?_
      refine nr ?_; intro U h; simp only [z0, z1] at h; subst h
      refine s_val 93 rfl rfl (.int .i64 (cn ((q.map (·.l)).drop j3) b - 1)) (run_sub64 _ _ _ rfl (cn ((q.map (·.l)).drop j3) b) 1 _ rfl rfl rfl (by omega) (by omega) _) ?_
      refine nr ?_; intro U h; simp only [z0, z1] at h; subst h
      refine s_val 94 rfl rfl (.pointer (some ⟨gc, b, none⟩)) (run_idx45 _ _ rfl gc b .u8 rfl rfl hb _) ?_
      refine nr ?_; intro U h; simp only [z0, z1] at h; subst h
      refine s_store rfl rfl 3 _ _ rfl gc b rfl (.int .i64 (cn ((q.map (·.l)).drop j3) b - 1)) rfl 45 _ KC #[.int .i64 (cn ((q.map (·.l)).drop j3) b - 1)] rfl si3 (by rw [cv_size]; exact hb) (by kernel_rfl) _ (cv_up _ hb _) ?_
      intro w4 St
      replace GG := GG.store St bgc
      replace HP := cnt_st HP (by decide) KC St
      replace HL := HL.cst KC St
      replace KC := St.new
      rw [cn_drop hxb] at KC
      clear St
      refine wpList_nil ?_
      refine blk_n ?_
      refine then_n ?_
      refine wp_region_lit ?_
      refine s_val 95 rfl rfl (.int .i64 ((j3 + 1 : Nat) : Int)) (run_add64 _ _ _ rfl ((j3 : Nat) : Int) 1 _ rfl rfl (by omega) (by omega) (by omega) _) ?_
      refine nr ?_; intro U h; simp only [z0, z1] at h; subst h
      refine s_val 81 rfl rfl (.int .i64 ((j3 + 1 : Nat) : Int)) (rfl) ?_
      refine nr ?_; intro U h; simp only [z0, z1] at h; subst h
      refine wpList_nil ?_
      refine then_n ?_
      exact ⟨_, (by omega : q.length - (j3 + 1) < q.length - j3), j3 + 1, (fun kz => ([us3 0, .slice (some ⟨z.1, 0, none⟩) ([b].length) ([b].length), .bool true, .pointer (some ⟨gl, j3, none⟩), .slice (some ⟨z.1, 0, none⟩) ([b].length) ([b].length), .slice (some ⟨z.1, 0, none⟩) ([b].length) ([b].length), .int .i64 1, .bool false, .slice (some ⟨z.1, 0, none⟩) ([b].length) ([b].length), .pointer (some ⟨z.1, 0, none⟩), .int .u8 ((b : Nat) : Int), .pointer (some ⟨gc, b, none⟩), .int .i64 (cn ((q.map (·.l)).drop j3) b), .int .i64 (cn ((q.map (·.l)).drop j3) b - 1), .pointer (some ⟨gc, b, none⟩), .int .i64 ((j3 + 1 : Nat) : Int)] : List Value).getD kz undef), rfl, rfl, hjn, GG, HP, HL, KC⟩
    have hin : i2 < xs.length := by have := of_decide_eq_true hp2; omega
    obtain ⟨ad7, hao7, hcl7⟩ := HI.at hin
    refine wpList_nil ?_
    refine then_n ?_
    refine wp_seq ?_
    refine wp_cond_true rfl ?_
    refine wp_skip ?_
    refine then_n ?_
    refine wp_seq ?_
    refine wp_block ?_
    refine wp_seq ?_
    refine wp_region_lit ?_
    refine s_val 49 rfl rfl (.pointer (some (ad7.add i2))) (run_idx iT _ _ rfl ad7 xs.length capi i2 (by exact congrArg (fun a => Value.slice a xs.length capi) hao7) rfl hin _) ?_
    refine nr ?_; intro U h; simp only [z0, z1] at h; subst h
    refine s_val 50 rfl rfl (.int .i64 (xs.getD i2 0)) (run_ldI _ rfl _ rfl _ _ (gro_cell GG hcl7)) ?_
    refine nr ?_; intro U h; simp only [z0, z1] at h; subst h
    refine s_val 11 rfl rfl (.int .i64 (xs.getD i2 0)) (rfl) ?_
    refine nr ?_; intro U h; simp only [z0, z1] at h; subst h
    refine wpList_nil ?_
    refine then_n ?_
    refine wp_seq ?_
    refine wp_region_lit ?_
    refine s_val 52 rfl rfl (.pointer (some ⟨p, 0, none⟩)) (rfl) ?_
    refine nr ?_; intro U h; simp only [z0, z1] at h; subst h
    refine s_val 53 rfl rfl (.int .i64 (xs.getD i2 0)) (rfl) ?_
    refine nr ?_; intro U h; simp only [z0, z1] at h; subst h
    rcases Nat.eq_zero_or_pos q.length with h0 | h0
    · refine s_callv 54 rfl rfl _ 10 Try.call10 rfl rfl _ rfl [.pointer (some ⟨p, 0, none⟩), .int .i64 (xs.getD i2 0)] rfl (take_none _ p w.heap.size ro rc q HP (xs.getD i2 0) h0) ?_
      intro w3 G
      replace KC := G.has KC
      replace HP := HP.gro G
      replace GG := GG.trans G
      clear G
      refine nr ?_; intro U h; simp only [z0, z1] at h; subst h
      refine s_val 51 rfl rfl (.tuple #[.slice none 0 0, .bool false]) (rfl) ?_
      refine nr ?_; intro U h; simp only [z0, z1] at h; subst h
      refine s_val 55 rfl rfl (.slice none 0 0) (rfl) ?_
      refine nr ?_; intro U h; simp only [z0, z1] at h; subst h
      refine s_val 56 rfl rfl (.bool false) (rfl) ?_
      refine nr ?_; intro U h; simp only [z0, z1] at h; subst h
      refine s_val 12 rfl rfl (.slice none 0 0) (rfl) ?_
      refine nr ?_; intro U h; simp only [z0, z1] at h; subst h
      refine s_val 13 rfl rfl (.bool false) (rfl) ?_
      refine nr ?_; intro U h; simp only [z0, z1] at h; subst h
      refine wpList_nil ?_
      refine then_n ?_
      refine wp_seq ?_
      refine wp_seq ?_
      refine wp_region_lit ?_
      refine s_val 57 rfl rfl (.bool false) (rfl) ?_
      refine nr ?_; intro U h; simp only [z0, z1] at h; subst h
      refine s_val 58 rfl rfl (.int .i64 ((q.length : Nat) : Int)) (rfl) ?_
      refine nr ?_; intro U h; simp only [z0, z1] at h; subst h
      refine s_val 59 rfl rfl (.bool false) (run_gtrT 3 _ _ _ rfl ((q.length : Nat) : Int) 0 rfl rfl false (by first | exact decide_eq_true (by omega) | exact decide_eq_false (by omega)) _) ?_
      refine nr ?_; intro U h; simp only [z0, z1] at h; subst h
      refine s_val 60 rfl rfl (.bool false) (run_neB 4 _ _ _ rfl false false rfl rfl Try.underlying4 false (decide_eq_true rfl) _) ?_
      refine nr ?_; intro U h; simp only [z0, z1] at h; subst h
      refine wpList_nil ?_
      refine then_n ?_
      refine wp_cond_false rfl ?_
      refine wp_skip ?_
      refine then_n ?_
      refine wp_seq ?_
      refine wp_seq ?_
      refine wp_region_opq ?_
      intro OPS hY
      have y1 := hY 1 62 rfl
      clear hY
      refine s_val 61 rfl rfl (.bool false) (rfl) ?_
      refine nr ?_; intro U h; simp only [z0, z1] at h; subst h
      refine s_val 62 rfl rfl (.bool false) (rfl) ?_
      refine nr ?_; intro U h; simp only [z0, z1] at h; subst h
      refine s_skipY 63 rfl rfl y1 rfl ?_
      refine nr ?_; intro U h; simp only [z0, z1] at h; subst h
      refine s_skipY 64 rfl rfl y1 rfl ?_
      refine nr ?_; intro U h; simp only [z0, z1] at h; subst h
      refine s_skipY 65 rfl rfl y1 rfl ?_
      refine nr ?_; intro U h; simp only [z0, z1] at h; subst h
      refine s_val 66 rfl rfl (.bool false) (rfl) ?_
      refine nr ?_; intro U h; simp only [z0, z1] at h; subst h
      refine wpList_nil ?_
      refine then_n ?_
      refine wp_cond_false rfl ?_
      refine wp_skip ?_
      refine then_n ?_
      refine wp_seq ?_
      refine wp_region_lit ?_
      refine s_val 67 rfl rfl (.bool false) (rfl) ?_
      refine nr ?_; intro U h; simp only [z0, z1] at h; subst h
      refine wpList_nil ?_
      refine then_n ?_
      refine wp_cond_false rfl ?_
      refine wp_skip ?_
      refine blk_n ?_
      refine then_n ?_
      refine wp_region_lit ?_
      refine s_val 77 rfl rfl (.int .i64 ((i2 + 1 : Nat) : Int)) (run_add64 _ _ _ rfl ((i2 : Nat) : Int) 1 _ rfl rfl (by omega) (by omega) (by omega) _) ?_
      refine nr ?_; intro U h; simp only [z0, z1] at h; subst h
      refine s_val 47 rfl rfl (.int .i64 ((i2 + 1 : Nat) : Int)) (rfl) ?_
      refine nr ?_; intro U h; simp only [z0, z1] at h; subst h
      refine wpList_nil ?_
      refine then_n ?_
      exact ⟨_, (by omega : xs.length - (i2 + 1) < xs.length - i2), i2 + 1, ro, rc, q, (fun kz => ([us2 0, .int .i64 (xs.getD i2 0), .slice none 0 0, .bool false, .bool true, .pointer (some (ad7.add i2)), .int .i64 (xs.getD i2 0), .tuple #[.slice none 0 0, .bool false], .pointer (some ⟨p, 0, none⟩), .int .i64 (xs.getD i2 0), .tuple #[.slice none 0 0, .bool false], .slice none 0 0, .bool false, .bool false, .int .i64 ((q.length : Nat) : Int), .bool false, .bool false, .bool false, .bool false, undef, undef, undef, .bool false, .bool false, us2 24, us2 25, us2 26, us2 27, us2 28, us2 29, us2 30, us2 31, us2 32, .int .i64 ((i2 + 1 : Nat) : Int)] : List Value).getD kz undef), rfl, rfl, hin, h1, GG, HP, KC⟩
    obtain ⟨k, hk⟩ : ∃ k, uN (xs.getD i2 0) % q.length = k := ⟨_, rfl⟩
    have hkl : k < q.length := by rw [← hk]; exact Nat.mod_lt _ h0
    obtain ⟨x, hx⟩ : ∃ x, q[k]? = some x := ⟨_, List.getElem?_eq_getElem hkl⟩
    have hxq := List.mem_of_getElem? hx
    obtain ⟨b, hxl, hb⟩ := one_of (h1 x hxq) (HP.fr x hxq).nc.lt256
    have hxb : (q.map (·.l))[k]? = some [b] := by rw [List.getElem?_map, hx, Option.map_some, hxl]
    have hcn := cn_le (q.map (·.l)) b
    refine s_callx 54 rfl rfl _ 10 Try.call10 rfl rfl _ rfl [.pointer (some ⟨p, 0, none⟩), .int .i64 (xs.getD i2 0)] rfl (take_ok _ p w.heap.size ro rc q HP (xs.getD i2 0) k hk x hx) (fun _ _ ⟨_, _, _, he, _⟩ => ⟨_, he⟩) ?_
    rintro v w3 ⟨gt, a6, c6, he, G, bgt, kgt, HP2, hkp⟩
    cases he
    replace KC := cnt_take HP (by decide) KC G
    replace bgt := Nat.le_trans GG.size bgt
    replace GG := G.gro GG (by simpa using bp)
    clear G HP hkp
    have HP := HP2
    clear HP2
    rw [hxl] at kgt
    simp only [hxl]
    refine nr ?_; intro U h; simp only [z0, z1] at h; subst h
    refine s_val 51 rfl rfl (.tuple #[.slice (some ⟨gt, 0, none⟩) ([b].length) ([b].length), .bool true]) (rfl) ?_
    refine nr ?_; intro U h; simp only [z0, z1] at h; subst h
    refine s_val 55 rfl rfl (.slice (some ⟨gt, 0, none⟩) ([b].length) ([b].length)) (rfl) ?_
    refine nr ?_; intro U h; simp only [z0, z1] at h; subst h
    refine s_val 56 rfl rfl (.bool true) (rfl) ?_
    refine nr ?_; intro U h; simp only [z0, z1] at h; subst h
    refine s_val 12 rfl rfl (.slice (some ⟨gt, 0, none⟩) ([b].length) ([b].length)) (rfl) ?_
    refine nr ?_; intro U h; simp only [z0, z1] at h; subst h
    refine s_val 13 rfl rfl (.bool true) (rfl) ?_
    refine nr ?_; intro U h; simp only [z0, z1] at h; subst h
    refine wpList_nil ?_
    refine then_n ?_
    refine wp_seq ?_
    refine wp_seq ?_
    refine wp_region_lit ?_
    refine s_val 57 rfl rfl (.bool true) (rfl) ?_
    refine nr ?_; intro U h; simp only [z0, z1] at h; subst h
    refine s_val 58 rfl rfl (.int .i64 ((q.length : Nat) : Int)) (rfl) ?_
    refine nr ?_; intro U h; simp only [z0, z1] at h; subst h
    refine s_val 59 rfl rfl (.bool true) (run_gtrT 3 _ _ _ rfl ((q.length : Nat) : Int) 0 rfl rfl true (by first | exact decide_eq_true (by omega) | exact decide_eq_false (by omega)) _) ?_
    refine nr ?_; intro U h; simp only [z0, z1] at h; subst h
    refine s_val 60 rfl rfl (.bool false) (run_neB 4 _ _ _ rfl true true rfl rfl Try.underlying4 false (decide_eq_true rfl) _) ?_
    refine nr ?_; intro U h; simp only [z0, z1] at h; subst h
    refine wpList_nil ?_
    refine then_n ?_
    refine wp_cond_false rfl ?_
    refine wp_skip ?_
    refine then_n ?_
    refine wp_seq ?_
    refine wp_seq ?_
    refine wp_region_opq ?_
    intro OPS hY
    have y1 := hY 1 62 rfl
    clear hY
    refine s_val 61 rfl rfl (.bool true) (rfl) ?_
    refine nr ?_; intro U h; simp only [z0, z1] at h; subst h
    refine s_val 62 rfl rfl (.bool true) (rfl) ?_
    refine nr ?_; intro U h; simp only [z0, z1] at h; subst h
    refine s_gvalY 63 rfl rfl y1 rfl (.slice (some ⟨gt, 0, none⟩) ([b].length) ([b].length)) (rfl) ?_
    refine nr ?_; intro U h; simp only [z0, z1] at h; subst h
    refine s_gvalY 64 rfl rfl y1 rfl (.int .i64 1) (run_len Try.underlying30 _ rfl _ _ _ rfl _) ?_
    refine nr ?_; intro U h; simp only [z0, z1] at h; subst h
    refine s_gvalY 65 rfl rfl y1 rfl (.bool false) (run_neq_k 3 .i64 _ _ _ rfl Try.underlying3 1 1 rfl rfl false rfl _) ?_
    refine nr ?_; intro U h; simp only [z0, z1] at h; subst h
    refine s_val 66 rfl rfl (.bool false) (rfl) ?_
    refine nr ?_; intro U h; simp only [z0, z1] at h; subst h
    refine wpList_nil ?_
    refine then_n ?_
    refine wp_cond_false rfl ?_
    refine wp_skip ?_
    refine then_n ?_
    refine wp_seq ?_
    refine wp_region_lit ?_
    refine s_val 67 rfl rfl (.bool true) (rfl) ?_
    refine nr ?_; intro U h; simp only [z0, z1] at h; subst h
    refine wpList_nil ?_
    refine then_n ?_
    refine wp_cond_true rfl ?_
    refine wp_seq ?_
    refine wp_region_lit ?_
    refine s_val 68 rfl rfl (.slice (some ⟨gt, 0, none⟩) ([b].length) ([b].length)) (rfl) ?_
    refine nr ?_; intro U h; simp only [z0, z1] at h; subst h
    refine s_val 69 rfl rfl (.pointer (some ⟨gt, 0, none⟩)) (bat _ _ rfl gt 1 1 0 rfl rfl (by decide) _) ?_
    refine nr ?_; intro U h; simp only [z0, z1] at h; subst h
    refine s_val 70 rfl rfl (.int .u8 ((b : Nat) : Int)) (run_ld bT _ rfl ⟨gt, 0, none⟩ rfl _ _ (bvc kgt (by simp))) ?_
    refine nr ?_; intro U h; simp only [z0, z1] at h; subst h
    refine s_val 71 rfl rfl (.pointer (some ⟨gc, b, none⟩)) (run_idx45 _ _ rfl gc b .u8 rfl rfl hb _) ?_
    refine nr ?_; intro U h; simp only [z0, z1] at h; subst h
    refine s_val 72 rfl rfl (.int .i64 (cn (q.map (·.l)) b)) (run_ldc 3 _ rfl gc b rfl 45 _ KC (na3 _) _ (cv_get _ hb)) ?_
    refine nr ?_; intro U h; simp only [z0, z1] at h; subst h
    refine s_val 73 rfl rfl (.int .i64 (cn (q.map (·.l)) b - 1)) (run_sub64 _ _ _ rfl (cn (q.map (·.l)) b) 1 _ rfl rfl rfl (by omega) (by omega) _) ?_
    refine nr ?_; intro U h; simp only [z0, z1] at h; subst h
    refine s_val 74 rfl rfl (.pointer (some ⟨gc, b, none⟩)) (run_idx45 _ _ rfl gc b .u8 rfl rfl hb _) ?_
    refine nr ?_; intro U h; simp only [z0, z1] at h; subst h
    refine s_store rfl rfl 3 _ _ rfl gc b rfl (.int .i64 (cn (q.map (·.l)) b - 1)) rfl 45 _ KC #[.int .i64 (cn (q.map (·.l)) b - 1)] rfl si3 (by rw [cv_size]; exact hb) (by kernel_rfl) _ (cv_up _ hb _) ?_
    intro w4 St
    replace GG := GG.store St bgc
    replace HP := cnt_st HP (by decide) KC St
    replace KC := St.new
    rw [cn_erase hxb] at KC
    clear St
    refine wpList_nil ?_
    refine then_n ?_
    refine wp_region_lit ?_
    refine s_val 75 rfl rfl (.int .i64 ((q.length : Nat) : Int)) (rfl) ?_
    refine nr ?_; intro U h; simp only [z0, z1] at h; subst h
    refine s_val 76 rfl rfl (.int .i64 ((q.length - 1 : Nat) : Int)) (run_sub64 _ _ _ rfl ((q.length : Nat) : Int) 1 _ rfl rfl (by omega) (by omega) (by omega) _) ?_
    refine nr ?_; intro U h; simp only [z0, z1] at h; subst h
    refine s_val 7 rfl rfl (.int .i64 ((q.length - 1 : Nat) : Int)) (rfl) ?_
    refine nr ?_; intro U h; simp only [z0, z1] at h; subst h
    refine wpList_nil ?_
    refine blk_n ?_
    refine then_n ?_
    refine wp_region_lit ?_
    refine s_val 77 rfl rfl (.int .i64 ((i2 + 1 : Nat) : Int)) (run_add64 _ _ _ rfl ((i2 : Nat) : Int) 1 _ rfl rfl (by omega) (by omega) (by omega) _) ?_
    refine nr ?_; intro U h; simp only [z0, z1] at h; subst h
    refine s_val 47 rfl rfl (.int .i64 ((i2 + 1 : Nat) : Int)) (rfl) ?_
    refine nr ?_; intro U h; simp only [z0, z1] at h; subst h
    refine wpList_nil ?_
    refine then_n ?_
    refine ⟨_, (by omega : xs.length - (i2 + 1) < xs.length - i2), i2 + 1, a6, c6, q.eraseIdx k, (fun kz => ([us2 0, .int .i64 (xs.getD i2 0), .slice (some ⟨gt, 0, none⟩) ([b].length) ([b].length), .bool true, .bool true, .pointer (some (ad7.add i2)), .int .i64 (xs.getD i2 0), .tuple #[.slice (some ⟨gt, 0, none⟩) ([b].length) ([b].length), .bool true], .pointer (some ⟨p, 0, none⟩), .int .i64 (xs.getD i2 0), .tuple #[.slice (some ⟨gt, 0, none⟩) ([b].length) ([b].length), .bool true], .slice (some ⟨gt, 0, none⟩) ([b].length) ([b].length), .bool true, .bool true, .int .i64 ((q.length : Nat) : Int), .bool true, .bool false, .bool true, .bool true, .slice (some ⟨gt, 0, none⟩) ([b].length) ([b].length), .int .i64 1, .bool false, .bool false, .bool true, .slice (some ⟨gt, 0, none⟩) ([b].length) ([b].length), .pointer (some ⟨gt, 0, none⟩), .int .u8 ((b : Nat) : Int), .pointer (some ⟨gc, b, none⟩), .int .i64 (cn (q.map (·.l)) b), .int .i64 (cn (q.map (·.l)) b - 1), .pointer (some ⟨gc, b, none⟩), .int .i64 ((q.length : Nat) : Int), .int .i64 ((q.length - 1 : Nat) : Int), .int .i64 ((i2 + 1 : Nat) : Int)] : List Value).getD kz undef), rfl, (by rw [List.length_eraseIdx_of_lt hkl]; rfl), hin, (fun y hy => h1 y (List.mem_of_mem_eraseIdx hy)), GG, HP, ?_⟩
    rw [map_erase]; exact KC
  have hjn : j < ls.length := by have := of_decide_eq_true hp1; omega
  obtain ⟨ad, ao3, cap3, hao, clA, ncA⟩ := HA.at hjn
  refine wpList_nil ?_
  refine then_n ?_
  refine wp_seq ?_
  refine wp_cond_true rfl ?_
  refine wp_skip ?_
  refine then_n ?_
  refine wp_seq ?_
  refine wp_block ?_
  refine wp_seq ?_
  refine wp_region_lit ?_
  refine s_val 24 rfl rfl (.pointer (some (ad.add j))) (run_idx23 _ _ rfl ad ls.length cap j (by exact congrArg (fun a => Value.slice a ls.length cap) hao) rfl hjn _) ?_
  refine nr ?_; intro U h; simp only [z0, z1] at h; subst h
  refine s_val 25 rfl rfl (.slice ao3 ((ls.getD j []).length) cap3) (run_ld24 _ rfl _ rfl _ _ (gro_cell GG clA)) ?_
  refine nr ?_; intro U h; simp only [z0, z1] at h; subst h
  refine s_val 9 rfl rfl (.slice ao3 ((ls.getD j []).length) cap3) (rfl) ?_
  refine nr ?_; intro U h; simp only [z0, z1] at h; subst h
  refine wpList_nil ?_
  refine then_n ?_
  refine wp_seq ?_
  refine wp_region_opq ?_
  intro OPS hY
  have y3 := hY 3 29 rfl
  clear hY
  refine s_val 26 rfl rfl (.slice ao3 ((ls.getD j []).length) cap3) (rfl) ?_
  refine nr ?_; intro U h; simp only [z0, z1] at h; subst h
  refine s_val 27 rfl rfl (.int .i64 (((ls.getD j []).length : Nat) : Int)) (run_len Try.underlying30 _ rfl _ _ _ rfl _) ?_
  refine nr ?_; intro U h; simp only [z0, z1] at h; subst h
  obtain ⟨p2, hp2⟩ : ∃ p, decide (0 < (((ls.getD j []).length : Nat) : Int)) = p := ⟨_, rfl⟩
  refine s_val 28 rfl rfl (.bool p2) (run_gtrT 3 _ _ _ rfl (((ls.getD j []).length : Nat) : Int) 0 rfl rfl p2 hp2 _) ?_
  refine nr ?_; intro U h; simp only [z0, z1] at h; subst h
  cases p2
  · refine s_val _ rfl rfl (.bool false) rfl ?_
    refine nr ?_; intro U h; simp only [z0, z1] at h; subst h
    iterate 4 (refine s_skipY _ rfl rfl y3 rfl ?_; refine nr ?_; intro U h; simp only [z0, z1] at h; subst h)
    refine s_val _ rfl rfl (.bool false) rfl ?_
    refine nr ?_; intro U h; simp only [z0, z1] at h; subst h
    refine wpList_nil ?_
    refine then_n ?_
    refine wp_cond_false rfl ?_
    refine wp_skip ?_
    refine blk_n ?_
    refine then_n ?_
    refine wp_region_lit ?_
    refine s_val 44 rfl rfl (.int .i64 ((j + 1 : Nat) : Int)) (run_add64 _ _ _ rfl ((j : Nat) : Int) 1 _ rfl rfl (by omega) (by omega) (by omega) _) ?_
    refine nr ?_; intro U h; simp only [z0, z1] at h; subst h
    refine s_val 22 rfl rfl (.int .i64 ((j + 1 : Nat) : Int)) (rfl) ?_
    refine nr ?_; intro U h; simp only [z0, z1] at h; subst h
    refine wpList_nil ?_
    refine then_n ?_
    exact ⟨_, (by omega : ls.length - (j + 1) < ls.length - j), j + 1, ro, rc, q, (fun kz => ([.slice ao3 ((ls.getD j []).length) cap3, .bool true, .pointer (some (ad.add j)), .slice ao3 ((ls.getD j []).length) cap3, .slice ao3 ((ls.getD j []).length) cap3, .int .i64 (((ls.getD j []).length : Nat) : Int), .bool false, .bool false, undef, undef, undef, undef, .bool false, us1 13, us1 14, us1 15, us1 16, us1 17, us1 18, us1 19, us1 20, us1 21, .int .i64 ((j + 1 : Nat) : Int)] : List Value).getD kz undef), rfl, rfl, hjn, h1, GG, HP, KC⟩
  have h0 : 0 < (ls.getD j []).length := by have := of_decide_eq_true hp2; omega
  obtain ⟨b, hbe, hb, ncb⟩ := NC.one ncA h0
  obtain ⟨ad3, hao3, hcb0⟩ := ncb.at (j := 0) (by simp)
  have hcb : w.cell? (ad3.add 0) = some (.int .u8 ((b : Nat) : Int)) := hcb0
  have hcn := cn_le (q.map (·.l)) b
  refine s_val 29 rfl rfl (.bool true) (rfl) ?_
  refine nr ?_; intro U h; simp only [z0, z1] at h; subst h
  refine s_gvalY 30 rfl rfl y3 rfl (.pointer (some ⟨p, 0, none⟩)) (rfl) ?_
  refine nr ?_; intro U h; simp only [z0, z1] at h; subst h
  refine s_gvalY 31 rfl rfl y3 rfl (.slice ao3 ((ls.getD j []).length) cap3) (rfl) ?_
  refine nr ?_; intro U h; simp only [z0, z1] at h; subst h
  refine s_gvalY 32 rfl rfl y3 rfl (.slice ao3 1 cap3) (run_cut0 bT _ _ rfl ao3 (ls.getD j []).length cap3 1 rfl rfl (by have := ncA.fit; omega) _) ?_
  refine nr ?_; intro U h; simp only [z0, z1] at h; subst h
  rcases Nat.lt_or_ge q.length 256 with h256 | h256
  · refine s_gcallxY 33 rfl rfl y3 rfl _ 8 Try.call8 rfl rfl _ rfl [.pointer (some ⟨p, 0, none⟩), .slice ao3 1 cap3] rfl (put_ok _ p w.heap.size ro rc q HP (by omega) ao3 cap3 [b] (ncb.gro GG) (fun ad ha h0 hm => by have h1 := ncb.lt ad ha h0; have h2 := HP.row.base _ hm; omega) (by simp)) (fun _ _ ⟨_, _, _, he, _⟩ => ⟨_, he⟩) ?_
    rintro v w3 ⟨a2, c2, y, he, hy, G, HP2, HY, hkp⟩
    cases he
    replace KC := cnt_put HP (by decide) KC G
    replace GG := G.gro GG HP.sb
    clear G HP HY hkp
    have HP := HP2
    clear HP2
    refine nr ?_; intro U h; simp only [z0, z1] at h; subst h
    refine s_val 34 rfl rfl (.bool true) (rfl) ?_
    refine nr ?_; intro U h; simp only [z0, z1] at h; subst h
    refine wpList_nil ?_
    refine then_n ?_
    refine wp_cond_true rfl ?_
    refine wp_seq ?_
    refine wp_region_lit ?_
    refine s_val 35 rfl rfl (.slice ao3 ((ls.getD j []).length) cap3) (rfl) ?_
    refine nr ?_; intro U h; simp only [z0, z1] at h; subst h
    refine s_val 36 rfl rfl (.pointer (some (ad3.add 0))) (run_idx bT _ _ rfl ad3 (ls.getD j []).length cap3 0 (by exact congrArg (fun a => Value.slice a (ls.getD j []).length cap3) hao3) rfl h0 _) ?_
    refine nr ?_; intro U h; simp only [z0, z1] at h; subst h
    refine s_val 37 rfl rfl (.int .u8 ((b : Nat) : Int)) (run_ld bT _ rfl _ rfl _ _ (gro_cell GG hcb)) ?_
    refine nr ?_; intro U h; simp only [z0, z1] at h; subst h
    refine s_val 38 rfl rfl (.pointer (some ⟨gc, b, none⟩)) (run_idx45 _ _ rfl gc b .u8 rfl rfl hb _) ?_
    refine nr ?_; intro U h; simp only [z0, z1] at h; subst h
    refine s_val 39 rfl rfl (.int .i64 (cn (q.map (·.l)) b)) (run_ldc 3 _ rfl gc b rfl 45 _ KC (na3 _) _ (cv_get _ hb)) ?_
    refine nr ?_; intro U h; simp only [z0, z1] at h; subst h
    refine s_val 40 rfl rfl (.int .i64 (cn (q.map (·.l)) b + 1)) (run_add64 _ _ _ rfl (cn (q.map (·.l)) b) 1 _ rfl rfl rfl (by omega) (by omega) _) ?_
    refine nr ?_; intro U h; simp only [z0, z1] at h; subst h
    refine s_val 41 rfl rfl (.pointer (some ⟨gc, b, none⟩)) (run_idx45 _ _ rfl gc b .u8 rfl rfl hb _) ?_
    refine nr ?_; intro U h; simp only [z0, z1] at h; subst h
    refine s_store rfl rfl 3 _ _ rfl gc b rfl (.int .i64 (cn (q.map (·.l)) b + 1)) rfl 45 _ KC #[.int .i64 (cn (q.map (·.l)) b + 1)] rfl si3 (by rw [cv_size]; exact hb) (by kernel_rfl) _ (cv_up _ hb _) ?_
    intro w4 St
    replace GG := GG.store St bgc
    replace HP := cnt_st HP (by decide) KC St
    replace KC := St.new
    rw [cn_app] at KC
    clear St
    refine wpList_nil ?_
    refine then_n ?_
    refine wp_region_lit ?_
    refine s_val 42 rfl rfl (.int .i64 ((q.length : Nat) : Int)) (rfl) ?_
    refine nr ?_; intro U h; simp only [z0, z1] at h; subst h
    refine s_val 43 rfl rfl (.int .i64 ((q.length + 1 : Nat) : Int)) (run_add64 _ _ _ rfl ((q.length : Nat) : Int) 1 _ rfl rfl (by omega) (by omega) (by omega) _) ?_
    refine nr ?_; intro U h; simp only [z0, z1] at h; subst h
    refine s_val 7 rfl rfl (.int .i64 ((q.length + 1 : Nat) : Int)) (rfl) ?_
    refine nr ?_; intro U h; simp only [z0, z1] at h; subst h
    refine wpList_nil ?_
    refine blk_n ?_
    refine then_n ?_
    refine wp_region_lit ?_
    refine s_val 44 rfl rfl (.int .i64 ((j + 1 : Nat) : Int)) (run_add64 _ _ _ rfl ((j : Nat) : Int) 1 _ rfl rfl (by omega) (by omega) (by omega) _) ?_
    refine nr ?_; intro U h; simp only [z0, z1] at h; subst h
    refine s_val 22 rfl rfl (.int .i64 ((j + 1 : Nat) : Int)) (rfl) ?_
    refine nr ?_; intro U h; simp only [z0, z1] at h; subst h
    refine wpList_nil ?_
    refine then_n ?_
    refine ⟨_, (by omega : ls.length - (j + 1) < ls.length - j), j + 1, a2, c2, q ++ [y], (fun kz => ([.slice ao3 ((ls.getD j []).length) cap3, .bool true, .pointer (some (ad.add j)), .slice ao3 ((ls.getD j []).length) cap3, .slice ao3 ((ls.getD j []).length) cap3, .int .i64 (((ls.getD j []).length : Nat) : Int), .bool true, .bool true, .pointer (some ⟨p, 0, none⟩), .slice ao3 ((ls.getD j []).length) cap3, .slice ao3 1 cap3, .bool true, .bool true, .slice ao3 ((ls.getD j []).length) cap3, .pointer (some (ad3.add 0)), .int .u8 ((b : Nat) : Int), .pointer (some ⟨gc, b, none⟩), .int .i64 (cn (q.map (·.l)) b), .int .i64 (cn (q.map (·.l)) b + 1), .pointer (some ⟨gc, b, none⟩), .int .i64 ((q.length : Nat) : Int), .int .i64 ((q.length + 1 : Nat) : Int), .int .i64 ((j + 1 : Nat) : Int)] : List Value).getD kz undef), rfl, (by rw [List.length_append]; rfl), hjn, ?_, GG, HP, ?_⟩
    · intro x hx
      rcases List.mem_append.1 hx with hx | hx
      · exact h1 x hx
      · cases List.mem_singleton.1 hx
        rw [hy]; rfl
    · rw [List.map_append, List.map_singleton, hy]; exact KC
  refine s_gcallvY 33 rfl rfl y3 rfl _ 8 Try.call8 rfl rfl _ rfl [.pointer (some ⟨p, 0, none⟩), .slice ao3 1 cap3] rfl (put_full _ p w.heap.size ro rc q HP (by omega) ao3 cap3 [b]) ?_
  intro w3 G
  replace KC := G.has KC
  replace HP := HP.gro G
  replace GG := GG.trans G
  clear G
  refine nr ?_; intro U h; simp only [z0, z1] at h; subst h
  replace KC := KC
  refine s_val 34 rfl rfl (.bool false) (rfl) ?_
  refine nr ?_; intro U h; simp only [z0, z1] at h; subst h
  refine wpList_nil ?_
  refine then_n ?_
  refine wp_cond_false rfl ?_
  refine wp_skip ?_
  refine blk_n ?_
  refine then_n ?_
  refine wp_region_lit ?_
  refine s_val 44 rfl rfl (.int .i64 ((j + 1 : Nat) : Int)) (run_add64 _ _ _ rfl ((j : Nat) : Int) 1 _ rfl rfl (by omega) (by omega) (by omega) _) ?_
  refine nr ?_; intro U h; simp only [z0, z1] at h; subst h
  refine s_val 22 rfl rfl (.int .i64 ((j + 1 : Nat) : Int)) (rfl) ?_
  refine nr ?_; intro U h; simp only [z0, z1] at h; subst h
  refine wpList_nil ?_
  refine then_n ?_
  exact ⟨_, (by omega : ls.length - (j + 1) < ls.length - j), j + 1, ro, rc, q, (fun kz => ([.slice ao3 ((ls.getD j []).length) cap3, .bool true, .pointer (some (ad.add j)), .slice ao3 ((ls.getD j []).length) cap3, .slice ao3 ((ls.getD j []).length) cap3, .int .i64 (((ls.getD j []).length : Nat) : Int), .bool true, .bool true, .pointer (some ⟨p, 0, none⟩), .slice ao3 ((ls.getD j []).length) cap3, .slice ao3 1 cap3, .bool false, .bool false, us1 13, us1 14, us1 15, us1 16, us1 17, us1 18, us1 19, us1 20, us1 21, .int .i64 ((j + 1 : Nat) : Int)] : List Value).getD kz undef), rfl, rfl, hjn, h1, GG, HP, KC⟩
end Go.Proofs.Ytlonnbmkkmfmeaa
