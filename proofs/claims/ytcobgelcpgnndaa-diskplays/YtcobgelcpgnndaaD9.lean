/- Scripts of calls: their rows; with power for so many writes (DiskStops). -/
import Derived.Test.YtcobgelcpgnndaaD7
namespace Go.Proofs.Ytcobgelcpgnndaa
open Go.RowKit

theorem OB.gros {S : List Nat} {w w' : World} {e : TypeId} {k : IntKind} {B : Nat} {ao : Option Addr} {cap : Nat} {l : List Nat} (h : OB w e k B ao cap l) (G : GroS S w w') (hs : ∀ ad, ao = some ad → ad.block ∉ S) : OB w' e k B ao cap l := by
  refine ⟨⟨h.own.1, ?_⟩, h.wf⟩
  rcases h.own.2 with h1 | ⟨g, c, cur, h1, h2, h3, h4⟩
  · exact .inl h1
  · refine .inr ⟨g, c, cur, h1, h2, G.has h3 ?_, h4⟩
    injection h1 with e1 e2 e3
    exact hs _ e1

theorem blk_xn {w : World} {Q : Exit → Act → World → Prop} {i j : Nat} {a : Act} (hne : j ≠ i) (h : Q (.exit j) a w) : Exit.inBlock i Q (.exit j) a w := by
  simpa [Exit.inBlock, hne] using h
/-- A call of a script. -/
structure OpV where
  k : Int
  i : Int
  ao : Option Addr
  cap : Nat
  l : List Nat
def opC (o : OpV) : List Value := [.int .i64 o.k, .int .i64 o.i, .slice o.ao o.l.length o.cap]
theorem flat3 : ∀ (os : List OpV) (j : Nat) (o : OpV), os[j]? = some o → ((os.flatMap opC).drop (j * 3)).take 3 = opC o
  | x :: os, 0, o, h => by
    simp at h
    subst h
    simp [opC]
  | x :: os, j + 1, o, h => by
    simp only [List.getElem?_cons_succ] at h
    have := flat3 os j o h
    rw [List.flatMap_cons, Nat.add_mul, Nat.one_mul, Nat.add_comm, ← List.drop_drop]
    exact this
  | [], _, _, h => by simp at h
structure OC (w : World) (ao : Option Addr) (cap : Nat) (os : List OpV) : Prop where
  xc : XC w 3 ao cap os.length (os.flatMap opC)
  row : ∀ o ∈ os, NC w .u8 o.ao o.cap o.l
  num : ∀ o ∈ os, -9223372036854775808 ≤ o.i ∧ o.i < 9223372036854775808
  len : ∀ o ∈ os, o.l.length ≤ o.cap
theorem oT : RowT Try.prog 22 30 3 40 (.agg (c30 0 0 Sl.nil)) := ⟨Try.underlying22, info_of (by kernel_rfl), rfl, by decide⟩
theorem ld_op {w : World} {o : Oper} {A : Act} (x : Operand) (ho : o.op = .load 30 x) (ad : Addr) (j : Nat) (hx : A.eval x = .pointer (some (ad.add (j * 3)))) {cap : Nat} {os : List OpV} (h : XC w 3 (some ad) cap os.length (os.flatMap opC)) (q : OpV) (hq : os[j]? = some q) :
    (execOp A.eval o).run Try.prog w = .ok (.value (.agg (c30 q.k q.i ⟨q.ao, q.l.length, q.cap⟩))) w := by
  have hj := (List.getElem?_eq_some_iff.1 hq).1
  rw [run_ldX oT _ Try.underlying30 rfl x ho ad j hx w h hj, flat3 os j q hq]
  rfl
def browE (L : List Nat) : PostE := PostE.ex (fun v w => ∃ g, v = .slice (some ⟨g, 0, none⟩) L.length L.length ∧ w.heap[g]? = some (.cells (bv L) 5 (0, 0))) (fun _ _ _ G ⟨g, h, k⟩ => ⟨g, h, G.has k⟩)
theorem fill_brow (L : List Nat) (v : Value) : (browE L).fill v = v := rfl
theorem run_sub64w {P : Program} {o : Oper} {A : Act} (x y : Operand) (t2 : TypeId) (ho : o.op = .binOp .sub 3 x y t2) (a b : Int) (hx : A.eval x = .int .i64 a) (hy : A.eval y = .int .i64 b) (w : World) : (execOp A.eval o).run P w = .ok (.value (.int .i64 (IntKind.i64.wrap (a - b)))) w := by
  refine run_binop .sub 3 x y t2 ho _ _ _ hx hy (by simp [eqGuard]) ?_
  simp [go_sem]
/-- Power of the disk, and what is left of it as the law counts it, behind c writes. -/
def PwL (power : Int) (c : Nat) (lf pw : Int) : Prop :=
  (0 ≤ power ∧ lf = power - c ∧ pw = power - c ∧ (c : Int) ≤ power) ∨ (power < 0 ∧ pw = -1 ∧ (lf = power - c ∨ lf = power - c + 18446744073709551616))
theorem PwL.start {power : Int} : PwL power 0 power (max power (-1)) := by
  unfold PwL
  omega
theorem wrap_sub {a : Int} (h1 : -9223372036854775808 ≤ a) (h2 : a < 9223372036854775808) : IntKind.i64.wrap (a - 1) = if a = -9223372036854775808 then 9223372036854775807 else a - 1 := by
  by_cases h : a = -9223372036854775808
  · subst h
    rfl
  · rw [if_neg h]
    exact wrap_in _ (by omega) (by omega)
theorem PwL.next {power lf pw : Int} {c : Nat} (h : PwL power c lf pw) (h1 : -9223372036854775808 ≤ lf) (h2 : lf < 9223372036854775808) (h0 : lf ≠ 0) (hc : c ≤ 301) (hp : -9223372036854775808 ≤ power) : PwL power (c + 1) (IntKind.i64.wrap (lf - 1)) (if pw = -1 then -1 else pw - 1) := by
  rw [wrap_sub h1 h2]
  unfold PwL at *
  split <;> split <;> omega
theorem wrap_lo {a : Int} (h1 : -9223372036854775808 ≤ a) (h2 : a < 9223372036854775808) : -9223372036854775808 ≤ IntKind.i64.wrap (a - 1) ∧ IntKind.i64.wrap (a - 1) < 9223372036854775808 := by
  rw [wrap_sub h1 h2]
  split <;> omega
theorem ways (n : Nat) (i : Int) (m : Nat) : (hasB n i = false ∧ i < 0) ∨ (hasB n i = false ∧ 0 ≤ i ∧ (n : Int) ≤ i) ∨ (∃ j : Nat, i = (j : Int) ∧ j < n ∧ 64 < m) ∨ (∃ j : Nat, i = (j : Int) ∧ j < n ∧ m ≤ 64) := by
  cases hB : hasB n i
  · rcases hasB_f hB with h | ⟨h, h2⟩
    · exact .inl ⟨rfl, h⟩
    · exact .inr (.inl ⟨rfl, h, h2⟩)
  · obtain ⟨j, hj, hjn⟩ := hasB_nat hB
    by_cases hm : 64 < m
    · exact .inr (.inr (.inl ⟨j, hj, hjn, hm⟩))
    · exact .inr (.inr (.inr ⟨j, hj, hjn, by omega⟩))
theorem write_go (w : World) (p sg n : Nat) (L : List Nat) (pw dn : Int) (H : DK w p sg n L pw dn) (ao : Option Addr) (cap : Nat) (l : List Nat) (HB : BS [p, sg] w ao cap l) (i : Nat) (hi : i < n) (hl : l.length ≤ 64) (h1 : pw = -1 ∨ 0 < pw) (h2 : pw < 9223372036854775808) (hd : 0 ≤ dn) (hd2 : dn < 9223372036854775807) : Calls Try.prog 11 #[.pointer (some ⟨p, 0, none⟩), .int .i64 ((i : Nat) : Int), .slice ao l.length cap] w fun e w' => e = .returned (.int .i64 0) ∧ GroS [p, sg] w w' ∧ DK w' p sg n (wr L (i * 64) (padS l)) (if pw = -1 then -1 else pw - 1) (dn + 1) := by
  rcases h1 with h1 | h1
  · rw [if_pos h1]
    have := write_end w p sg n L pw dn H ao cap l HB i hi hl h1 hd hd2
    rwa [h1] at this
  · rw [if_neg (by omega)]
    exact write_ok w p sg n L pw dn H ao cap l HB i hi hl h1 h2 hd hd2
set_option maxRecDepth 100000 in
set_option maxHeartbeats 4000000 in
theorem diskStops_any (w : World) (sectors power : Int) (hpw : -9223372036854775808 ≤ power ∧ power < 9223372036854775808) (ao : Option Addr) (cap : Nat) (os : List OpV) (HO : OC w ao cap os) (hol : os.length ≤ 140737488355000) : Calls Try.prog 5 #[.int .i64 sectors, .int .i64 power, .slice ao os.length cap] w fun e w' => e = .returned (.bool true) ∧ Gro w w' := by
  refine s_enter Try.func5 rfl Try.ntmps5 [.int .i64 sectors, .int .i64 power, .slice ao os.length cap] [.int .i64 sectors, .int .i64 power, .slice ao os.length cap, undef, undef, undef, undef, undef, undef, undef, undef, undef, undef, undef, undef, undef, undef, undef, undef, undef, undef, undef, undef, undef, undef, undef, undef, undef, undef, undef, undef, undef, undef, undef, undef, undef, undef, undef, undef, undef, undef, undef, undef, undef, undef, undef, undef, undef, undef, undef, undef, undef, undef, undef, undef, undef, undef, undef, undef, undef, undef, undef, undef, undef, undef, undef, undef, undef, undef, undef, undef, undef, undef, undef, undef, undef, undef, undef, undef, undef, undef, undef, undef, undef, undef, undef, undef, undef, undef, undef, undef, undef, undef, undef, undef, undef, undef, undef, undef, undef] rfl ?_
  have GG := Gro.refl w
  have hpower := hpw
  refine wp_seq ?_
  refine wp_region_lit ?_
  refine s_val 6 rfl rfl (.bool false) (rfl) ?_
  refine nr ?_; intro U h; simp only [z0, z1] at h; subst h
  refine wpList_nil ?_
  refine then_n ?_
  refine wp_seq ?_
  refine wp_region_lit ?_
  refine s_val 14 rfl rfl (.int .i64 sectors) (rfl) ?_
  refine nr ?_; intro U h; simp only [z0, z1] at h; subst h
  refine s_callx 15 rfl rfl _ 8 Try.call8 rfl rfl _ rfl [.int .i64 sectors] rfl (new_any _ sectors) (fun _ _ ⟨_, _, he, _⟩ => ⟨_, he⟩) ?_
  rintro v w1 ⟨p, sg, he, G, bp, bsg, HD⟩
  cases he
  replace bp := Nat.le_trans GG.size bp
  replace bsg := Nat.le_trans GG.size bsg
  replace GG := GG.trans G
  clear G
  refine nr ?_; intro U h; simp only [z0, z1] at h; subst h
  refine s_val 7 rfl rfl (.pointer (some ⟨p, 0, none⟩)) (rfl) ?_
  refine nr ?_; intro U h; simp only [z0, z1] at h; subst h
  refine wpList_nil ?_
  refine then_n ?_
  refine wp_seq ?_
  refine wp_region_lit ?_
  refine s_val 16 rfl rfl (.int .i64 sectors) (rfl) ?_
  refine nr ?_; intro U h; simp only [z0, z1] at h; subst h
  have hlp := lt_of_heap HD.box
  have hls := lt_of_heap HD.sec
  refine s_callx 17 rfl rfl _ 9 Try.call9 rfl rfl _ rfl [.int .i64 sectors] rfl (rnew_any _ sectors) (fun _ _ ⟨_, _, he, _⟩ => ⟨_, he⟩) ?_
  rintro v w2 ⟨rp, rg, he, G, brp, brg, HR⟩
  cases he
  have hap1 : p ≠ rp ∧ p ≠ rg ∧ sg ≠ rp ∧ sg ≠ rg := by omega
  replace brp := Nat.le_trans GG.size brp
  replace brg := Nat.le_trans GG.size brg
  replace HD := HD.gro G
  replace GG := GG.trans G
  clear G
  refine nr ?_; intro U h; simp only [z0, z1] at h; subst h
  obtain ⟨n, hn⟩ : ∃ n, clN sectors = n := ⟨_, rfl⟩
  rw [hn] at HD HR
  have hn4 := HD.le
  refine s_val 8 rfl rfl (.pointer (some ⟨rp, 0, none⟩)) (rfl) ?_
  refine nr ?_; intro U h; simp only [z0, z1] at h; subst h
  refine wpList_nil ?_
  refine then_n ?_
  refine wp_seq ?_
  refine wp_seq ?_
  refine wp_region_opq ?_
  intro OPS hY
  have y2 := hY 2 20 rfl
  clear hY
  refine s_callv 18 rfl rfl _ 10 Try.call10 rfl rfl _ rfl [] rfl (fixed_true _) ?_
  intro w3 G
  replace HD := HD.gro G
  replace HR := HR.gro G
  replace GG := GG.trans G
  clear G
  refine nr ?_; intro U h; simp only [z0, z1] at h; subst h
  refine s_val 19 rfl rfl (.bool false) (run_nt _ _ rfl true rfl) ?_
  refine nr ?_; intro U h; simp only [z0, z1] at h; subst h
  refine s_val 20 rfl rfl (.bool false) (rfl) ?_
  refine nr ?_; intro U h; simp only [z0, z1] at h; subst h
  refine s_gvalY 21 rfl rfl y2 rfl (.pointer (some ⟨p, 0, none⟩)) (rfl) ?_
  refine nr ?_; intro U h; simp only [z0, z1] at h; subst h
  refine s_gvalY 22 rfl rfl y2 rfl (.bool false) (run_eqnp 23 _ _ _ rfl _ rfl rfl Try.underlying23 _) ?_
  refine nr ?_; intro U h; simp only [z0, z1] at h; subst h
  refine s_val 23 rfl rfl (.bool false) (rfl) ?_
  refine nr ?_; intro U h; simp only [z0, z1] at h; subst h
  refine wpList_nil ?_
  refine then_n ?_
  refine wp_cond_false rfl ?_
  refine wp_skip ?_
  refine then_n ?_
  refine wp_seq ?_
  refine wp_region_lit ?_
  refine s_val 24 rfl rfl (.pointer (some ⟨p, 0, none⟩)) (rfl) ?_
  refine nr ?_; intro U h; simp only [z0, z1] at h; subst h
  refine s_val 25 rfl rfl (.int .i64 power) (rfl) ?_
  refine nr ?_; intro U h; simp only [z0, z1] at h; subst h
  refine s_callx 26 rfl rfl _ 13 Try.call13 rfl rfl _ rfl [.pointer (some ⟨p, 0, none⟩), .int .i64 power] rfl (power_any _ p sg n _ _ _ HD power) (fun _ _ ⟨he, _⟩ => ⟨_, he⟩) ?_
  rintro v w4 ⟨he, G, HD2⟩
  cases he
  replace GG := G.gro GG (by simp; omega)
  replace HR := HR.gros G (by simp; omega) (by simp; omega)
  clear G HD
  have HD := HD2
  clear HD2
  refine nr ?_; intro U h; simp only [z0, z1] at h; subst h
  refine wpList_nil ?_
  refine then_n ?_
  refine wp_seq ?_
  refine wp_region_lit ?_
  refine s_val 27 rfl rfl (.int .i64 power) (rfl) ?_
  refine nr ?_; intro U h; simp only [z0, z1] at h; subst h
  refine s_val 9 rfl rfl (.int .i64 power) (rfl) ?_
  refine nr ?_; intro U h; simp only [z0, z1] at h; subst h
  refine wpList_nil ?_
  refine then_n ?_
  refine wp_seq ?_
  refine wp_seq ?_
  refine wp_region_lit ?_
  refine s_val 28 rfl rfl (.slice ao os.length cap) (rfl) ?_
  refine nr ?_; intro U h; simp only [z0, z1] at h; subst h
  refine s_val 29 rfl rfl (.int .i64 ((os.length : Nat) : Int)) (run_len Try.underlying22 _ rfl _ _ _ rfl _) ?_
  refine nr ?_; intro U h; simp only [z0, z1] at h; subst h
  refine s_val 30 rfl rfl (.int .i64 0) (rfl) ?_
  refine nr ?_; intro U h; simp only [z0, z1] at h; subst h
  refine wpList_nil ?_
  refine then_n ?_
  refine wp_block ?_
  refine wp_loopN (fun mz az wv => ∃ (j : Nat) (c : Nat) (lf : Int) (pw : Int) (L : List Nat) (us1 : Nat → Value), mz = os.length - j ∧ az = ⟨[.int .i64 sectors, .int .i64 power, .slice ao os.length cap, undef, undef, undef, us1 0, .pointer (some ⟨p, 0, none⟩), .pointer (some ⟨rp, 0, none⟩), .int .i64 lf, us1 1, us1 2, us1 3, us1 4, .int .i64 sectors, .pointer (some ⟨p, 0, none⟩), .int .i64 sectors, .pointer (some ⟨rp, 0, none⟩), .bool true, .bool false, .bool false, .pointer (some ⟨p, 0, none⟩), .bool false, .bool false, .pointer (some ⟨p, 0, none⟩), .int .i64 power, .tuple #[], .int .i64 power, .slice ao os.length cap, .int .i64 ((os.length : Nat) : Int), .int .i64 ((j : Nat) : Int), us1 5, us1 6, us1 7, us1 8, us1 9, us1 10, us1 11, us1 12, us1 13, us1 14, us1 15, us1 16, us1 17, us1 18, us1 19, us1 20, us1 21, us1 22, us1 23, us1 24, us1 25, us1 26, us1 27, us1 28, us1 29, us1 30, us1 31, us1 32, us1 33, us1 34, us1 35, us1 36, us1 37, us1 38, us1 39, us1 40, us1 41, us1 42, us1 43, us1 44, us1 45, us1 46, us1 47, us1 48, us1 49, us1 50, us1 51, us1 52, us1 53, us1 54, us1 55, us1 56, us1 57, us1 58, us1 59, us1 60, us1 61, us1 62, us1 63, us1 64, undef, undef, undef, undef, undef, undef, undef, undef, undef].toArray, []⟩ ∧ j ≤ os.length ∧ j ≤ 301 ∧ c ≤ j ∧ PwL power c lf pw ∧ (-9223372036854775808 ≤ lf ∧ lf < 9223372036854775808) ∧ Gro w wv ∧ DK wv p sg n L pw (c : Int) ∧ RK wv rp rg n L (-1) (c : Int)) ?_ _ ⟨0, 0, power, _, _, (fun k => ([.bool false, undef, undef, undef, undef, undef, undef, undef, undef, undef, undef, undef, undef, undef, undef, undef, undef, undef, undef, undef, undef, undef, undef, undef, undef, undef, undef, undef, undef, undef, undef, undef, undef, undef, undef, undef, undef, undef, undef, undef, undef, undef, undef, undef, undef, undef, undef, undef, undef, undef, undef, undef, undef, undef, undef, undef, undef, undef, undef, undef, undef, undef, undef, undef, undef] : List Value).getD k undef), rfl, rfl, Nat.zero_le _, Nat.zero_le _, Nat.le_refl _, PwL.start, hpower, GG, HD, HR⟩
  clear GG HD HR
  rintro mz az wv ⟨j, c, lf, pw, L, us1, rfl, rfl, hj, hj3, hc, hP, hlf, GG, HD, HR⟩
  refine wp_seq ?_
  refine wp_region_lit ?_
  obtain ⟨p1, hp1⟩ : ∃ p, decide (((j : Nat) : Int) < ((os.length : Nat) : Int)) = p := ⟨_, rfl⟩
  refine s_val 31 rfl rfl (.bool p1) (run_lssT 3 _ _ _ rfl ((j : Nat) : Int) ((os.length : Nat) : Int) rfl rfl p1 hp1 _) ?_
  refine nr ?_; intro U h; simp only [z0, z1] at h; subst h
  cases p1
  · refine wpList_nil ?_
    refine then_n ?_
    refine wp_seq ?_
    refine wp_cond_false rfl ?_
    refine wp_exit ?_
    refine then_x ?_
    refine then_x ?_
    refine blk_x ?_
    refine then_n ?_
    refine wp_seq ?_
    refine wp_region_exA (A := ?Ax1) 8 [(0, 91), (1, 92), (2, 93), (3, 94), (4, 95), (5, 96), (6, 97), (7, 98)] [.val (.pointer (some ⟨p, 0, none⟩)), browE L, .val (.string (bas L)), .val (.pointer (some ⟨rp, 0, none⟩)), .val (.pointer (some ⟨rp, 0, none⟩)), .val (.pointer (some ⟨rp, 0, none⟩)), .val (.slice (some ⟨rg, 0, none⟩) (n * 64) (n * 64)), .val (.string (bas L))] follows (by kernel_rfl) rfl ?hAx1 (opsA_cons ?o0x1 (opsA_cons ?o1x1 (opsA_cons ?o2x1 (opsA_cons ?o3x1 (opsA_cons ?o4x1 (opsA_cons ?o5x1 (opsA_cons ?o6x1 (opsA_cons ?o7x1 opsA_nil)))))))) ?restx1
    case hAx1 =>
      intro ptrs
      simp only [full, foldSlots, filledE, postE, List.foldl_cons, List.foldl_nil, List.getD_cons_zero, List.getD_cons_succ, fill_val, fill_brow, List.set_cons_zero, List.set_cons_succ]
      exact rfl
    case o0x1 => exact fun _ _ _ _ => opE_move (v := .pointer (some ⟨p, 0, none⟩)) _ rfl rfl rfl
    case o1x1 => exact fun _ _ hw _ => opE_call (browE L) rfl _ 18 Try.call18 rfl rfl _ rfl [.pointer (some ⟨p, 0, none⟩)] rfl ((bytes_len _ p sg n L pw c (HD.gro ((Gro.refl _).drew.trans hw))).mono fun e w' ⟨g, he, hg, _, hk⟩ => ⟨_, he, hg, g, rfl, hk⟩)
    case o2x1 =>
      intro ptrs w' hw hE
      obtain ⟨⟨gz, hz, oz⟩, _⟩ := hE
      exact opE_value (v := .string (bas L)) rfl (run_text_op bT 9 Try.underlying9 _ rfl (l := L) (by exact hz) (nc_all oz HD.byte))
    case o3x1 => exact fun _ _ _ _ => opE_move (v := .pointer (some ⟨rp, 0, none⟩)) _ rfl rfl rfl
    case o4x1 => exact fun _ _ hw _ => opE_value (v := .pointer (some ⟨rp, 0, none⟩)) rfl (run_nc _ rfl _ rfl)
    case o5x1 => exact fun _ _ hw _ => opE_value (v := .pointer (some ⟨rp, 0, none⟩)) rfl (run_fld 35 _ 0 rfl _ _ rfl _ (by kernel_rfl))
    case o6x1 => exact fun _ _ hw _ => opE_value (v := .slice (some ⟨rg, 0, none⟩) (n * 64) (n * 64)) rfl (run_ldc 28 _ rfl rp 0 rfl 35 _ ((HR.gro ((Gro.refl _).drew.trans hw)).box) (na28 _) _ rfl)
    case o7x1 => exact fun _ _ hw _ => opE_value (v := .string (bas L)) rfl (run_text_op bT 9 Try.underlying9 _ rfl (l := L) (cap := L.length) (by rw [HR.len]; rfl) (nc_all (HR.gro ((Gro.refl _).drew.trans hw)).sec HR.byte))
    intro ptrs w5 GD hxE
    simp only [List.drop_succ_cons, List.drop_zero]
    replace HD := HD.gro ((Gro.refl _).drew.trans GD)
    replace HR := HR.gro ((Gro.refl _).drew.trans GD)
    replace GG := GG.drew.trans GD
    clear GD
    refine s_val 99 rfl rfl (.bool true) (run_eqs_op _ _ _ rfl _ _ rfl rfl true (decide_eq_true rfl) _) ?_
    refine nr ?_; intro U h; simp only [z0, z1] at h; subst h
    refine s_val 6 rfl rfl (.bool true) (rfl) ?_
    refine nr ?_; intro U h; simp only [z0, z1] at h; subst h
    refine wpList_nil ?_
    refine then_n ?_
    refine wp_ret ?_
    refine bodyPost_ret (results_tmp Try.results5 _ _ _) rfl ?_
    exact ⟨rfl, GG⟩
  have hjn : j < os.length := by have := of_decide_eq_true hp1; omega
  obtain ⟨q, hq⟩ : ∃ q, os[j]? = some q := ⟨_, List.getElem?_eq_getElem hjn⟩
  have hqm := List.mem_of_getElem? hq
  obtain ⟨ad, hao⟩ := HO.xc.some (by omega)
  refine wpList_nil ?_
  refine then_n ?_
  refine wp_seq ?_
  refine wp_cond_true rfl ?_
  refine wp_skip ?_
  refine then_n ?_
  refine wp_seq ?_
  refine wp_block ?_
  refine wp_seq ?_
  refine wp_region_lit ?_
  refine s_val 32 rfl rfl (.int .i64 ((j : Nat) : Int)) (rfl) ?_
  refine nr ?_; intro U h; simp only [z0, z1] at h; subst h
  refine s_val 33 rfl rfl (.pointer (some (ad.add (j * 3)))) (run_idxX oT _ _ rfl ad os.length cap j (by exact congrArg (fun a => Value.slice a os.length cap) hao) rfl hjn _) ?_
  refine nr ?_; intro U h; simp only [z0, z1] at h; subst h
  refine s_val 34 rfl rfl (.agg (c30 q.k q.i ⟨q.ao, q.l.length, q.cap⟩)) (ld_op _ rfl ad j rfl (by rw [← hao]; exact HO.xc.gro GG) q hq) ?_
  refine nr ?_; intro U h; simp only [z0, z1] at h; subst h
  refine s_alloc 11 rfl rfl 30 rfl _ zv30 _ rfl ?_
  intro w5 g1 G eg1 kg1
  have bg1 := size_base GG eg1
  have dn0g1 := lt_new HD.box eg1
  have dn1g1 := lt_new HD.sec eg1
  have dn2g1 := lt_new HR.box eg1
  have dn3g1 := lt_new HR.sec eg1
  replace HD := HD.gro G
  replace HR := HR.gro G
  replace GG := GG.trans G
  clear G eg1
  refine nr ?_; intro U h; simp only [z0, z1] at h; subst h
  refine s_val 10 rfl rfl (.int .i64 ((j : Nat) : Int)) (rfl) ?_
  refine nr ?_; intro U h; simp only [z0, z1] at h; subst h
  refine s_store rfl rfl 30 _ _ rfl g1 0 rfl (.agg (c30 q.k q.i ⟨q.ao, q.l.length, q.cap⟩)) rfl 30 _ kg1 (c30 q.k q.i ⟨q.ao, q.l.length, q.cap⟩) rfl (by kernel_rfl) (Nat.le_of_ble_eq_true rfl) (by kernel_rfl) (c30 q.k q.i ⟨q.ao, q.l.length, q.cap⟩) (by kernel_rfl) ?_
  intro w7 St
  replace HD := HD.st St (by omega) (by omega)
  replace HR := HR.st St (by omega) (by omega)
  replace GG := GG.store St bg1
  replace kg1 := St.new
  clear St
  refine wpList_nil ?_
  refine then_n ?_
  refine wp_seq ?_
  refine wp_seq ?_
  refine wp_region_lit ?_
  refine s_val 35 rfl rfl (.int .i64 ((j : Nat) : Int)) (rfl) ?_
  refine nr ?_; intro U h; simp only [z0, z1] at h; subst h
  obtain ⟨p2, hp2⟩ : ∃ p, decide (300 < ((j : Nat) : Int)) = p := ⟨_, rfl⟩
  refine s_val 36 rfl rfl (.bool p2) (run_gtrT 3 _ _ _ rfl ((j : Nat) : Int) 300 rfl rfl p2 hp2 _) ?_
  refine nr ?_; intro U h; simp only [z0, z1] at h; subst h
  cases p2
  · have hj300 : j ≤ 300 := by have := of_decide_eq_false hp2; omega
    refine wpList_nil ?_
    refine then_n ?_
    refine wp_cond_false rfl ?_
    refine wp_skip ?_
    refine then_n ?_
    refine wp_seq ?_
    refine wp_region_lit ?_
    refine s_val 37 rfl rfl (.pointer (some ⟨p, 0, none⟩)) (rfl) ?_
    refine nr ?_; intro U h; simp only [z0, z1] at h; subst h
    refine s_val 38 rfl rfl (.pointer (some ⟨g1, 1, none⟩)) (run_fld 30 _ 1 rfl _ _ rfl _ (by kernel_rfl)) ?_
    refine nr ?_; intro U h; simp only [z0, z1] at h; subst h
    refine s_val 39 rfl rfl (.int .i64 q.i) (run_ldc 3 _ rfl g1 1 rfl 30 _ kg1 (na3 _) _ rfl) ?_
    refine nr ?_; intro U h; simp only [z0, z1] at h; subst h
    refine s_val 40 rfl rfl (.pointer (some ⟨g1, 2, none⟩)) (run_fld 30 _ 2 rfl _ _ rfl _ (by kernel_rfl)) ?_
    refine nr ?_; intro U h; simp only [z0, z1] at h; subst h
    refine s_val 41 rfl rfl (.slice q.ao q.l.length q.cap) (run_ldc 28 _ rfl g1 2 rfl 30 _ kg1 (na28 _) _ rfl) ?_
    refine nr ?_; intro U h; simp only [z0, z1] at h; subst h
    rcases ways n q.i q.l.length with ⟨hB, hi⟩ | ⟨hB, hi, hi2⟩ | ⟨i, hiq, hi, hl⟩ | ⟨i, hiq, hi, hl⟩
    · refine s_callv 42 rfl rfl _ 11 Try.call11 rfl rfl _ rfl [.pointer (some ⟨p, 0, none⟩), .int .i64 q.i, .slice q.ao q.l.length q.cap] rfl (write_bad _ p sg n L pw c HD q.ao q.cap q.l q.i hB) ?_
      intro w8 G
      replace kg1 := G.has kg1
      replace HD := HD.gro G
      replace HR := HR.gro G
      replace GG := GG.trans G
      clear G
      refine nr ?_; intro U h; simp only [z0, z1] at h; subst h
      refine s_val 12 rfl rfl (.int .i64 1) (rfl) ?_
      refine nr ?_; intro U h; simp only [z0, z1] at h; subst h
      refine wpList_nil ?_
      refine then_n ?_
      refine wp_seq ?_
      refine wp_region_exA (A := ?Ax2) 12 [(0, 43), (1, 44), (2, 45), (3, 46), (4, 47), (5, 48), (6, 49), (7, 50), (8, 51), (9, 52), (10, 53), (11, 54)] [.val (.pointer (some ⟨g1, 1, none⟩)), .val (.int .i64 q.i), .val (.bool false), .val (.bool false), .val undef, .val undef, .val undef, .val undef, .val undef, .val undef, .val undef, .val undef] follows (by kernel_rfl) rfl ?hAx2 (opsA_cons ?o0x2 (opsA_cons ?o1x2 (opsA_cons ?o2x2 (opsA_cons ?o3x2 (opsA_cons ?o4x2 (opsA_cons ?o5x2 (opsA_cons ?o6x2 (opsA_cons ?o7x2 (opsA_cons ?o8x2 (opsA_cons ?o9x2 (opsA_cons ?o10x2 (opsA_cons ?o11x2 opsA_nil)))))))))))) ?restx2
      case hAx2 =>
        intro ptrs
        simp only [full, foldSlots, filledE, postE, List.foldl_cons, List.foldl_nil, List.getD_cons_zero, List.getD_cons_succ, fill_val, List.set_cons_zero, List.set_cons_succ]
        exact rfl
      case o0x2 => exact fun _ _ hw _ => opE_value (v := .pointer (some ⟨g1, 1, none⟩)) rfl (run_fld 30 _ 1 rfl _ _ rfl _ (by kernel_rfl))
      case o1x2 => exact fun _ _ hw _ => opE_value (v := .int .i64 q.i) rfl (run_ldc 3 _ rfl g1 1 rfl 30 _ (hw.has kg1) (na3 _) _ rfl)
      case o2x2 => exact fun _ _ hw _ => opE_value (v := .bool false) rfl (run_geqT 3 _ _ _ rfl q.i 0 rfl rfl false (by first | exact decide_eq_true (by omega) | exact decide_eq_false (by omega)) _)
      case o3x2 => exact fun _ _ _ _ => opE_move (v := .bool false) _ rfl rfl rfl
      case o4x2 => exact fun _ _ _ _ => opE_skip rfl
      case o5x2 => exact fun _ _ _ _ => opE_skip rfl
      case o6x2 => exact fun _ _ _ _ => opE_skip rfl
      case o7x2 => exact fun _ _ _ _ => opE_skip rfl
      case o8x2 => exact fun _ _ _ _ => opE_skip rfl
      case o9x2 => exact fun _ _ _ _ => opE_skip rfl
      case o10x2 => exact fun _ _ _ _ => opE_skip rfl
      case o11x2 => exact fun _ _ _ _ => opE_skip rfl
      intro ptrs w9 GD hxE
      simp only [List.drop_succ_cons, List.drop_zero]
      replace kg1 := GD.has kg1
      replace HD := HD.gro ((Gro.refl _).drew.trans GD)
      replace HR := HR.gro ((Gro.refl _).drew.trans GD)
      replace GG := GG.drew.trans GD
      clear GD
      refine s_skip 55 rfl rfl ?_
      refine nr ?_; intro U h; simp only [z0, z1] at h; subst h
      refine s_val 56 rfl rfl (.bool false) (rfl) ?_
      refine nr ?_; intro U h; simp only [z0, z1] at h; subst h
      refine s_val 57 rfl rfl (.bool false) (rfl) ?_
      refine nr ?_; intro U h; simp only [z0, z1] at h; subst h
      refine s_skip 58 rfl rfl ?_
      refine nr ?_; intro U h; simp only [z0, z1] at h; subst h
      refine s_skip 59 rfl rfl ?_
      refine nr ?_; intro U h; simp only [z0, z1] at h; subst h
      refine s_skip 60 rfl rfl ?_
      refine nr ?_; intro U h; simp only [z0, z1] at h; subst h
      refine s_skip 61 rfl rfl ?_
      refine nr ?_; intro U h; simp only [z0, z1] at h; subst h
      refine s_val 62 rfl rfl (.bool false) (rfl) ?_
      refine nr ?_; intro U h; simp only [z0, z1] at h; subst h
      refine s_val 13 rfl rfl (.bool false) (rfl) ?_
      refine nr ?_; intro U h; simp only [z0, z1] at h; subst h
      refine wpList_nil ?_
      refine then_n ?_
      refine wp_block ?_
      refine wp_seq ?_
      refine wp_region_lit ?_
      refine s_val 77 rfl rfl (.bool false) (rfl) ?_
      refine nr ?_; intro U h; simp only [z0, z1] at h; subst h
      refine s_val 78 rfl rfl (.bool true) (run_nt _ _ rfl false rfl) ?_
      refine nr ?_; intro U h; simp only [z0, z1] at h; subst h
      refine s_val 76 rfl rfl (.bool true) (rfl) ?_
      refine nr ?_; intro U h; simp only [z0, z1] at h; subst h
      refine wpList_nil ?_
      refine then_n ?_
      refine wp_cond_true rfl ?_
      refine wp_seq ?_
      refine wp_region_opq ?_
      intro OPS hY
      have y2 := hY 2 81 rfl
      clear hY
      refine s_val 79 rfl rfl (.int .i64 1) (rfl) ?_
      refine nr ?_; intro U h; simp only [z0, z1] at h; subst h
      refine s_val 80 rfl rfl (.bool false) (run_neq_k 31 .i64 _ _ _ rfl Try.underlying31 _ _ rfl rfl false rfl _) ?_
      refine nr ?_; intro U h; simp only [z0, z1] at h; subst h
      refine s_val 81 rfl rfl (.bool false) (rfl) ?_
      refine nr ?_; intro U h; simp only [z0, z1] at h; subst h
      refine s_skipY 82 rfl rfl y2 rfl ?_
      refine nr ?_; intro U h; simp only [z0, z1] at h; subst h
      refine s_skipY 83 rfl rfl y2 rfl ?_
      refine nr ?_; intro U h; simp only [z0, z1] at h; subst h
      refine s_val 84 rfl rfl (.bool false) (rfl) ?_
      refine nr ?_; intro U h; simp only [z0, z1] at h; subst h
      refine wpList_nil ?_
      refine then_n ?_
      refine wp_cond_false rfl ?_
      refine wp_skip ?_
      refine blk_n ?_
      refine blk_n ?_
      refine then_n ?_
      refine wp_region_lit ?_
      refine s_val 90 rfl rfl (.int .i64 ((j + 1 : Nat) : Int)) (run_add64 _ _ _ rfl ((j : Nat) : Int) 1 _ rfl rfl (by omega) (by omega) (by omega) _) ?_
      refine nr ?_; intro U h; simp only [z0, z1] at h; subst h
      refine s_val 30 rfl rfl (.int .i64 ((j + 1 : Nat) : Int)) (rfl) ?_
      refine nr ?_; intro U h; simp only [z0, z1] at h; subst h
      refine wpList_nil ?_
      refine then_n ?_
      exact ⟨_, (by omega : os.length - (j + 1) < os.length - j), j + 1, c, _, _, _, (fun k => ([us1 0, .int .i64 ((j : Nat) : Int), .pointer (some ⟨g1, 0, none⟩), .int .i64 1, .bool false, .bool true, .int .i64 ((j : Nat) : Int), .pointer (some (ad.add (j * 3))), .agg (c30 q.k q.i ⟨q.ao, q.l.length, q.cap⟩), .int .i64 ((j : Nat) : Int), .bool false, .pointer (some ⟨p, 0, none⟩), .pointer (some ⟨g1, 1, none⟩), .int .i64 q.i, .pointer (some ⟨g1, 2, none⟩), .slice q.ao q.l.length q.cap, .int .i64 1, .pointer (some ⟨g1, 1, none⟩), .int .i64 q.i, .bool false, .bool false, undef, undef, undef, undef, undef, undef, undef, undef, undef, .bool false, .bool false, undef, undef, undef, undef, .bool false, us1 37, us1 38, us1 39, us1 40, us1 41, us1 42, us1 43, us1 44, us1 45, us1 46, us1 47, us1 48, us1 49, .bool true, .bool false, .bool true, .int .i64 1, .bool false, .bool false, undef, undef, .bool false, us1 59, us1 60, us1 61, us1 62, us1 63, .int .i64 ((j + 1 : Nat) : Int)] : List Value).getD k undef), rfl, rfl, (by omega), (by omega), (by omega), hP, hlf, GG, HD, HR⟩
    · refine s_callv 42 rfl rfl _ 11 Try.call11 rfl rfl _ rfl [.pointer (some ⟨p, 0, none⟩), .int .i64 q.i, .slice q.ao q.l.length q.cap] rfl (write_bad _ p sg n L pw c HD q.ao q.cap q.l q.i hB) ?_
      intro w8 G
      replace kg1 := G.has kg1
      replace HD := HD.gro G
      replace HR := HR.gro G
      replace GG := GG.trans G
      clear G
      refine nr ?_; intro U h; simp only [z0, z1] at h; subst h
      refine s_val 12 rfl rfl (.int .i64 1) (rfl) ?_
      refine nr ?_; intro U h; simp only [z0, z1] at h; subst h
      refine wpList_nil ?_
      refine then_n ?_
      refine wp_seq ?_
      refine wp_region_exA (A := ?Ax3) 12 [(0, 43), (1, 44), (2, 45), (3, 46), (4, 47), (5, 48), (6, 49), (7, 50), (8, 51), (9, 52), (10, 53), (11, 54)] [.val (.pointer (some ⟨g1, 1, none⟩)), .val (.int .i64 q.i), .val (.bool true), .val (.bool true), .val (.pointer (some ⟨g1, 1, none⟩)), .val (.int .i64 q.i), .val (.pointer (some ⟨rp, 0, none⟩)), .val (.pointer (some ⟨rp, 0, none⟩)), .val (.pointer (some ⟨rp, 0, none⟩)), .val (.slice (some ⟨rg, 0, none⟩) (n * 64) (n * 64)), .val (.int .i64 ((n * 64 : Nat) : Int)), .val (.int .i64 ((n : Nat) : Int))] follows (by kernel_rfl) rfl ?hAx3 (opsA_cons ?o0x3 (opsA_cons ?o1x3 (opsA_cons ?o2x3 (opsA_cons ?o3x3 (opsA_cons ?o4x3 (opsA_cons ?o5x3 (opsA_cons ?o6x3 (opsA_cons ?o7x3 (opsA_cons ?o8x3 (opsA_cons ?o9x3 (opsA_cons ?o10x3 (opsA_cons ?o11x3 opsA_nil)))))))))))) ?restx3
      case hAx3 =>
        intro ptrs
        simp only [full, foldSlots, filledE, postE, List.foldl_cons, List.foldl_nil, List.getD_cons_zero, List.getD_cons_succ, fill_val, List.set_cons_zero, List.set_cons_succ]
        exact rfl
      case o0x3 => exact fun _ _ hw _ => opE_value (v := .pointer (some ⟨g1, 1, none⟩)) rfl (run_fld 30 _ 1 rfl _ _ rfl _ (by kernel_rfl))
      case o1x3 => exact fun _ _ hw _ => opE_value (v := .int .i64 q.i) rfl (run_ldc 3 _ rfl g1 1 rfl 30 _ (hw.has kg1) (na3 _) _ rfl)
      case o2x3 => exact fun _ _ hw _ => opE_value (v := .bool true) rfl (run_geqT 3 _ _ _ rfl q.i 0 rfl rfl true (by first | exact decide_eq_true (by omega) | exact decide_eq_false (by omega)) _)
      case o3x3 => exact fun _ _ _ _ => opE_move (v := .bool true) _ rfl rfl rfl
      case o4x3 => exact fun _ _ hw _ => opE_value (v := .pointer (some ⟨g1, 1, none⟩)) rfl (run_fld 30 _ 1 rfl _ _ rfl _ (by kernel_rfl))
      case o5x3 => exact fun _ _ hw _ => opE_value (v := .int .i64 q.i) rfl (run_ldc 3 _ rfl g1 1 rfl 30 _ (hw.has kg1) (na3 _) _ rfl)
      case o6x3 => exact fun _ _ _ _ => opE_move (v := .pointer (some ⟨rp, 0, none⟩)) _ rfl rfl rfl
      case o7x3 => exact fun _ _ hw _ => opE_value (v := .pointer (some ⟨rp, 0, none⟩)) rfl (run_nc _ rfl _ rfl)
      case o8x3 => exact fun _ _ hw _ => opE_value (v := .pointer (some ⟨rp, 0, none⟩)) rfl (run_fld 35 _ 0 rfl _ _ rfl _ (by kernel_rfl))
      case o9x3 => exact fun _ _ hw _ => opE_value (v := .slice (some ⟨rg, 0, none⟩) (n * 64) (n * 64)) rfl (run_ldc 28 _ rfl rp 0 rfl 35 _ ((HR.gro ((Gro.refl _).drew.trans hw)).box) (na28 _) _ rfl)
      case o10x3 => exact fun _ _ hw _ => opE_value (v := .int .i64 ((n * 64 : Nat) : Int)) rfl (run_len Try.underlying28 _ rfl _ _ _ rfl _)
      case o11x3 => exact fun _ _ hw _ => opE_value (v := .int .i64 ((n : Nat) : Int)) rfl (run_quo64 _ _ _ rfl ((n * 64 : Nat) : Int) 64 _ rfl rfl (by decide) quoN (by omega) (by omega) _)
      intro ptrs w9 GD hxE
      simp only [List.drop_succ_cons, List.drop_zero]
      replace kg1 := GD.has kg1
      replace HD := HD.gro ((Gro.refl _).drew.trans GD)
      replace HR := HR.gro ((Gro.refl _).drew.trans GD)
      replace GG := GG.drew.trans GD
      clear GD
      refine s_gval 55 rfl rfl (.bool false) (run_lssT 3 _ _ _ rfl q.i ((n : Nat) : Int) rfl rfl false (by first | exact decide_eq_true (by omega) | exact decide_eq_false (by omega)) _) ?_
      refine nr ?_; intro U h; simp only [z0, z1] at h; subst h
      refine s_val 56 rfl rfl (.bool false) (rfl) ?_
      refine nr ?_; intro U h; simp only [z0, z1] at h; subst h
      refine s_val 57 rfl rfl (.bool false) (rfl) ?_
      refine nr ?_; intro U h; simp only [z0, z1] at h; subst h
      refine s_skip 58 rfl rfl ?_
      refine nr ?_; intro U h; simp only [z0, z1] at h; subst h
      refine s_skip 59 rfl rfl ?_
      refine nr ?_; intro U h; simp only [z0, z1] at h; subst h
      refine s_skip 60 rfl rfl ?_
      refine nr ?_; intro U h; simp only [z0, z1] at h; subst h
      refine s_skip 61 rfl rfl ?_
      refine nr ?_; intro U h; simp only [z0, z1] at h; subst h
      refine s_val 62 rfl rfl (.bool false) (rfl) ?_
      refine nr ?_; intro U h; simp only [z0, z1] at h; subst h
      refine s_val 13 rfl rfl (.bool false) (rfl) ?_
      refine nr ?_; intro U h; simp only [z0, z1] at h; subst h
      refine wpList_nil ?_
      refine then_n ?_
      refine wp_block ?_
      refine wp_seq ?_
      refine wp_region_lit ?_
      refine s_val 77 rfl rfl (.bool false) (rfl) ?_
      refine nr ?_; intro U h; simp only [z0, z1] at h; subst h
      refine s_val 78 rfl rfl (.bool true) (run_nt _ _ rfl false rfl) ?_
      refine nr ?_; intro U h; simp only [z0, z1] at h; subst h
      refine s_val 76 rfl rfl (.bool true) (rfl) ?_
      refine nr ?_; intro U h; simp only [z0, z1] at h; subst h
      refine wpList_nil ?_
      refine then_n ?_
      refine wp_cond_true rfl ?_
      refine wp_seq ?_
      refine wp_region_opq ?_
      intro OPS hY
      have y2 := hY 2 81 rfl
      clear hY
      refine s_val 79 rfl rfl (.int .i64 1) (rfl) ?_
      refine nr ?_; intro U h; simp only [z0, z1] at h; subst h
      refine s_val 80 rfl rfl (.bool false) (run_neq_k 31 .i64 _ _ _ rfl Try.underlying31 _ _ rfl rfl false rfl _) ?_
      refine nr ?_; intro U h; simp only [z0, z1] at h; subst h
      refine s_val 81 rfl rfl (.bool false) (rfl) ?_
      refine nr ?_; intro U h; simp only [z0, z1] at h; subst h
      refine s_skipY 82 rfl rfl y2 rfl ?_
      refine nr ?_; intro U h; simp only [z0, z1] at h; subst h
      refine s_skipY 83 rfl rfl y2 rfl ?_
      refine nr ?_; intro U h; simp only [z0, z1] at h; subst h
      refine s_val 84 rfl rfl (.bool false) (rfl) ?_
      refine nr ?_; intro U h; simp only [z0, z1] at h; subst h
      refine wpList_nil ?_
      refine then_n ?_
      refine wp_cond_false rfl ?_
      refine wp_skip ?_
      refine blk_n ?_
      refine blk_n ?_
      refine then_n ?_
      refine wp_region_lit ?_
      refine s_val 90 rfl rfl (.int .i64 ((j + 1 : Nat) : Int)) (run_add64 _ _ _ rfl ((j : Nat) : Int) 1 _ rfl rfl (by omega) (by omega) (by omega) _) ?_
      refine nr ?_; intro U h; simp only [z0, z1] at h; subst h
      refine s_val 30 rfl rfl (.int .i64 ((j + 1 : Nat) : Int)) (rfl) ?_
      refine nr ?_; intro U h; simp only [z0, z1] at h; subst h
      refine wpList_nil ?_
      refine then_n ?_
      exact ⟨_, (by omega : os.length - (j + 1) < os.length - j), j + 1, c, _, _, _, (fun k => ([us1 0, .int .i64 ((j : Nat) : Int), .pointer (some ⟨g1, 0, none⟩), .int .i64 1, .bool false, .bool true, .int .i64 ((j : Nat) : Int), .pointer (some (ad.add (j * 3))), .agg (c30 q.k q.i ⟨q.ao, q.l.length, q.cap⟩), .int .i64 ((j : Nat) : Int), .bool false, .pointer (some ⟨p, 0, none⟩), .pointer (some ⟨g1, 1, none⟩), .int .i64 q.i, .pointer (some ⟨g1, 2, none⟩), .slice q.ao q.l.length q.cap, .int .i64 1, .pointer (some ⟨g1, 1, none⟩), .int .i64 q.i, .bool true, .bool true, .pointer (some ⟨g1, 1, none⟩), .int .i64 q.i, .pointer (some ⟨rp, 0, none⟩), .pointer (some ⟨rp, 0, none⟩), .pointer (some ⟨rp, 0, none⟩), .slice (some ⟨rg, 0, none⟩) (n * 64) (n * 64), .int .i64 ((n * 64 : Nat) : Int), .int .i64 ((n : Nat) : Int), .bool false, .bool false, .bool false, undef, undef, undef, undef, .bool false, us1 37, us1 38, us1 39, us1 40, us1 41, us1 42, us1 43, us1 44, us1 45, us1 46, us1 47, us1 48, us1 49, .bool true, .bool false, .bool true, .int .i64 1, .bool false, .bool false, undef, undef, .bool false, us1 59, us1 60, us1 61, us1 62, us1 63, .int .i64 ((j + 1 : Nat) : Int)] : List Value).getD k undef), rfl, rfl, (by omega), (by omega), (by omega), hP, hlf, GG, HD, HR⟩
    · have HW := write_long _ p sg n L pw c HD q.ao q.cap q.l i hi hl
      rw [← hiq] at HW
      refine s_callv 42 rfl rfl _ 11 Try.call11 rfl rfl _ rfl [.pointer (some ⟨p, 0, none⟩), .int .i64 q.i, .slice q.ao q.l.length q.cap] rfl (HW) ?_
      intro w8 G
      replace kg1 := G.has kg1
      replace HD := HD.gro G
      replace HR := HR.gro G
      replace GG := GG.trans G
      clear G
      refine nr ?_; intro U h; simp only [z0, z1] at h; subst h
      clear HW
      refine s_val 12 rfl rfl (.int .i64 4) (rfl) ?_
      refine nr ?_; intro U h; simp only [z0, z1] at h; subst h
      refine wpList_nil ?_
      refine then_n ?_
      refine wp_seq ?_
      refine wp_region_exA (A := ?Ax4) 12 [(0, 43), (1, 44), (2, 45), (3, 46), (4, 47), (5, 48), (6, 49), (7, 50), (8, 51), (9, 52), (10, 53), (11, 54)] [.val (.pointer (some ⟨g1, 1, none⟩)), .val (.int .i64 q.i), .val (.bool true), .val (.bool true), .val (.pointer (some ⟨g1, 1, none⟩)), .val (.int .i64 q.i), .val (.pointer (some ⟨rp, 0, none⟩)), .val (.pointer (some ⟨rp, 0, none⟩)), .val (.pointer (some ⟨rp, 0, none⟩)), .val (.slice (some ⟨rg, 0, none⟩) (n * 64) (n * 64)), .val (.int .i64 ((n * 64 : Nat) : Int)), .val (.int .i64 ((n : Nat) : Int))] follows (by kernel_rfl) rfl ?hAx4 (opsA_cons ?o0x4 (opsA_cons ?o1x4 (opsA_cons ?o2x4 (opsA_cons ?o3x4 (opsA_cons ?o4x4 (opsA_cons ?o5x4 (opsA_cons ?o6x4 (opsA_cons ?o7x4 (opsA_cons ?o8x4 (opsA_cons ?o9x4 (opsA_cons ?o10x4 (opsA_cons ?o11x4 opsA_nil)))))))))))) ?restx4
      case hAx4 =>
        intro ptrs
        simp only [full, foldSlots, filledE, postE, List.foldl_cons, List.foldl_nil, List.getD_cons_zero, List.getD_cons_succ, fill_val, List.set_cons_zero, List.set_cons_succ]
        exact rfl
      case o0x4 => exact fun _ _ hw _ => opE_value (v := .pointer (some ⟨g1, 1, none⟩)) rfl (run_fld 30 _ 1 rfl _ _ rfl _ (by kernel_rfl))
      case o1x4 => exact fun _ _ hw _ => opE_value (v := .int .i64 q.i) rfl (run_ldc 3 _ rfl g1 1 rfl 30 _ (hw.has kg1) (na3 _) _ rfl)
      case o2x4 => exact fun _ _ hw _ => opE_value (v := .bool true) rfl (run_geqT 3 _ _ _ rfl q.i 0 rfl rfl true (by first | exact decide_eq_true (by omega) | exact decide_eq_false (by omega)) _)
      case o3x4 => exact fun _ _ _ _ => opE_move (v := .bool true) _ rfl rfl rfl
      case o4x4 => exact fun _ _ hw _ => opE_value (v := .pointer (some ⟨g1, 1, none⟩)) rfl (run_fld 30 _ 1 rfl _ _ rfl _ (by kernel_rfl))
      case o5x4 => exact fun _ _ hw _ => opE_value (v := .int .i64 q.i) rfl (run_ldc 3 _ rfl g1 1 rfl 30 _ (hw.has kg1) (na3 _) _ rfl)
      case o6x4 => exact fun _ _ _ _ => opE_move (v := .pointer (some ⟨rp, 0, none⟩)) _ rfl rfl rfl
      case o7x4 => exact fun _ _ hw _ => opE_value (v := .pointer (some ⟨rp, 0, none⟩)) rfl (run_nc _ rfl _ rfl)
      case o8x4 => exact fun _ _ hw _ => opE_value (v := .pointer (some ⟨rp, 0, none⟩)) rfl (run_fld 35 _ 0 rfl _ _ rfl _ (by kernel_rfl))
      case o9x4 => exact fun _ _ hw _ => opE_value (v := .slice (some ⟨rg, 0, none⟩) (n * 64) (n * 64)) rfl (run_ldc 28 _ rfl rp 0 rfl 35 _ ((HR.gro ((Gro.refl _).drew.trans hw)).box) (na28 _) _ rfl)
      case o10x4 => exact fun _ _ hw _ => opE_value (v := .int .i64 ((n * 64 : Nat) : Int)) rfl (run_len Try.underlying28 _ rfl _ _ _ rfl _)
      case o11x4 => exact fun _ _ hw _ => opE_value (v := .int .i64 ((n : Nat) : Int)) rfl (run_quo64 _ _ _ rfl ((n * 64 : Nat) : Int) 64 _ rfl rfl (by decide) quoN (by omega) (by omega) _)
      intro ptrs w9 GD hxE
      simp only [List.drop_succ_cons, List.drop_zero]
      replace kg1 := GD.has kg1
      replace HD := HD.gro ((Gro.refl _).drew.trans GD)
      replace HR := HR.gro ((Gro.refl _).drew.trans GD)
      replace GG := GG.drew.trans GD
      clear GD
      refine s_gval 55 rfl rfl (.bool true) (run_lssT 3 _ _ _ rfl q.i ((n : Nat) : Int) rfl rfl true (by first | exact decide_eq_true (by omega) | exact decide_eq_false (by omega)) _) ?_
      refine nr ?_; intro U h; simp only [z0, z1] at h; subst h
      refine s_val 56 rfl rfl (.bool true) (rfl) ?_
      refine nr ?_; intro U h; simp only [z0, z1] at h; subst h
      refine s_val 57 rfl rfl (.bool true) (rfl) ?_
      refine nr ?_; intro U h; simp only [z0, z1] at h; subst h
      refine s_gval 58 rfl rfl (.pointer (some ⟨g1, 2, none⟩)) (run_fld 30 _ 2 rfl _ _ rfl _ (by kernel_rfl)) ?_
      refine nr ?_; intro U h; simp only [z0, z1] at h; subst h
      refine s_gval 59 rfl rfl (.slice q.ao q.l.length q.cap) (run_ldc 28 _ rfl g1 2 rfl 30 _ kg1 (na28 _) _ rfl) ?_
      refine nr ?_; intro U h; simp only [z0, z1] at h; subst h
      refine s_gval 60 rfl rfl (.int .i64 ((q.l.length : Nat) : Int)) (run_len Try.underlying28 _ rfl _ _ _ rfl _) ?_
      refine nr ?_; intro U h; simp only [z0, z1] at h; subst h
      refine s_gval 61 rfl rfl (.bool false) (run_leqT 3 _ _ _ rfl ((q.l.length : Nat) : Int) 64 rfl rfl false (by first | exact decide_eq_true (by omega) | exact decide_eq_false (by omega)) _) ?_
      refine nr ?_; intro U h; simp only [z0, z1] at h; subst h
      refine s_val 62 rfl rfl (.bool false) (rfl) ?_
      refine nr ?_; intro U h; simp only [z0, z1] at h; subst h
      refine s_val 13 rfl rfl (.bool false) (rfl) ?_
      refine nr ?_; intro U h; simp only [z0, z1] at h; subst h
      refine wpList_nil ?_
      refine then_n ?_
      refine wp_block ?_
      refine wp_seq ?_
      refine wp_region_lit ?_
      refine s_val 77 rfl rfl (.bool false) (rfl) ?_
      refine nr ?_; intro U h; simp only [z0, z1] at h; subst h
      refine s_val 78 rfl rfl (.bool true) (run_nt _ _ rfl false rfl) ?_
      refine nr ?_; intro U h; simp only [z0, z1] at h; subst h
      refine s_val 76 rfl rfl (.bool true) (rfl) ?_
      refine nr ?_; intro U h; simp only [z0, z1] at h; subst h
      refine wpList_nil ?_
      refine then_n ?_
      refine wp_cond_true rfl ?_
      refine wp_seq ?_
      refine wp_region_opq ?_
      intro OPS hY
      have y2 := hY 2 81 rfl
      clear hY
      refine s_val 79 rfl rfl (.int .i64 4) (rfl) ?_
      refine nr ?_; intro U h; simp only [z0, z1] at h; subst h
      refine s_val 80 rfl rfl (.bool true) (run_neq_k 31 .i64 _ _ _ rfl Try.underlying31 _ _ rfl rfl true rfl _) ?_
      refine nr ?_; intro U h; simp only [z0, z1] at h; subst h
      refine s_val 81 rfl rfl (.bool true) (rfl) ?_
      refine nr ?_; intro U h; simp only [z0, z1] at h; subst h
      refine s_gvalY 82 rfl rfl y2 rfl (.int .i64 4) (rfl) ?_
      refine nr ?_; intro U h; simp only [z0, z1] at h; subst h
      refine s_gvalY 83 rfl rfl y2 rfl (.bool false) (run_neq_k 31 .i64 _ _ _ rfl Try.underlying31 _ _ rfl rfl false rfl _) ?_
      refine nr ?_; intro U h; simp only [z0, z1] at h; subst h
      refine s_val 84 rfl rfl (.bool false) (rfl) ?_
      refine nr ?_; intro U h; simp only [z0, z1] at h; subst h
      refine wpList_nil ?_
      refine then_n ?_
      refine wp_cond_false rfl ?_
      refine wp_skip ?_
      refine blk_n ?_
      refine blk_n ?_
      refine then_n ?_
      refine wp_region_lit ?_
      refine s_val 90 rfl rfl (.int .i64 ((j + 1 : Nat) : Int)) (run_add64 _ _ _ rfl ((j : Nat) : Int) 1 _ rfl rfl (by omega) (by omega) (by omega) _) ?_
      refine nr ?_; intro U h; simp only [z0, z1] at h; subst h
      refine s_val 30 rfl rfl (.int .i64 ((j + 1 : Nat) : Int)) (rfl) ?_
      refine nr ?_; intro U h; simp only [z0, z1] at h; subst h
      refine wpList_nil ?_
      refine then_n ?_
      exact ⟨_, (by omega : os.length - (j + 1) < os.length - j), j + 1, c, _, _, _, (fun k => ([us1 0, .int .i64 ((j : Nat) : Int), .pointer (some ⟨g1, 0, none⟩), .int .i64 4, .bool false, .bool true, .int .i64 ((j : Nat) : Int), .pointer (some (ad.add (j * 3))), .agg (c30 q.k q.i ⟨q.ao, q.l.length, q.cap⟩), .int .i64 ((j : Nat) : Int), .bool false, .pointer (some ⟨p, 0, none⟩), .pointer (some ⟨g1, 1, none⟩), .int .i64 q.i, .pointer (some ⟨g1, 2, none⟩), .slice q.ao q.l.length q.cap, .int .i64 4, .pointer (some ⟨g1, 1, none⟩), .int .i64 q.i, .bool true, .bool true, .pointer (some ⟨g1, 1, none⟩), .int .i64 q.i, .pointer (some ⟨rp, 0, none⟩), .pointer (some ⟨rp, 0, none⟩), .pointer (some ⟨rp, 0, none⟩), .slice (some ⟨rg, 0, none⟩) (n * 64) (n * 64), .int .i64 ((n * 64 : Nat) : Int), .int .i64 ((n : Nat) : Int), .bool true, .bool true, .bool true, .pointer (some ⟨g1, 2, none⟩), .slice q.ao q.l.length q.cap, .int .i64 ((q.l.length : Nat) : Int), .bool false, .bool false, us1 37, us1 38, us1 39, us1 40, us1 41, us1 42, us1 43, us1 44, us1 45, us1 46, us1 47, us1 48, us1 49, .bool true, .bool false, .bool true, .int .i64 4, .bool true, .bool true, .int .i64 4, .bool false, .bool false, us1 59, us1 60, us1 61, us1 62, us1 63, .int .i64 ((j + 1 : Nat) : Int)] : List Value).getD k undef), rfl, rfl, (by omega), (by omega), (by omega), hP, hlf, GG, HD, HR⟩
    by_cases h0 : lf = 0
    · have HW := write_down _ p sg n L pw c HD (by unfold PwL at hP; omega) q.ao q.cap q.l i hi hl
      rw [← hiq] at HW
      refine s_callv 42 rfl rfl _ 11 Try.call11 rfl rfl _ rfl [.pointer (some ⟨p, 0, none⟩), .int .i64 q.i, .slice q.ao q.l.length q.cap] rfl (HW) ?_
      intro w8 G
      replace kg1 := G.has kg1
      replace HD := HD.gro G
      replace HR := HR.gro G
      replace GG := GG.trans G
      clear G
      refine nr ?_; intro U h; simp only [z0, z1] at h; subst h
      clear HW
      refine s_val 12 rfl rfl (.int .i64 8) (rfl) ?_
      refine nr ?_; intro U h; simp only [z0, z1] at h; subst h
      refine wpList_nil ?_
      refine then_n ?_
      refine wp_seq ?_
      refine wp_region_exA (A := ?Ax5) 12 [(0, 43), (1, 44), (2, 45), (3, 46), (4, 47), (5, 48), (6, 49), (7, 50), (8, 51), (9, 52), (10, 53), (11, 54)] [.val (.pointer (some ⟨g1, 1, none⟩)), .val (.int .i64 q.i), .val (.bool true), .val (.bool true), .val (.pointer (some ⟨g1, 1, none⟩)), .val (.int .i64 q.i), .val (.pointer (some ⟨rp, 0, none⟩)), .val (.pointer (some ⟨rp, 0, none⟩)), .val (.pointer (some ⟨rp, 0, none⟩)), .val (.slice (some ⟨rg, 0, none⟩) (n * 64) (n * 64)), .val (.int .i64 ((n * 64 : Nat) : Int)), .val (.int .i64 ((n : Nat) : Int))] follows (by kernel_rfl) rfl ?hAx5 (opsA_cons ?o0x5 (opsA_cons ?o1x5 (opsA_cons ?o2x5 (opsA_cons ?o3x5 (opsA_cons ?o4x5 (opsA_cons ?o5x5 (opsA_cons ?o6x5 (opsA_cons ?o7x5 (opsA_cons ?o8x5 (opsA_cons ?o9x5 (opsA_cons ?o10x5 (opsA_cons ?o11x5 opsA_nil)))))))))))) ?restx5
      case hAx5 =>
        intro ptrs
        simp only [full, foldSlots, filledE, postE, List.foldl_cons, List.foldl_nil, List.getD_cons_zero, List.getD_cons_succ, fill_val, List.set_cons_zero, List.set_cons_succ]
        exact rfl
      case o0x5 => exact fun _ _ hw _ => opE_value (v := .pointer (some ⟨g1, 1, none⟩)) rfl (run_fld 30 _ 1 rfl _ _ rfl _ (by kernel_rfl))
      case o1x5 => exact fun _ _ hw _ => opE_value (v := .int .i64 q.i) rfl (run_ldc 3 _ rfl g1 1 rfl 30 _ (hw.has kg1) (na3 _) _ rfl)
      case o2x5 => exact fun _ _ hw _ => opE_value (v := .bool true) rfl (run_geqT 3 _ _ _ rfl q.i 0 rfl rfl true (by first | exact decide_eq_true (by omega) | exact decide_eq_false (by omega)) _)
      case o3x5 => exact fun _ _ _ _ => opE_move (v := .bool true) _ rfl rfl rfl
      case o4x5 => exact fun _ _ hw _ => opE_value (v := .pointer (some ⟨g1, 1, none⟩)) rfl (run_fld 30 _ 1 rfl _ _ rfl _ (by kernel_rfl))
      case o5x5 => exact fun _ _ hw _ => opE_value (v := .int .i64 q.i) rfl (run_ldc 3 _ rfl g1 1 rfl 30 _ (hw.has kg1) (na3 _) _ rfl)
      case o6x5 => exact fun _ _ _ _ => opE_move (v := .pointer (some ⟨rp, 0, none⟩)) _ rfl rfl rfl
      case o7x5 => exact fun _ _ hw _ => opE_value (v := .pointer (some ⟨rp, 0, none⟩)) rfl (run_nc _ rfl _ rfl)
      case o8x5 => exact fun _ _ hw _ => opE_value (v := .pointer (some ⟨rp, 0, none⟩)) rfl (run_fld 35 _ 0 rfl _ _ rfl _ (by kernel_rfl))
      case o9x5 => exact fun _ _ hw _ => opE_value (v := .slice (some ⟨rg, 0, none⟩) (n * 64) (n * 64)) rfl (run_ldc 28 _ rfl rp 0 rfl 35 _ ((HR.gro ((Gro.refl _).drew.trans hw)).box) (na28 _) _ rfl)
      case o10x5 => exact fun _ _ hw _ => opE_value (v := .int .i64 ((n * 64 : Nat) : Int)) rfl (run_len Try.underlying28 _ rfl _ _ _ rfl _)
      case o11x5 => exact fun _ _ hw _ => opE_value (v := .int .i64 ((n : Nat) : Int)) rfl (run_quo64 _ _ _ rfl ((n * 64 : Nat) : Int) 64 _ rfl rfl (by decide) quoN (by omega) (by omega) _)
      intro ptrs w9 GD hxE
      simp only [List.drop_succ_cons, List.drop_zero]
      replace kg1 := GD.has kg1
      replace HD := HD.gro ((Gro.refl _).drew.trans GD)
      replace HR := HR.gro ((Gro.refl _).drew.trans GD)
      replace GG := GG.drew.trans GD
      clear GD
      refine s_gval 55 rfl rfl (.bool true) (run_lssT 3 _ _ _ rfl q.i ((n : Nat) : Int) rfl rfl true (by first | exact decide_eq_true (by omega) | exact decide_eq_false (by omega)) _) ?_
      refine nr ?_; intro U h; simp only [z0, z1] at h; subst h
      refine s_val 56 rfl rfl (.bool true) (rfl) ?_
      refine nr ?_; intro U h; simp only [z0, z1] at h; subst h
      refine s_val 57 rfl rfl (.bool true) (rfl) ?_
      refine nr ?_; intro U h; simp only [z0, z1] at h; subst h
      refine s_gval 58 rfl rfl (.pointer (some ⟨g1, 2, none⟩)) (run_fld 30 _ 2 rfl _ _ rfl _ (by kernel_rfl)) ?_
      refine nr ?_; intro U h; simp only [z0, z1] at h; subst h
      refine s_gval 59 rfl rfl (.slice q.ao q.l.length q.cap) (run_ldc 28 _ rfl g1 2 rfl 30 _ kg1 (na28 _) _ rfl) ?_
      refine nr ?_; intro U h; simp only [z0, z1] at h; subst h
      refine s_gval 60 rfl rfl (.int .i64 ((q.l.length : Nat) : Int)) (run_len Try.underlying28 _ rfl _ _ _ rfl _) ?_
      refine nr ?_; intro U h; simp only [z0, z1] at h; subst h
      refine s_gval 61 rfl rfl (.bool true) (run_leqT 3 _ _ _ rfl ((q.l.length : Nat) : Int) 64 rfl rfl true (by first | exact decide_eq_true (by omega) | exact decide_eq_false (by omega)) _) ?_
      refine nr ?_; intro U h; simp only [z0, z1] at h; subst h
      refine s_val 62 rfl rfl (.bool true) (rfl) ?_
      refine nr ?_; intro U h; simp only [z0, z1] at h; subst h
      refine s_val 13 rfl rfl (.bool true) (rfl) ?_
      refine nr ?_; intro U h; simp only [z0, z1] at h; subst h
      refine wpList_nil ?_
      refine then_n ?_
      refine wp_block ?_
      refine wp_seq ?_
      refine wp_region_lit ?_
      refine s_val 77 rfl rfl (.bool true) (rfl) ?_
      refine nr ?_; intro U h; simp only [z0, z1] at h; subst h
      refine s_val 78 rfl rfl (.bool false) (run_nt _ _ rfl true rfl) ?_
      refine nr ?_; intro U h; simp only [z0, z1] at h; subst h
      refine s_val 76 rfl rfl (.bool false) (rfl) ?_
      refine nr ?_; intro U h; simp only [z0, z1] at h; subst h
      refine wpList_nil ?_
      refine then_n ?_
      refine wp_cond_false rfl ?_
      refine wp_seq ?_
      refine wp_region_lit ?_
      refine s_val 86 rfl rfl (.int .i64 lf) (rfl) ?_
      refine nr ?_; intro U h; simp only [z0, z1] at h; subst h
      refine s_val 87 rfl rfl (.bool true) (run_eq_k 3 .i64 _ _ _ rfl Try.underlying3 lf 0 rfl rfl true (by first | exact decide_eq_true (by omega) | exact decide_eq_false (by omega)) _) ?_
      refine nr ?_; intro U h; simp only [z0, z1] at h; subst h
      refine s_val 85 rfl rfl (.bool true) (rfl) ?_
      refine nr ?_; intro U h; simp only [z0, z1] at h; subst h
      refine wpList_nil ?_
      refine then_n ?_
      refine wp_cond_true rfl ?_
      refine wp_seq ?_
      refine wp_region_lit ?_
      refine s_val 88 rfl rfl (.int .i64 8) (rfl) ?_
      refine nr ?_; intro U h; simp only [z0, z1] at h; subst h
      refine s_val 89 rfl rfl (.bool false) (run_neq_k 31 .i64 _ _ _ rfl Try.underlying31 _ _ rfl rfl false rfl _) ?_
      refine nr ?_; intro U h; simp only [z0, z1] at h; subst h
      refine wpList_nil ?_
      refine then_n ?_
      refine wp_cond_false rfl ?_
      refine wp_skip ?_
      refine blk_n ?_
      refine blk_n ?_
      refine then_n ?_
      refine wp_region_lit ?_
      refine s_val 90 rfl rfl (.int .i64 ((j + 1 : Nat) : Int)) (run_add64 _ _ _ rfl ((j : Nat) : Int) 1 _ rfl rfl (by omega) (by omega) (by omega) _) ?_
      refine nr ?_; intro U h; simp only [z0, z1] at h; subst h
      refine s_val 30 rfl rfl (.int .i64 ((j + 1 : Nat) : Int)) (rfl) ?_
      refine nr ?_; intro U h; simp only [z0, z1] at h; subst h
      refine wpList_nil ?_
      refine then_n ?_
      exact ⟨_, (by omega : os.length - (j + 1) < os.length - j), j + 1, c, _, _, _, (fun k => ([us1 0, .int .i64 ((j : Nat) : Int), .pointer (some ⟨g1, 0, none⟩), .int .i64 8, .bool true, .bool true, .int .i64 ((j : Nat) : Int), .pointer (some (ad.add (j * 3))), .agg (c30 q.k q.i ⟨q.ao, q.l.length, q.cap⟩), .int .i64 ((j : Nat) : Int), .bool false, .pointer (some ⟨p, 0, none⟩), .pointer (some ⟨g1, 1, none⟩), .int .i64 q.i, .pointer (some ⟨g1, 2, none⟩), .slice q.ao q.l.length q.cap, .int .i64 8, .pointer (some ⟨g1, 1, none⟩), .int .i64 q.i, .bool true, .bool true, .pointer (some ⟨g1, 1, none⟩), .int .i64 q.i, .pointer (some ⟨rp, 0, none⟩), .pointer (some ⟨rp, 0, none⟩), .pointer (some ⟨rp, 0, none⟩), .slice (some ⟨rg, 0, none⟩) (n * 64) (n * 64), .int .i64 ((n * 64 : Nat) : Int), .int .i64 ((n : Nat) : Int), .bool true, .bool true, .bool true, .pointer (some ⟨g1, 2, none⟩), .slice q.ao q.l.length q.cap, .int .i64 ((q.l.length : Nat) : Int), .bool true, .bool true, us1 37, us1 38, us1 39, us1 40, us1 41, us1 42, us1 43, us1 44, us1 45, us1 46, us1 47, us1 48, us1 49, .bool false, .bool true, .bool false, us1 53, us1 54, us1 55, us1 56, us1 57, us1 58, .bool true, .int .i64 lf, .bool true, .int .i64 8, .bool false, .int .i64 ((j + 1 : Nat) : Int)] : List Value).getD k undef), rfl, rfl, (by omega), (by omega), (by omega), hP, hlf, GG, HD, HR⟩
    have hBS : BS [p, sg] _ q.ao q.cap q.l := ⟨(HO.row q hqm).gro GG, fun ad ha h0 => by have := (HO.row q hqm).lt ad ha h0; simp; omega⟩
    have hBR : ∀ ad, q.ao = some ad → 0 < q.l.length → ad.block ∉ [rp, rg] := fun ad ha h0 => by have := (HO.row q hqm).lt ad ha h0; simp; omega
    have HW := write_go _ p sg n L pw c HD q.ao q.cap q.l hBS i hi hl (by unfold PwL at hP; omega) (by unfold PwL at hP; omega) (by omega) (by omega)
    rw [← hiq] at HW
    refine s_callx 42 rfl rfl _ 11 Try.call11 rfl rfl _ rfl [.pointer (some ⟨p, 0, none⟩), .int .i64 q.i, .slice q.ao q.l.length q.cap] rfl (HW) (fun _ _ ⟨he, _⟩ => ⟨_, he⟩) ?_
    rintro v w8 ⟨he, G, HD2⟩
    cases he
    replace kg1 := G.has kg1 (by simp; omega)
    replace GG := G.gro GG (by simp; omega)
    replace HR := HR.gros G (by simp; omega) (by simp; omega)
    clear G HD HW hBS
    have HD := HD2
    clear HD2
    refine nr ?_; intro U h; simp only [z0, z1] at h; subst h
    have hP2 := hP.next hlf.1 hlf.2 h0 (by omega) hpw.1
    refine s_val 12 rfl rfl (.int .i64 0) (rfl) ?_
    refine nr ?_; intro U h; simp only [z0, z1] at h; subst h
    refine wpList_nil ?_
    refine then_n ?_
    refine wp_seq ?_
    refine wp_region_exA (A := ?Ax6) 12 [(0, 43), (1, 44), (2, 45), (3, 46), (4, 47), (5, 48), (6, 49), (7, 50), (8, 51), (9, 52), (10, 53), (11, 54)] [.val (.pointer (some ⟨g1, 1, none⟩)), .val (.int .i64 q.i), .val (.bool true), .val (.bool true), .val (.pointer (some ⟨g1, 1, none⟩)), .val (.int .i64 q.i), .val (.pointer (some ⟨rp, 0, none⟩)), .val (.pointer (some ⟨rp, 0, none⟩)), .val (.pointer (some ⟨rp, 0, none⟩)), .val (.slice (some ⟨rg, 0, none⟩) (n * 64) (n * 64)), .val (.int .i64 ((n * 64 : Nat) : Int)), .val (.int .i64 ((n : Nat) : Int))] follows (by kernel_rfl) rfl ?hAx6 (opsA_cons ?o0x6 (opsA_cons ?o1x6 (opsA_cons ?o2x6 (opsA_cons ?o3x6 (opsA_cons ?o4x6 (opsA_cons ?o5x6 (opsA_cons ?o6x6 (opsA_cons ?o7x6 (opsA_cons ?o8x6 (opsA_cons ?o9x6 (opsA_cons ?o10x6 (opsA_cons ?o11x6 opsA_nil)))))))))))) ?restx6
    case hAx6 =>
      intro ptrs
      simp only [full, foldSlots, filledE, postE, List.foldl_cons, List.foldl_nil, List.getD_cons_zero, List.getD_cons_succ, fill_val, List.set_cons_zero, List.set_cons_succ]
      exact rfl
    case o0x6 => exact fun _ _ hw _ => opE_value (v := .pointer (some ⟨g1, 1, none⟩)) rfl (run_fld 30 _ 1 rfl _ _ rfl _ (by kernel_rfl))
    case o1x6 => exact fun _ _ hw _ => opE_value (v := .int .i64 q.i) rfl (run_ldc 3 _ rfl g1 1 rfl 30 _ (hw.has kg1) (na3 _) _ rfl)
    case o2x6 => exact fun _ _ hw _ => opE_value (v := .bool true) rfl (run_geqT 3 _ _ _ rfl q.i 0 rfl rfl true (by first | exact decide_eq_true (by omega) | exact decide_eq_false (by omega)) _)
    case o3x6 => exact fun _ _ _ _ => opE_move (v := .bool true) _ rfl rfl rfl
    case o4x6 => exact fun _ _ hw _ => opE_value (v := .pointer (some ⟨g1, 1, none⟩)) rfl (run_fld 30 _ 1 rfl _ _ rfl _ (by kernel_rfl))
    case o5x6 => exact fun _ _ hw _ => opE_value (v := .int .i64 q.i) rfl (run_ldc 3 _ rfl g1 1 rfl 30 _ (hw.has kg1) (na3 _) _ rfl)
    case o6x6 => exact fun _ _ _ _ => opE_move (v := .pointer (some ⟨rp, 0, none⟩)) _ rfl rfl rfl
    case o7x6 => exact fun _ _ hw _ => opE_value (v := .pointer (some ⟨rp, 0, none⟩)) rfl (run_nc _ rfl _ rfl)
    case o8x6 => exact fun _ _ hw _ => opE_value (v := .pointer (some ⟨rp, 0, none⟩)) rfl (run_fld 35 _ 0 rfl _ _ rfl _ (by kernel_rfl))
    case o9x6 => exact fun _ _ hw _ => opE_value (v := .slice (some ⟨rg, 0, none⟩) (n * 64) (n * 64)) rfl (run_ldc 28 _ rfl rp 0 rfl 35 _ ((HR.gro ((Gro.refl _).drew.trans hw)).box) (na28 _) _ rfl)
    case o10x6 => exact fun _ _ hw _ => opE_value (v := .int .i64 ((n * 64 : Nat) : Int)) rfl (run_len Try.underlying28 _ rfl _ _ _ rfl _)
    case o11x6 => exact fun _ _ hw _ => opE_value (v := .int .i64 ((n : Nat) : Int)) rfl (run_quo64 _ _ _ rfl ((n * 64 : Nat) : Int) 64 _ rfl rfl (by decide) quoN (by omega) (by omega) _)
    intro ptrs w9 GD hxE
    simp only [List.drop_succ_cons, List.drop_zero]
    replace kg1 := GD.has kg1
    replace HD := HD.gro ((Gro.refl _).drew.trans GD)
    replace HR := HR.gro ((Gro.refl _).drew.trans GD)
    replace GG := GG.drew.trans GD
    clear GD
    refine s_gval 55 rfl rfl (.bool true) (run_lssT 3 _ _ _ rfl q.i ((n : Nat) : Int) rfl rfl true (by first | exact decide_eq_true (by omega) | exact decide_eq_false (by omega)) _) ?_
    refine nr ?_; intro U h; simp only [z0, z1] at h; subst h
    refine s_val 56 rfl rfl (.bool true) (rfl) ?_
    refine nr ?_; intro U h; simp only [z0, z1] at h; subst h
    refine s_val 57 rfl rfl (.bool true) (rfl) ?_
    refine nr ?_; intro U h; simp only [z0, z1] at h; subst h
    refine s_gval 58 rfl rfl (.pointer (some ⟨g1, 2, none⟩)) (run_fld 30 _ 2 rfl _ _ rfl _ (by kernel_rfl)) ?_
    refine nr ?_; intro U h; simp only [z0, z1] at h; subst h
    refine s_gval 59 rfl rfl (.slice q.ao q.l.length q.cap) (run_ldc 28 _ rfl g1 2 rfl 30 _ kg1 (na28 _) _ rfl) ?_
    refine nr ?_; intro U h; simp only [z0, z1] at h; subst h
    refine s_gval 60 rfl rfl (.int .i64 ((q.l.length : Nat) : Int)) (run_len Try.underlying28 _ rfl _ _ _ rfl _) ?_
    refine nr ?_; intro U h; simp only [z0, z1] at h; subst h
    refine s_gval 61 rfl rfl (.bool true) (run_leqT 3 _ _ _ rfl ((q.l.length : Nat) : Int) 64 rfl rfl true (by first | exact decide_eq_true (by omega) | exact decide_eq_false (by omega)) _) ?_
    refine nr ?_; intro U h; simp only [z0, z1] at h; subst h
    refine s_val 62 rfl rfl (.bool true) (rfl) ?_
    refine nr ?_; intro U h; simp only [z0, z1] at h; subst h
    refine s_val 13 rfl rfl (.bool true) (rfl) ?_
    refine nr ?_; intro U h; simp only [z0, z1] at h; subst h
    refine wpList_nil ?_
    refine then_n ?_
    refine wp_block ?_
    refine wp_seq ?_
    refine wp_region_lit ?_
    refine s_val 77 rfl rfl (.bool true) (rfl) ?_
    refine nr ?_; intro U h; simp only [z0, z1] at h; subst h
    refine s_val 78 rfl rfl (.bool false) (run_nt _ _ rfl true rfl) ?_
    refine nr ?_; intro U h; simp only [z0, z1] at h; subst h
    refine s_val 76 rfl rfl (.bool false) (rfl) ?_
    refine nr ?_; intro U h; simp only [z0, z1] at h; subst h
    refine wpList_nil ?_
    refine then_n ?_
    refine wp_cond_false rfl ?_
    refine wp_seq ?_
    refine wp_region_lit ?_
    refine s_val 86 rfl rfl (.int .i64 lf) (rfl) ?_
    refine nr ?_; intro U h; simp only [z0, z1] at h; subst h
    refine s_val 87 rfl rfl (.bool false) (run_eq_k 3 .i64 _ _ _ rfl Try.underlying3 lf 0 rfl rfl false (by first | exact decide_eq_true (by omega) | exact decide_eq_false (by omega)) _) ?_
    refine nr ?_; intro U h; simp only [z0, z1] at h; subst h
    refine s_val 85 rfl rfl (.bool false) (rfl) ?_
    refine nr ?_; intro U h; simp only [z0, z1] at h; subst h
    refine wpList_nil ?_
    refine then_n ?_
    refine wp_cond_false rfl ?_
    refine wp_seq ?_
    refine wp_seq ?_
    refine wp_region_opq ?_
    intro OPS hY
    have y2 := hY 2 65 rfl
    clear hY
    refine s_val 63 rfl rfl (.int .i64 0) (rfl) ?_
    refine nr ?_; intro U h; simp only [z0, z1] at h; subst h
    refine s_val 64 rfl rfl (.bool false) (run_neq_k 31 .i64 _ _ _ rfl Try.underlying31 _ _ rfl rfl false rfl _) ?_
    refine nr ?_; intro U h; simp only [z0, z1] at h; subst h
    refine s_val 65 rfl rfl (.bool false) (rfl) ?_
    refine nr ?_; intro U h; simp only [z0, z1] at h; subst h
    refine s_gvalY 66 rfl rfl y2 rfl (.pointer (some ⟨rp, 0, none⟩)) (rfl) ?_
    refine nr ?_; intro U h; simp only [z0, z1] at h; subst h
    refine s_gvalY 67 rfl rfl y2 rfl (.pointer (some ⟨g1, 1, none⟩)) (run_fld 30 _ 1 rfl _ _ rfl _ (by kernel_rfl)) ?_
    refine nr ?_; intro U h; simp only [z0, z1] at h; subst h
    refine s_gvalY 68 rfl rfl y2 rfl (.int .i64 q.i) (run_ldc 3 _ rfl g1 1 rfl 30 _ kg1 (na3 _) _ rfl) ?_
    refine nr ?_; intro U h; simp only [z0, z1] at h; subst h
    refine s_gvalY 69 rfl rfl y2 rfl (.pointer (some ⟨g1, 2, none⟩)) (run_fld 30 _ 2 rfl _ _ rfl _ (by kernel_rfl)) ?_
    refine nr ?_; intro U h; simp only [z0, z1] at h; subst h
    refine s_gvalY 70 rfl rfl y2 rfl (.slice q.ao q.l.length q.cap) (run_ldc 28 _ rfl g1 2 rfl 30 _ kg1 (na28 _) _ rfl) ?_
    refine nr ?_; intro U h; simp only [z0, z1] at h; subst h
    have HW := rwrite_end _ rp rg n L (-1) c HR q.ao q.cap q.l ⟨(HO.row q hqm).gro GG, hBR⟩ i hi hl rfl (by omega) (by omega)
    rw [← hiq] at HW
    refine s_gcallxY 71 rfl rfl y2 rfl _ 12 Try.call12 rfl rfl _ rfl [.pointer (some ⟨rp, 0, none⟩), .int .i64 q.i, .slice q.ao q.l.length q.cap] rfl (HW) (fun _ _ ⟨he, _⟩ => ⟨_, he⟩) ?_
    rintro v w10 ⟨he, G, HR2⟩
    cases he
    replace kg1 := G.has kg1 (by simp; omega)
    replace GG := G.gro GG (by simp; omega)
    replace HD := HD.gros G (by simp; omega) (by simp; omega)
    clear G HR HW
    have HR := HR2
    clear HR2
    refine nr ?_; intro U h; simp only [z0, z1] at h; subst h
    refine s_gvalY 72 rfl rfl y2 rfl (.bool false) (run_neq_k 31 .i64 _ _ _ rfl Try.underlying31 _ _ rfl rfl false rfl _) ?_
    refine nr ?_; intro U h; simp only [z0, z1] at h; subst h
    refine s_val 73 rfl rfl (.bool false) (rfl) ?_
    refine nr ?_; intro U h; simp only [z0, z1] at h; subst h
    refine wpList_nil ?_
    refine then_n ?_
    refine wp_cond_false rfl ?_
    refine wp_skip ?_
    refine then_n ?_
    refine wp_region_lit ?_
    refine s_val 74 rfl rfl (.int .i64 lf) (rfl) ?_
    refine nr ?_; intro U h; simp only [z0, z1] at h; subst h
    refine s_val 75 rfl rfl (.int .i64 (IntKind.i64.wrap (lf - 1))) (run_sub64w _ _ _ rfl lf 1 rfl rfl _) ?_
    refine nr ?_; intro U h; simp only [z0, z1] at h; subst h
    refine s_val 9 rfl rfl (.int .i64 (IntKind.i64.wrap (lf - 1))) (rfl) ?_
    refine nr ?_; intro U h; simp only [z0, z1] at h; subst h
    refine wpList_nil ?_
    refine blk_n ?_
    refine blk_n ?_
    refine then_n ?_
    refine wp_region_lit ?_
    refine s_val 90 rfl rfl (.int .i64 ((j + 1 : Nat) : Int)) (run_add64 _ _ _ rfl ((j : Nat) : Int) 1 _ rfl rfl (by omega) (by omega) (by omega) _) ?_
    refine nr ?_; intro U h; simp only [z0, z1] at h; subst h
    refine s_val 30 rfl rfl (.int .i64 ((j + 1 : Nat) : Int)) (rfl) ?_
    refine nr ?_; intro U h; simp only [z0, z1] at h; subst h
    refine wpList_nil ?_
    refine then_n ?_
    exact ⟨_, (by omega : os.length - (j + 1) < os.length - j), j + 1, c + 1, _, _, _, (fun k => ([us1 0, .int .i64 ((j : Nat) : Int), .pointer (some ⟨g1, 0, none⟩), .int .i64 0, .bool true, .bool true, .int .i64 ((j : Nat) : Int), .pointer (some (ad.add (j * 3))), .agg (c30 q.k q.i ⟨q.ao, q.l.length, q.cap⟩), .int .i64 ((j : Nat) : Int), .bool false, .pointer (some ⟨p, 0, none⟩), .pointer (some ⟨g1, 1, none⟩), .int .i64 q.i, .pointer (some ⟨g1, 2, none⟩), .slice q.ao q.l.length q.cap, .int .i64 0, .pointer (some ⟨g1, 1, none⟩), .int .i64 q.i, .bool true, .bool true, .pointer (some ⟨g1, 1, none⟩), .int .i64 q.i, .pointer (some ⟨rp, 0, none⟩), .pointer (some ⟨rp, 0, none⟩), .pointer (some ⟨rp, 0, none⟩), .slice (some ⟨rg, 0, none⟩) (n * 64) (n * 64), .int .i64 ((n * 64 : Nat) : Int), .int .i64 ((n : Nat) : Int), .bool true, .bool true, .bool true, .pointer (some ⟨g1, 2, none⟩), .slice q.ao q.l.length q.cap, .int .i64 ((q.l.length : Nat) : Int), .bool true, .bool true, .int .i64 0, .bool false, .bool false, .pointer (some ⟨rp, 0, none⟩), .pointer (some ⟨g1, 1, none⟩), .int .i64 q.i, .pointer (some ⟨g1, 2, none⟩), .slice q.ao q.l.length q.cap, .int .i64 0, .bool false, .bool false, .int .i64 lf, .int .i64 (IntKind.i64.wrap (lf - 1)), .bool false, .bool true, .bool false, us1 53, us1 54, us1 55, us1 56, us1 57, us1 58, .bool false, .int .i64 lf, .bool false, us1 62, us1 63, .int .i64 ((j + 1 : Nat) : Int)] : List Value).getD k undef), rfl, rfl, (by omega), (by omega), (by omega), hP2, wrap_lo hlf.1 hlf.2, GG, HD, HR⟩
  refine wpList_nil ?_
  refine then_n ?_
  refine wp_cond_true rfl ?_
  refine wp_exit ?_
  refine then_x ?_
  refine blk_xn (by decide) ?_
  refine then_x ?_
  refine then_x ?_
  refine blk_x ?_
  refine then_n ?_
  refine wp_seq ?_
  refine wp_region_exA (A := ?Ax7) 8 [(0, 91), (1, 92), (2, 93), (3, 94), (4, 95), (5, 96), (6, 97), (7, 98)] [.val (.pointer (some ⟨p, 0, none⟩)), browE L, .val (.string (bas L)), .val (.pointer (some ⟨rp, 0, none⟩)), .val (.pointer (some ⟨rp, 0, none⟩)), .val (.pointer (some ⟨rp, 0, none⟩)), .val (.slice (some ⟨rg, 0, none⟩) (n * 64) (n * 64)), .val (.string (bas L))] follows (by kernel_rfl) rfl ?hAx7 (opsA_cons ?o0x7 (opsA_cons ?o1x7 (opsA_cons ?o2x7 (opsA_cons ?o3x7 (opsA_cons ?o4x7 (opsA_cons ?o5x7 (opsA_cons ?o6x7 (opsA_cons ?o7x7 opsA_nil)))))))) ?restx7
  case hAx7 =>
    intro ptrs
    simp only [full, foldSlots, filledE, postE, List.foldl_cons, List.foldl_nil, List.getD_cons_zero, List.getD_cons_succ, fill_val, fill_brow, List.set_cons_zero, List.set_cons_succ]
    exact rfl
  case o0x7 => exact fun _ _ _ _ => opE_move (v := .pointer (some ⟨p, 0, none⟩)) _ rfl rfl rfl
  case o1x7 => exact fun _ _ hw _ => opE_call (browE L) rfl _ 18 Try.call18 rfl rfl _ rfl [.pointer (some ⟨p, 0, none⟩)] rfl ((bytes_len _ p sg n L pw c (HD.gro ((Gro.refl _).drew.trans hw))).mono fun e w' ⟨g, he, hg, _, hk⟩ => ⟨_, he, hg, g, rfl, hk⟩)
  case o2x7 =>
    intro ptrs w' hw hE
    obtain ⟨⟨gz, hz, oz⟩, _⟩ := hE
    exact opE_value (v := .string (bas L)) rfl (run_text_op bT 9 Try.underlying9 _ rfl (l := L) (by exact hz) (nc_all oz HD.byte))
  case o3x7 => exact fun _ _ _ _ => opE_move (v := .pointer (some ⟨rp, 0, none⟩)) _ rfl rfl rfl
  case o4x7 => exact fun _ _ hw _ => opE_value (v := .pointer (some ⟨rp, 0, none⟩)) rfl (run_nc _ rfl _ rfl)
  case o5x7 => exact fun _ _ hw _ => opE_value (v := .pointer (some ⟨rp, 0, none⟩)) rfl (run_fld 35 _ 0 rfl _ _ rfl _ (by kernel_rfl))
  case o6x7 => exact fun _ _ hw _ => opE_value (v := .slice (some ⟨rg, 0, none⟩) (n * 64) (n * 64)) rfl (run_ldc 28 _ rfl rp 0 rfl 35 _ ((HR.gro ((Gro.refl _).drew.trans hw)).box) (na28 _) _ rfl)
  case o7x7 => exact fun _ _ hw _ => opE_value (v := .string (bas L)) rfl (run_text_op bT 9 Try.underlying9 _ rfl (l := L) (cap := L.length) (by rw [HR.len]; rfl) (nc_all (HR.gro ((Gro.refl _).drew.trans hw)).sec HR.byte))
  intro ptrs w8 GD hxE
  simp only [List.drop_succ_cons, List.drop_zero]
  replace kg1 := GD.has kg1
  replace HD := HD.gro ((Gro.refl _).drew.trans GD)
  replace HR := HR.gro ((Gro.refl _).drew.trans GD)
  replace GG := GG.drew.trans GD
  clear GD
  refine s_val 99 rfl rfl (.bool true) (run_eqs_op _ _ _ rfl _ _ rfl rfl true (decide_eq_true rfl) _) ?_
  refine nr ?_; intro U h; simp only [z0, z1] at h; subst h
  refine s_val 6 rfl rfl (.bool true) (rfl) ?_
  refine nr ?_; intro U h; simp only [z0, z1] at h; subst h
  refine wpList_nil ?_
  refine then_n ?_
  refine wp_ret ?_
  refine bodyPost_ret (results_tmp Try.results5 _ _ _) rfl ?_
  exact ⟨rfl, GG⟩
end Go.Proofs.Ytcobgelcpgnndaa
