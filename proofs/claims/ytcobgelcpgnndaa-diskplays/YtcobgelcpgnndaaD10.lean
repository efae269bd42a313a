/- Every script of calls (DiskPlays). -/
import Derived.Test.YtcobgelcpgnndaaD9
namespace Go.Proofs.Ytcobgelcpgnndaa
open Go.RowKit

theorem DK.below {w w' : World} {p sg n B : Nat} {L : List Nat} {pw dn : Int} (h : DK w p sg n L pw dn) (G : Below B w w') (h1 : p < B) (h2 : sg < B) : DK w' p sg n L pw dn := ⟨by rw [G.block p h1]; exact h.box, by rw [G.block sg h2]; exact h.sec, h.len, h.le, h.byte, h.ne⟩
theorem RK.below {w w' : World} {p sg n B : Nat} {L : List Nat} {pw dn : Int} (h : RK w p sg n L pw dn) (G : Below B w w') (h1 : p < B) (h2 : sg < B) : RK w' p sg n L pw dn := ⟨by rw [G.block p h1]; exact h.box, by rw [G.block sg h2]; exact h.sec, h.len, h.le, h.byte, h.ne⟩
theorem below_has {w w' : World} {B g : Nat} {x : Obj} (G : Below B w w') (h : w.heap[g]? = some x) (hg : g < B) : w'.heap[g]? = some x := by rw [G.block g hg]; exact h
theorem run_nes_op {P : Program} {o : Oper} {A : Act} (x y : Operand) (t2 : TypeId) (ho : o.op = .binOp .neq 9 x y t2) (a b : ByteArray) (hx : A.eval x = .string a) (hy : A.eval y = .string b) (p : Bool) (hp : decide (a = b) = !p) (w : World) : (execOp A.eval o).run P w = .ok (.value (.bool p)) w :=
  run_binop .neq 9 x y t2 ho _ _ _ hx hy (by simp [eqGuard, go_sem]) (by
    have := str_eq a b
    rw [hp] at this
    simp [go_sem, this])
theorem read_len (w : World) (p sg n : Nat) (L : List Nat) (pw dn : Int) (H : DK w p sg n L pw dn) (i : Nat) (hi : i < n) : Calls Try.prog 14 #[.pointer (some ⟨p, 0, none⟩), .int .i64 ((i : Nat) : Int)] w fun e w' => ∃ g, e = .returned (.tuple #[.slice (some ⟨g, 0, none⟩) (secL L i).length (secL L i).length, .int .i64 0]) ∧ Gro w w' ∧ w.heap.size ≤ g ∧ w'.heap[g]? = some (.cells (bv (secL L i)) 5 (0, 0)) := by
  rw [secL_len H.len hi]
  exact read_ok w p sg n L pw dn H i hi
theorem rwrite_go (w : World) (p sg n : Nat) (L : List Nat) (pw dn : Int) (H : RK w p sg n L pw dn) (ao : Option Addr) (cap : Nat) (l : List Nat) (HB : BS [p, sg] w ao cap l) (i : Nat) (hi : i < n) (hl : l.length ≤ 64) (h1 : pw = -1 ∨ 0 < pw) (h2 : pw < 9223372036854775808) (hd : 0 ≤ dn) (hd2 : dn < 9223372036854775807) : Calls Try.prog 12 #[.pointer (some ⟨p, 0, none⟩), .int .i64 ((i : Nat) : Int), .slice ao l.length cap] w fun e w' => e = .returned (.int .i64 0) ∧ GroS [p, sg] w w' ∧ RK w' p sg n (wr L (i * 64) (padS l)) (if pw = -1 then -1 else pw - 1) (dn + 1) := by
  rcases h1 with h1 | h1
  · rw [if_pos h1]
    have := rwrite_end w p sg n L pw dn H ao cap l HB i hi hl h1 hd hd2
    rwa [h1] at this
  · rw [if_neg (by omega)]
    exact rwrite_ok w p sg n L pw dn H ao cap l HB i hi hl h1 h2 hd hd2
theorem has_or (n : Nat) (i : Int) : hasB n i = false ∨ ∃ j : Nat, i = (j : Int) ∧ j < n := by
  cases hB : hasB n i
  · exact .inl rfl
  · exact .inr (hasB_nat hB)
def okP (pw : Int) : Prop := -1 ≤ pw ∧ pw < 9223372036854775808
theorem okP.next {pw : Int} (h : okP pw) (_h0 : pw ≠ 0) : okP (if pw = -1 then -1 else pw - 1) := by
  unfold okP at *
  split <;> omega
theorem okP.set {x : Int} (h : x < 9223372036854775808) : okP (max x (-1)) := by
  unfold okP
  omega
set_option maxRecDepth 100000 in
set_option maxHeartbeats 4000000 in
theorem diskPlays_any (w : World) (sectors : Int) (ao : Option Addr) (cap : Nat) (os : List OpV) (HO : OC w ao cap os) (hol : os.length ≤ 140737488355000) (hlens : ∀ o ∈ os, o.l.length ≤ 140737488355000) : Calls Try.prog 3 #[.int .i64 sectors, .slice ao os.length cap] w fun e w' => e = .returned (.bool true) ∧ Gro w w' := by
  refine s_enter Try.func3 rfl Try.ntmps3 [.int .i64 sectors, .slice ao os.length cap] [.int .i64 sectors, .slice ao os.length cap, undef, undef, undef, undef, undef, undef, undef, undef, undef, undef, undef, undef, undef, undef, undef, undef, undef, undef, undef, undef, undef, undef, undef, undef, undef, undef, undef, undef, undef, undef, undef, undef, undef, undef, undef, undef, undef, undef, undef, undef, undef, undef, undef, undef, undef, undef, undef, undef, undef, undef, undef, undef, undef, undef, undef, undef, undef, undef, undef, undef, undef, undef, undef, undef, undef, undef, undef, undef, undef, undef, undef, undef, undef, undef, undef, undef, undef, undef, undef, undef, undef, undef, undef, undef, undef, undef, undef, undef, undef, undef, undef, undef, undef, undef, undef, undef, undef, undef, undef, undef, undef, undef, undef, undef, undef, undef, undef, undef, undef, undef, undef, undef, undef, undef, undef, undef, undef, undef, undef, undef, undef, undef, undef, undef, undef, undef, undef, undef, undef, undef, undef, undef, undef, undef, undef, undef, undef, undef, undef, undef, undef, undef, undef, undef, undef, undef, undef, undef, undef, undef, undef] rfl ?_
  have GG := Gro.refl w
  refine wp_seq ?_
  refine wp_region_lit ?_
  refine s_val 4 rfl rfl (.bool false) (rfl) ?_
  refine nr ?_; intro U h; simp only [z0, z1] at h; subst h
  refine wpList_nil ?_
  refine then_n ?_
  refine wp_seq ?_
  refine wp_region_lit ?_
  refine s_val 17 rfl rfl (.int .i64 sectors) (rfl) ?_
  refine nr ?_; intro U h; simp only [z0, z1] at h; subst h
  refine s_callx 18 rfl rfl _ 8 Try.call8 rfl rfl _ rfl [.int .i64 sectors] rfl (new_any _ sectors) (fun _ _ ⟨_, _, he, _⟩ => ⟨_, he⟩) ?_
  rintro v w1 ⟨p, sg, he, G, bp, bsg, HD⟩
  cases he
  replace bp := Nat.le_trans GG.size bp
  replace bsg := Nat.le_trans GG.size bsg
  replace GG := GG.trans G
  clear G
  refine nr ?_; intro U h; simp only [z0, z1] at h; subst h
  refine s_val 5 rfl rfl (.pointer (some ⟨p, 0, none⟩)) (rfl) ?_
  refine nr ?_; intro U h; simp only [z0, z1] at h; subst h
  refine wpList_nil ?_
  refine then_n ?_
  refine wp_seq ?_
  refine wp_region_lit ?_
  refine s_val 19 rfl rfl (.int .i64 sectors) (rfl) ?_
  refine nr ?_; intro U h; simp only [z0, z1] at h; subst h
  have hlp := lt_of_heap HD.box
  have hls := lt_of_heap HD.sec
  refine s_callx 20 rfl rfl _ 9 Try.call9 rfl rfl _ rfl [.int .i64 sectors] rfl (rnew_any _ sectors) (fun _ _ ⟨_, _, he, _⟩ => ⟨_, he⟩) ?_
  rintro v w2 ⟨rp, rg, he, G, brp, brg, HR⟩
  cases he
  have hap1 : p ≠ rp ∧ p ≠ rg ∧ sg ≠ rp ∧ sg ≠ rg := by omega
  replace brp := Nat.le_trans GG.size brp
  replace brg := Nat.le_trans GG.size brg
  replace HD := HD.gro G
  replace GG := GG.trans G
  clear G
  refine nr ?_; intro U h; simp only [z0, z1] at h; subst h
  obtain ⟨n, hn⟩ : ∃ n, clN sectors = n := ⟨_, rfl⟩
  rw [hn] at HD HR
  have hn4 := HD.le
  refine s_val 6 rfl rfl (.pointer (some ⟨rp, 0, none⟩)) (rfl) ?_
  refine nr ?_; intro U h; simp only [z0, z1] at h; subst h
  refine wpList_nil ?_
  refine then_n ?_
  refine wp_seq ?_
  refine wp_seq ?_
  refine wp_region_opq ?_
  intro OPS hY
  have y2 := hY 2 23 rfl
  clear hY
  refine s_callv 21 rfl rfl _ 10 Try.call10 rfl rfl _ rfl [] rfl (fixed_true _) ?_
  intro w3 G
  replace HD := HD.gro G
  replace HR := HR.gro G
  replace GG := GG.trans G
  clear G
  refine nr ?_; intro U h; simp only [z0, z1] at h; subst h
  refine s_val 22 rfl rfl (.bool false) (run_nt _ _ rfl true rfl) ?_
  refine nr ?_; intro U h; simp only [z0, z1] at h; subst h
  refine s_val 23 rfl rfl (.bool false) (rfl) ?_
  refine nr ?_; intro U h; simp only [z0, z1] at h; subst h
  refine s_gvalY 24 rfl rfl y2 rfl (.pointer (some ⟨p, 0, none⟩)) (rfl) ?_
  refine nr ?_; intro U h; simp only [z0, z1] at h; subst h
  refine s_gvalY 25 rfl rfl y2 rfl (.bool false) (run_eqnp 23 _ _ _ rfl _ rfl rfl Try.underlying23 _) ?_
  refine nr ?_; intro U h; simp only [z0, z1] at h; subst h
  refine s_val 26 rfl rfl (.bool false) (rfl) ?_
  refine nr ?_; intro U h; simp only [z0, z1] at h; subst h
  refine wpList_nil ?_
  refine then_n ?_
  refine wp_cond_false rfl ?_
  refine wp_skip ?_
  refine then_n ?_
  refine wp_seq ?_
  refine wp_seq ?_
  refine wp_region_lit ?_
  refine s_val 27 rfl rfl (.slice ao os.length cap) (rfl) ?_
  refine nr ?_; intro U h; simp only [z0, z1] at h; subst h
  refine s_val 28 rfl rfl (.int .i64 ((os.length : Nat) : Int)) (run_len Try.underlying22 _ rfl _ _ _ rfl _) ?_
  refine nr ?_; intro U h; simp only [z0, z1] at h; subst h
  refine s_val 29 rfl rfl (.int .i64 0) (rfl) ?_
  refine nr ?_; intro U h; simp only [z0, z1] at h; subst h
  refine wpList_nil ?_
  refine then_n ?_
  refine wp_block ?_
  refine wp_loopN (fun mz az wv => ∃ (j : Nat) (c : Nat) (pw : Int) (L : List Nat) (us1 : Nat → Value), mz = os.length - j ∧ az = ⟨[.int .i64 sectors, .slice ao os.length cap, undef, undef, us1 0, .pointer (some ⟨p, 0, none⟩), .pointer (some ⟨rp, 0, none⟩), us1 1, us1 2, us1 3, us1 4, us1 5, us1 6, us1 7, us1 8, us1 9, us1 10, .int .i64 sectors, .pointer (some ⟨p, 0, none⟩), .int .i64 sectors, .pointer (some ⟨rp, 0, none⟩), .bool true, .bool false, .bool false, .pointer (some ⟨p, 0, none⟩), .bool false, .bool false, .slice ao os.length cap, .int .i64 ((os.length : Nat) : Int), .int .i64 ((j : Nat) : Int), us1 11, us1 12, us1 13, us1 14, us1 15, us1 16, us1 17, us1 18, us1 19, us1 20, us1 21, us1 22, us1 23, us1 24, us1 25, us1 26, us1 27, us1 28, us1 29, us1 30, us1 31, us1 32, us1 33, us1 34, us1 35, us1 36, us1 37, us1 38, us1 39, us1 40, us1 41, us1 42, us1 43, us1 44, us1 45, us1 46, us1 47, us1 48, us1 49, us1 50, us1 51, us1 52, us1 53, us1 54, us1 55, us1 56, us1 57, us1 58, us1 59, us1 60, us1 61, us1 62, us1 63, us1 64, us1 65, us1 66, us1 67, us1 68, us1 69, us1 70, us1 71, us1 72, us1 73, us1 74, us1 75, us1 76, us1 77, us1 78, us1 79, us1 80, us1 81, us1 82, us1 83, us1 84, us1 85, us1 86, us1 87, us1 88, us1 89, us1 90, us1 91, us1 92, us1 93, us1 94, us1 95, us1 96, us1 97, us1 98, us1 99, us1 100, us1 101, us1 102, us1 103, us1 104, us1 105, us1 106, us1 107, us1 108, us1 109, us1 110, us1 111, us1 112, us1 113, us1 114, us1 115, us1 116, us1 117, us1 118, us1 119, us1 120, us1 121, us1 122, us1 123, us1 124, undef, undef, undef, undef, undef, undef, undef, undef, undef].toArray, []⟩ ∧ j ≤ os.length ∧ j ≤ 301 ∧ c ≤ j ∧ okP pw ∧ Gro w wv ∧ DK wv p sg n L pw (c : Int) ∧ RK wv rp rg n L pw (c : Int)) ?_ _ ⟨0, 0, _, _, (fun kz => ([.bool false, undef, undef, undef, undef, undef, undef, undef, undef, undef, undef, undef, undef, undef, undef, undef, undef, undef, undef, undef, undef, undef, undef, undef, undef, undef, undef, undef, undef, undef, undef, undef, undef, undef, undef, undef, undef, undef, undef, undef, undef, undef, undef, undef, undef, undef, undef, undef, undef, undef, undef, undef, undef, undef, undef, undef, undef, undef, undef, undef, undef, undef, undef, undef, undef, undef, undef, undef, undef, undef, undef, undef, undef, undef, undef, undef, undef, undef, undef, undef, undef, undef, undef, undef, undef, undef, undef, undef, undef, undef, undef, undef, undef, undef, undef, undef, undef, undef, undef, undef, undef, undef, undef, undef, undef, undef, undef, undef, undef, undef, undef, undef, undef, undef, undef, undef, undef, undef, undef, undef, undef, undef, undef, undef, undef] : List Value).getD kz undef), rfl, rfl, Nat.zero_le _, Nat.zero_le _, Nat.le_refl _, (by unfold okP; omega), GG, HD, HR⟩
  clear GG HD HR
  rintro mz az wv ⟨j, c, pw, L, us1, rfl, rfl, hj, hj3, hc, hP, GG, HD, HR⟩
  refine wp_seq ?_
  refine wp_region_lit ?_
  obtain ⟨p1, hp1⟩ : ∃ p, decide (((j : Nat) : Int) < ((os.length : Nat) : Int)) = p := ⟨_, rfl⟩
  refine s_val 30 rfl rfl (.bool p1) (run_lssT 3 _ _ _ rfl ((j : Nat) : Int) ((os.length : Nat) : Int) rfl rfl p1 hp1 _) ?_
  refine nr ?_; intro U h; simp only [z0, z1] at h; subst h
  cases p1
  · refine wpList_nil ?_
    refine then_n ?_
    refine wp_seq ?_
    refine wp_cond_false rfl ?_
    refine wp_exit ?_
    refine then_x ?_
    refine then_x ?_
    refine blk_x ?_
    refine then_n ?_
    refine wp_seq ?_
    refine wp_region_exA (A := ?Ax1) 8 [(0, 144), (1, 145), (2, 146), (3, 147), (4, 148), (5, 149), (6, 150), (7, 151)] [.val (.pointer (some ⟨p, 0, none⟩)), browE L, .val (.string (bas L)), .val (.pointer (some ⟨rp, 0, none⟩)), .val (.pointer (some ⟨rp, 0, none⟩)), .val (.pointer (some ⟨rp, 0, none⟩)), .val (.slice (some ⟨rg, 0, none⟩) (n * 64) (n * 64)), .val (.string (bas L))] follows (by kernel_rfl) rfl ?hAx1 (opsA_cons ?o0x1 (opsA_cons ?o1x1 (opsA_cons ?o2x1 (opsA_cons ?o3x1 (opsA_cons ?o4x1 (opsA_cons ?o5x1 (opsA_cons ?o6x1 (opsA_cons ?o7x1 opsA_nil)))))))) ?restx1
    case hAx1 =>
      intro ptrs
      simp only [full, foldSlots, filledE, postE, List.foldl_cons, List.foldl_nil, List.getD_cons_zero, List.getD_cons_succ, fill_val, fill_brow, List.set_cons_zero, List.set_cons_succ]
      exact rfl
    case o0x1 => exact fun _ _ _ _ => opE_move (v := .pointer (some ⟨p, 0, none⟩)) _ rfl rfl rfl
    case o1x1 => exact fun _ _ hw _ => opE_call (browE L) rfl _ 18 Try.call18 rfl rfl _ rfl [.pointer (some ⟨p, 0, none⟩)] rfl ((bytes_len _ p sg n L pw c (HD.gro ((Gro.refl _).drew.trans hw))).mono fun e w' ⟨g, he, hg, _, hk⟩ => ⟨_, he, hg, g, rfl, hk⟩)
    case o2x1 =>
      intro ptrs w' hw hE
      obtain ⟨⟨gz, hz, oz⟩, _⟩ := hE
      exact opE_value (v := .string (bas L)) rfl (run_text_op bT 9 Try.underlying9 _ rfl (l := L) (by exact hz) (nc_all oz HD.byte))
    case o3x1 => exact fun _ _ _ _ => opE_move (v := .pointer (some ⟨rp, 0, none⟩)) _ rfl rfl rfl
    case o4x1 => exact fun _ _ hw _ => opE_value (v := .pointer (some ⟨rp, 0, none⟩)) rfl (run_nc _ rfl _ rfl)
    case o5x1 => exact fun _ _ hw _ => opE_value (v := .pointer (some ⟨rp, 0, none⟩)) rfl (run_fld 35 _ 0 rfl _ _ rfl _ (by kernel_rfl))
    case o6x1 => exact fun _ _ hw _ => opE_value (v := .slice (some ⟨rg, 0, none⟩) (n * 64) (n * 64)) rfl (run_ldc 28 _ rfl rp 0 rfl 35 _ ((HR.gro ((Gro.refl _).drew.trans hw)).box) (na28 _) _ rfl)
    case o7x1 => exact fun _ _ hw _ => opE_value (v := .string (bas L)) rfl (run_text_op bT 9 Try.underlying9 _ rfl (l := L) (cap := L.length) (by rw [HR.len]; rfl) (nc_all (HR.gro ((Gro.refl _).drew.trans hw)).sec HR.byte))
    intro ptrs w4 GD hxE
    simp only [List.drop_succ_cons, List.drop_zero]
    replace HD := HD.gro ((Gro.refl _).drew.trans GD)
    replace HR := HR.gro ((Gro.refl _).drew.trans GD)
    replace GG := GG.drew.trans GD
    clear GD
    refine s_val 152 rfl rfl (.bool true) (run_eqs_op _ _ _ rfl _ _ rfl rfl true (decide_eq_true rfl) _) ?_
    refine nr ?_; intro U h; simp only [z0, z1] at h; subst h
    refine s_val 4 rfl rfl (.bool true) (rfl) ?_
    refine nr ?_; intro U h; simp only [z0, z1] at h; subst h
    refine wpList_nil ?_
    refine then_n ?_
    refine wp_ret ?_
    refine bodyPost_ret (results_tmp Try.results3 _ _ _) rfl ?_
    exact ⟨rfl, GG⟩
  have hjn : j < os.length := by have := of_decide_eq_true hp1; omega
  obtain ⟨q, hq⟩ : ∃ q, os[j]? = some q := ⟨_, List.getElem?_eq_getElem hjn⟩
  have hqm := List.mem_of_getElem? hq
  have hql := hlens q hqm
  obtain ⟨ad, hao⟩ := HO.xc.some (by omega)
  refine wpList_nil ?_
  refine then_n ?_
  refine wp_seq ?_
  refine wp_cond_true rfl ?_
  refine wp_skip ?_
  refine then_n ?_
  refine wp_seq ?_
  refine wp_block ?_
  refine wp_seq ?_
  refine wp_region_lit ?_
  refine s_val 31 rfl rfl (.int .i64 ((j : Nat) : Int)) (rfl) ?_
  refine nr ?_; intro U h; simp only [z0, z1] at h; subst h
  refine s_val 32 rfl rfl (.pointer (some (ad.add (j * 3)))) (run_idxX oT _ _ rfl ad os.length cap j (by exact congrArg (fun a => Value.slice a os.length cap) hao) rfl hjn _) ?_
  refine nr ?_; intro U h; simp only [z0, z1] at h; subst h
  refine s_val 33 rfl rfl (.agg (c30 q.k q.i ⟨q.ao, q.l.length, q.cap⟩)) (ld_op _ rfl ad j rfl (by rw [← hao]; exact HO.xc.gro GG) q hq) ?_
  refine nr ?_; intro U h; simp only [z0, z1] at h; subst h
  refine s_alloc 8 rfl rfl 30 rfl _ zv30 _ rfl ?_
  intro w4 g1 G eg1 kg1
  have bg1 := size_base GG eg1
  have dn0g1 := lt_new HD.box eg1
  have dn1g1 := lt_new HD.sec eg1
  have dn2g1 := lt_new HR.box eg1
  have dn3g1 := lt_new HR.sec eg1
  replace HD := HD.gro G
  replace HR := HR.gro G
  replace GG := GG.trans G
  clear G eg1
  refine nr ?_; intro U h; simp only [z0, z1] at h; subst h
  refine s_val 7 rfl rfl (.int .i64 ((j : Nat) : Int)) (rfl) ?_
  refine nr ?_; intro U h; simp only [z0, z1] at h; subst h
  refine s_store rfl rfl 30 _ _ rfl g1 0 rfl (.agg (c30 q.k q.i ⟨q.ao, q.l.length, q.cap⟩)) rfl 30 _ kg1 (c30 q.k q.i ⟨q.ao, q.l.length, q.cap⟩) rfl (by kernel_rfl) (Nat.le_of_ble_eq_true rfl) (by kernel_rfl) (c30 q.k q.i ⟨q.ao, q.l.length, q.cap⟩) (by kernel_rfl) ?_
  intro w6 St
  replace HD := HD.st St (by omega) (by omega)
  replace HR := HR.st St (by omega) (by omega)
  replace GG := GG.store St bg1
  replace kg1 := St.new
  clear St
  refine wpList_nil ?_
  refine then_n ?_
  refine wp_seq ?_
  refine wp_seq ?_
  refine wp_region_lit ?_
  refine s_val 34 rfl rfl (.int .i64 ((j : Nat) : Int)) (rfl) ?_
  refine nr ?_; intro U h; simp only [z0, z1] at h; subst h
  obtain ⟨p2, hp2⟩ : ∃ p, decide (300 < ((j : Nat) : Int)) = p := ⟨_, rfl⟩
  refine s_val 35 rfl rfl (.bool p2) (run_gtrT 3 _ _ _ rfl ((j : Nat) : Int) 300 rfl rfl p2 hp2 _) ?_
  refine nr ?_; intro U h; simp only [z0, z1] at h; subst h
  cases p2
  · have hj300 : j ≤ 300 := by have := of_decide_eq_false hp2; omega
    refine wpList_nil ?_
    refine then_n ?_
    refine wp_cond_false rfl ?_
    refine wp_skip ?_
    refine then_n ?_
    refine wp_seq ?_
    refine wp_seq ?_
    refine wp_region_lit ?_
    refine s_val 36 rfl rfl (.pointer (some ⟨g1, 0, none⟩)) (run_fld 30 _ 0 rfl _ _ rfl _ (by kernel_rfl)) ?_
    refine nr ?_; intro U h; simp only [z0, z1] at h; subst h
    refine s_val 37 rfl rfl (.int .i64 q.k) (run_ldc 3 _ rfl g1 0 rfl 30 _ kg1 (na3 _) _ rfl) ?_
    refine nr ?_; intro U h; simp only [z0, z1] at h; subst h
    refine wpList_nil ?_
    refine then_n ?_
    refine wp_block ?_
    refine wp_seq ?_
    refine wp_region_lit ?_
    obtain ⟨p3, hp3⟩ : ∃ p, decide (q.k = 0) = p := ⟨_, rfl⟩
    refine s_val 75 rfl rfl (.bool p3) (run_eq_k 3 .i64 _ _ _ rfl Try.underlying3 q.k 0 rfl rfl p3 hp3 _) ?_
    refine nr ?_; intro U h; simp only [z0, z1] at h; subst h
    cases p3
    · refine s_val _ rfl rfl (.bool false) rfl ?_
      refine nr ?_; intro U h; simp only [z0, z1] at h; subst h
      refine wpList_nil ?_
      refine then_n ?_
      refine wp_cond_false rfl ?_
      refine wp_seq ?_
      refine wp_region_lit ?_
      obtain ⟨p4, hp4⟩ : ∃ p, decide (q.k = 1) = p := ⟨_, rfl⟩
      refine s_val 114 rfl rfl (.bool p4) (run_eq_k 3 .i64 _ _ _ rfl Try.underlying3 q.k 1 rfl rfl p4 hp4 _) ?_
      refine nr ?_; intro U h; simp only [z0, z1] at h; subst h
      cases p4
      · refine s_val _ rfl rfl (.bool false) rfl ?_
        refine nr ?_; intro U h; simp only [z0, z1] at h; subst h
        refine wpList_nil ?_
        refine then_n ?_
        refine wp_cond_false rfl ?_
        refine wp_seq ?_
        refine wp_region_lit ?_
        refine s_val 39 rfl rfl (.pointer (some ⟨p, 0, none⟩)) (rfl) ?_
        refine nr ?_; intro U h; simp only [z0, z1] at h; subst h
        refine s_val 40 rfl rfl (.pointer (some ⟨g1, 1, none⟩)) (run_fld 30 _ 1 rfl _ _ rfl _ (by kernel_rfl)) ?_
        refine nr ?_; intro U h; simp only [z0, z1] at h; subst h
        refine s_val 41 rfl rfl (.int .i64 q.i) (run_ldc 3 _ rfl g1 1 rfl 30 _ kg1 (na3 _) _ rfl) ?_
        refine nr ?_; intro U h; simp only [z0, z1] at h; subst h
        rcases has_or n q.i with hB | ⟨i, hiq, hi⟩
        · refine s_callv 42 rfl rfl _ 14 Try.call14 rfl rfl _ rfl [.pointer (some ⟨p, 0, none⟩), .int .i64 q.i] rfl (read_bad _ p sg n L pw c HD q.i hB) ?_
          intro w7 G
          replace kg1 := G.has kg1
          replace HD := HD.gro G
          replace HR := HR.gro G
          replace GG := GG.trans G
          clear G
          refine nr ?_; intro U h; simp only [z0, z1] at h; subst h
          have HA : ∀ ad, (none : Option Addr) = some ad → ad.block ≠ p ∧ ad.block ≠ sg ∧ ad.block ≠ rp ∧ ad.block ≠ rg := fun ad ha => by cases ha
          refine s_val 38 rfl rfl (.tuple #[.slice none 0 0, .int .i64 1]) (rfl) ?_
          refine nr ?_; intro U h; simp only [z0, z1] at h; subst h
          refine s_val 43 rfl rfl (.slice none 0 0) (rfl) ?_
          refine nr ?_; intro U h; simp only [z0, z1] at h; subst h
          refine s_val 44 rfl rfl (.int .i64 1) (rfl) ?_
          refine nr ?_; intro U h; simp only [z0, z1] at h; subst h
          refine s_val 12 rfl rfl (.slice none 0 0) (rfl) ?_
          refine nr ?_; intro U h; simp only [z0, z1] at h; subst h
          refine s_val 13 rfl rfl (.int .i64 1) (rfl) ?_
          refine nr ?_; intro U h; simp only [z0, z1] at h; subst h
          refine wpList_nil ?_
          refine then_n ?_
          refine wp_seq ?_
          refine wp_region_lit ?_
          refine s_val 46 rfl rfl (.pointer (some ⟨rp, 0, none⟩)) (rfl) ?_
          refine nr ?_; intro U h; simp only [z0, z1] at h; subst h
          refine s_val 47 rfl rfl (.pointer (some ⟨g1, 1, none⟩)) (run_fld 30 _ 1 rfl _ _ rfl _ (by kernel_rfl)) ?_
          refine nr ?_; intro U h; simp only [z0, z1] at h; subst h
          refine s_val 48 rfl rfl (.int .i64 q.i) (run_ldc 3 _ rfl g1 1 rfl 30 _ kg1 (na3 _) _ rfl) ?_
          refine nr ?_; intro U h; simp only [z0, z1] at h; subst h
          refine s_callv 49 rfl rfl _ 15 Try.call15 rfl rfl _ rfl [.pointer (some ⟨rp, 0, none⟩), .int .i64 q.i] rfl (rread_bad _ rp rg n L pw c HR q.i hB) ?_
          intro w8 G
          replace kg1 := G.has kg1
          replace HD := HD.gro G
          replace HR := HR.gro G
          replace GG := GG.trans G
          clear G
          refine nr ?_; intro U h; simp only [z0, z1] at h; subst h
          have HW := OB.nil w8 5 .u8 w.heap.size
          refine s_val 45 rfl rfl (.tuple #[.slice none 0 0, .int .i64 1]) (rfl) ?_
          refine nr ?_; intro U h; simp only [z0, z1] at h; subst h
          refine s_val 50 rfl rfl (.slice none 0 0) (rfl) ?_
          refine nr ?_; intro U h; simp only [z0, z1] at h; subst h
          refine s_val 51 rfl rfl (.int .i64 1) (rfl) ?_
          refine nr ?_; intro U h; simp only [z0, z1] at h; subst h
          refine s_val 14 rfl rfl (.slice none 0 0) (rfl) ?_
          refine nr ?_; intro U h; simp only [z0, z1] at h; subst h
          refine s_val 15 rfl rfl (.int .i64 1) (rfl) ?_
          refine nr ?_; intro U h; simp only [z0, z1] at h; subst h
          refine wpList_nil ?_
          refine then_n ?_
          refine wp_seq ?_
          refine wp_seq ?_
          refine wp_region_opq ?_
          intro OPS hY
          have y5 := hY 5 57 rfl
          clear hY
          refine s_val 52 rfl rfl (.slice none 0 0) (rfl) ?_
          refine nr ?_; intro U h; simp only [z0, z1] at h; subst h
          refine s_val 53 rfl rfl (.string (bas [])) (run_text_op bT 9 Try.underlying9 _ rfl (l := []) rfl (NC.nil _ _)) ?_
          refine nr ?_; intro U h; simp only [z0, z1] at h; subst h
          refine s_val 54 rfl rfl (.slice none 0 0) (rfl) ?_
          refine nr ?_; intro U h; simp only [z0, z1] at h; subst h
          refine s_val 55 rfl rfl (.string (bas [])) (run_text_op bT 9 Try.underlying9 _ rfl (l := []) rfl (NC.nil _ _)) ?_
          refine nr ?_; intro U h; simp only [z0, z1] at h; subst h
          refine s_val 56 rfl rfl (.bool false) (run_nes_op _ _ _ rfl _ _ rfl rfl false (decide_eq_true rfl) _) ?_
          refine nr ?_; intro U h; simp only [z0, z1] at h; subst h
          refine s_val 57 rfl rfl (.bool false) (rfl) ?_
          refine nr ?_; intro U h; simp only [z0, z1] at h; subst h
          refine s_gvalY 58 rfl rfl y5 rfl (.int .i64 1) (rfl) ?_
          refine nr ?_; intro U h; simp only [z0, z1] at h; subst h
          refine s_gvalY 59 rfl rfl y5 rfl (.int .i64 1) (rfl) ?_
          refine nr ?_; intro U h; simp only [z0, z1] at h; subst h
          refine s_gvalY 60 rfl rfl y5 rfl (.bool false) (run_neq_k 31 .i64 _ _ _ rfl Try.underlying31 _ _ rfl rfl false rfl _) ?_
          refine nr ?_; intro U h; simp only [z0, z1] at h; subst h
          refine s_val 61 rfl rfl (.bool false) (rfl) ?_
          refine nr ?_; intro U h; simp only [z0, z1] at h; subst h
          refine wpList_nil ?_
          refine then_n ?_
          refine wp_cond_false rfl ?_
          refine wp_skip ?_
          refine then_n ?_
          refine wp_seq ?_
          refine wp_region_lit ?_
          refine s_val 62 rfl rfl (.slice none 0 0) (rfl) ?_
          refine nr ?_; intro U h; simp only [z0, z1] at h; subst h
          refine s_val 63 rfl rfl (.int .i64 0) (run_len Try.underlying28 _ rfl _ _ _ rfl _) ?_
          refine nr ?_; intro U h; simp only [z0, z1] at h; subst h
          refine s_val 64 rfl rfl (.int .i64 0) (rfl) ?_
          refine nr ?_; intro U h; simp only [z0, z1] at h; subst h
          refine wpList_nil ?_
          refine then_n ?_
          refine wp_block ?_
          refine wp_loopN (fun mz az wv => ∃ (k : Nat) (l1 : List Nat) (us2 : Nat → Value), mz = ([] : List Nat).length - k ∧ az = ⟨[.int .i64 sectors, .slice ao os.length cap, undef, undef, us1 0, .pointer (some ⟨p, 0, none⟩), .pointer (some ⟨rp, 0, none⟩), .int .i64 ((j : Nat) : Int), .pointer (some ⟨g1, 0, none⟩), us1 3, us1 4, us1 5, .slice none 0 0, .int .i64 1, .slice none 0 0, .int .i64 1, us2 0, .int .i64 sectors, .pointer (some ⟨p, 0, none⟩), .int .i64 sectors, .pointer (some ⟨rp, 0, none⟩), .bool true, .bool false, .bool false, .pointer (some ⟨p, 0, none⟩), .bool false, .bool false, .slice ao os.length cap, .int .i64 ((os.length : Nat) : Int), .int .i64 ((j : Nat) : Int), .bool true, .int .i64 ((j : Nat) : Int), .pointer (some (ad.add (j * 3))), .agg (c30 q.k q.i ⟨q.ao, q.l.length, q.cap⟩), .int .i64 ((j : Nat) : Int), .bool false, .pointer (some ⟨g1, 0, none⟩), .int .i64 q.k, .tuple #[.slice none 0 0, .int .i64 1], .pointer (some ⟨p, 0, none⟩), .pointer (some ⟨g1, 1, none⟩), .int .i64 q.i, .tuple #[.slice none 0 0, .int .i64 1], .slice none 0 0, .int .i64 1, .tuple #[.slice none 0 0, .int .i64 1], .pointer (some ⟨rp, 0, none⟩), .pointer (some ⟨g1, 1, none⟩), .int .i64 q.i, .tuple #[.slice none 0 0, .int .i64 1], .slice none 0 0, .int .i64 1, .slice none 0 0, .string (bas []), .slice none 0 0, .string (bas []), .bool false, .bool false, .int .i64 1, .int .i64 1, .bool false, .bool false, .slice none 0 0, .int .i64 0, .int .i64 ((k : Nat) : Int), us2 1, us2 2, us2 3, us2 4, us2 5, us2 6, us2 7, us2 8, us2 9, .bool false, .bool false, us1 57, us1 58, us1 59, us1 60, us1 61, us1 62, us1 63, us1 64, us1 65, us1 66, us1 67, us1 68, us1 69, us1 70, us1 71, us1 72, us1 73, us1 74, us1 75, us1 76, us1 77, us1 78, us1 79, us1 80, us1 81, us1 82, us1 83, us1 84, us1 85, us1 86, us1 87, us1 88, us1 89, us1 90, us1 91, us1 92, us1 93, .bool false, .bool false, us1 96, us1 97, us1 98, us1 99, us1 100, us1 101, us1 102, us1 103, us1 104, us1 105, us1 106, us1 107, us1 108, us1 109, us1 110, us1 111, us1 112, us1 113, us1 114, us1 115, us1 116, us1 117, us1 118, us1 119, us1 120, us1 121, us1 122, us1 123, us1 124, undef, undef, undef, undef, undef, undef, undef, undef, undef].toArray, []⟩ ∧ k ≤ ([] : List Nat).length ∧ l1.length = ([] : List Nat).length ∧ Gro w wv ∧ OB wv 5 .u8 w.heap.size none 0 l1 ∧ DK wv p sg n L pw (c : Int) ∧ RK wv rp rg n L pw (c : Int)) ?_ _ ⟨0, _, (fun kz => ([us1 10, us1 46, us1 47, us1 48, us1 49, us1 50, us1 51, us1 52, us1 53, us1 54] : List Value).getD kz undef), rfl, rfl, Nat.zero_le _, rfl, GG, HW, HD, HR⟩
          clear GG HD HR HW
          rintro mz az wv ⟨k, l1, us2, rfl, rfl, hj, hl1, GG, HW, HD, HR⟩
          refine wp_seq ?_
          refine wp_region_lit ?_
          obtain ⟨p5, hp5⟩ : ∃ p, decide (((k : Nat) : Int) < 0) = p := ⟨_, rfl⟩
          refine s_val 65 rfl rfl (.bool p5) (run_lssT 3 _ _ _ rfl ((k : Nat) : Int) 0 rfl rfl p5 hp5 _) ?_
          refine nr ?_; intro U h; simp only [z0, z1] at h; subst h
          cases p5
          · refine wpList_nil ?_
            refine then_n ?_
            refine wp_seq ?_
            refine wp_cond_false rfl ?_
            refine wp_exit ?_
            refine then_x ?_
            refine then_x ?_
            refine blk_x ?_
            refine blk_n ?_
            refine then_n ?_
            refine wp_seq ?_
            refine wp_region_exA (A := ?Ax2) 16 [(0, 125), (1, 126), (2, 127), (3, 128), (4, 129), (5, 130), (6, 131), (7, 132), (8, 133), (9, 134), (10, 135), (11, 136), (12, 137), (13, 138), (14, 139), (15, 140)] [.val (.pointer (some ⟨p, 0, none⟩)), .val (.int .i64 (c : Int)), .val (.pointer (some ⟨rp, 0, none⟩)), .val (.pointer (some ⟨rp, 0, none⟩)), .val (.pointer (some ⟨rp, 2, none⟩)), .val (.int .i64 (c : Int)), .val (.bool false), .val (.bool false), .val (.pointer (some ⟨p, 0, none⟩)), .val (.int .i64 ((n : Nat) : Int)), .val (.pointer (some ⟨rp, 0, none⟩)), .val (.pointer (some ⟨rp, 0, none⟩)), .val (.pointer (some ⟨rp, 0, none⟩)), .val (.slice (some ⟨rg, 0, none⟩) (n * 64) (n * 64)), .val (.int .i64 ((n * 64 : Nat) : Int)), .val (.int .i64 ((n : Nat) : Int))] follows (by kernel_rfl) rfl ?hAx2 (opsA_cons ?o0x2 (opsA_cons ?o1x2 (opsA_cons ?o2x2 (opsA_cons ?o3x2 (opsA_cons ?o4x2 (opsA_cons ?o5x2 (opsA_cons ?o6x2 (opsA_cons ?o7x2 (opsA_cons ?o8x2 (opsA_cons ?o9x2 (opsA_cons ?o10x2 (opsA_cons ?o11x2 (opsA_cons ?o12x2 (opsA_cons ?o13x2 (opsA_cons ?o14x2 (opsA_cons ?o15x2 opsA_nil)))))))))))))))) ?restx2
            case hAx2 =>
              intro ptrs
              simp only [full, foldSlots, filledE, postE, List.foldl_cons, List.foldl_nil, List.getD_cons_zero, List.getD_cons_succ, fill_val, List.set_cons_zero, List.set_cons_succ]
              exact rfl
            case o0x2 => exact fun _ _ _ _ => opE_move (v := .pointer (some ⟨p, 0, none⟩)) _ rfl rfl rfl
            case o1x2 => exact fun _ _ hw _ => opE_call (.val (.int .i64 (c : Int))) rfl _ 16 Try.call16 rfl rfl _ rfl [.pointer (some ⟨p, 0, none⟩)] rfl ((done_any _ p sg n _ _ _ (HD.gro ((Gro.refl _).drew.trans hw))).mono fun e w' ⟨he, hg⟩ => ⟨_, he, hg, rfl⟩)
            case o2x2 => exact fun _ _ _ _ => opE_move (v := .pointer (some ⟨rp, 0, none⟩)) _ rfl rfl rfl
            case o3x2 => exact fun _ _ hw _ => opE_value (v := .pointer (some ⟨rp, 0, none⟩)) rfl (run_nc _ rfl _ rfl)
            case o4x2 => exact fun _ _ hw _ => opE_value (v := .pointer (some ⟨rp, 2, none⟩)) rfl (run_fld 35 _ 2 rfl _ _ rfl _ (by kernel_rfl))
            case o5x2 => exact fun _ _ hw _ => opE_value (v := .int .i64 (c : Int)) rfl (run_ldc 3 _ rfl rp 2 rfl 35 _ ((HR.gro ((Gro.refl _).drew.trans hw)).box) (na3 _) _ rfl)
            case o6x2 => exact fun _ _ hw _ => opE_value (v := .bool false) rfl (run_neq_k 3 .i64 _ _ _ rfl Try.underlying3 (c : Int) (c : Int) rfl rfl false (decide_eq_true rfl) _)
            case o7x2 => exact fun _ _ _ _ => opE_move (v := .bool false) _ rfl rfl rfl
            case o8x2 => exact fun _ _ _ _ => opE_move (v := .pointer (some ⟨p, 0, none⟩)) _ rfl rfl rfl
            case o9x2 => exact fun _ _ hw _ => opE_call (.val (.int .i64 ((n : Nat) : Int))) rfl _ 17 Try.call17 rfl rfl _ rfl [.pointer (some ⟨p, 0, none⟩)] rfl ((size_any _ p sg n _ _ _ (HD.gro ((Gro.refl _).drew.trans hw))).mono fun e w' ⟨he, hg⟩ => ⟨_, he, hg, rfl⟩)
            case o10x2 => exact fun _ _ _ _ => opE_move (v := .pointer (some ⟨rp, 0, none⟩)) _ rfl rfl rfl
            case o11x2 => exact fun _ _ hw _ => opE_value (v := .pointer (some ⟨rp, 0, none⟩)) rfl (run_nc _ rfl _ rfl)
            case o12x2 => exact fun _ _ hw _ => opE_value (v := .pointer (some ⟨rp, 0, none⟩)) rfl (run_fld 35 _ 0 rfl _ _ rfl _ (by kernel_rfl))
            case o13x2 => exact fun _ _ hw _ => opE_value (v := .slice (some ⟨rg, 0, none⟩) (n * 64) (n * 64)) rfl (run_ldc 28 _ rfl rp 0 rfl 35 _ ((HR.gro ((Gro.refl _).drew.trans hw)).box) (na28 _) _ rfl)
            case o14x2 => exact fun _ _ hw _ => opE_value (v := .int .i64 ((n * 64 : Nat) : Int)) rfl (run_len Try.underlying28 _ rfl _ _ _ rfl _)
            case o15x2 => exact fun _ _ hw _ => opE_value (v := .int .i64 ((n : Nat) : Int)) rfl (run_quo64 _ _ _ rfl ((n * 64 : Nat) : Int) 64 _ rfl rfl (by decide) quoN (by omega) (by omega) _)
            intro ptrs w9 GD hxE
            simp only [List.drop_succ_cons, List.drop_zero]
            replace HD := HD.gro ((Gro.refl _).drew.trans GD)
            replace HR := HR.gro ((Gro.refl _).drew.trans GD)
            replace HW := HW.gro ((Gro.refl _).drew.trans GD)
            replace GG := GG.drew.trans GD
            clear GD
            refine s_gval 141 rfl rfl (.bool false) (run_neq_k 3 .i64 _ _ _ rfl Try.underlying3 ((n : Nat) : Int) ((n : Nat) : Int) rfl rfl false (decide_eq_true rfl) _) ?_
            refine nr ?_; intro U h; simp only [z0, z1] at h; subst h
            refine s_val 142 rfl rfl (.bool false) (rfl) ?_
            refine nr ?_; intro U h; simp only [z0, z1] at h; subst h
            refine wpList_nil ?_
            refine then_n ?_
            refine wp_cond_false rfl ?_
            refine wp_skip ?_
            refine blk_n ?_
            refine then_n ?_
            refine wp_region_lit ?_
            refine s_val 143 rfl rfl (.int .i64 ((j + 1 : Nat) : Int)) (run_add64 _ _ _ rfl ((j : Nat) : Int) 1 _ rfl rfl (by omega) (by omega) (by omega) _) ?_
            refine nr ?_; intro U h; simp only [z0, z1] at h; subst h
            refine s_val 29 rfl rfl (.int .i64 ((j + 1 : Nat) : Int)) (rfl) ?_
            refine nr ?_; intro U h; simp only [z0, z1] at h; subst h
            refine wpList_nil ?_
            refine then_n ?_
            exact ⟨_, (by omega : os.length - (j + 1) < os.length - j), j + 1, c, _, _, (fun kz => ([us1 0, .int .i64 ((j : Nat) : Int), .pointer (some ⟨g1, 0, none⟩), us1 3, us1 4, us1 5, .slice none 0 0, .int .i64 1, .slice none 0 0, .int .i64 1, us2 0, .bool true, .int .i64 ((j : Nat) : Int), .pointer (some (ad.add (j * 3))), .agg (c30 q.k q.i ⟨q.ao, q.l.length, q.cap⟩), .int .i64 ((j : Nat) : Int), .bool false, .pointer (some ⟨g1, 0, none⟩), .int .i64 q.k, .tuple #[.slice none 0 0, .int .i64 1], .pointer (some ⟨p, 0, none⟩), .pointer (some ⟨g1, 1, none⟩), .int .i64 q.i, .tuple #[.slice none 0 0, .int .i64 1], .slice none 0 0, .int .i64 1, .tuple #[.slice none 0 0, .int .i64 1], .pointer (some ⟨rp, 0, none⟩), .pointer (some ⟨g1, 1, none⟩), .int .i64 q.i, .tuple #[.slice none 0 0, .int .i64 1], .slice none 0 0, .int .i64 1, .slice none 0 0, .string (bas []), .slice none 0 0, .string (bas []), .bool false, .bool false, .int .i64 1, .int .i64 1, .bool false, .bool false, .slice none 0 0, .int .i64 0, .int .i64 ((k : Nat) : Int), .bool false, us2 2, us2 3, us2 4, us2 5, us2 6, us2 7, us2 8, us2 9, .bool false, .bool false, us1 57, us1 58, us1 59, us1 60, us1 61, us1 62, us1 63, us1 64, us1 65, us1 66, us1 67, us1 68, us1 69, us1 70, us1 71, us1 72, us1 73, us1 74, us1 75, us1 76, us1 77, us1 78, us1 79, us1 80, us1 81, us1 82, us1 83, us1 84, us1 85, us1 86, us1 87, us1 88, us1 89, us1 90, us1 91, us1 92, us1 93, .bool false, .bool false, us1 96, us1 97, us1 98, us1 99, us1 100, us1 101, us1 102, us1 103, us1 104, us1 105, .pointer (some ⟨p, 0, none⟩), .int .i64 (c : Int), .pointer (some ⟨rp, 0, none⟩), .pointer (some ⟨rp, 0, none⟩), .pointer (some ⟨rp, 2, none⟩), .int .i64 (c : Int), .bool false, .bool false, .pointer (some ⟨p, 0, none⟩), .int .i64 ((n : Nat) : Int), .pointer (some ⟨rp, 0, none⟩), .pointer (some ⟨rp, 0, none⟩), .pointer (some ⟨rp, 0, none⟩), .slice (some ⟨rg, 0, none⟩) (n * 64) (n * 64), .int .i64 ((n * 64 : Nat) : Int), .int .i64 ((n : Nat) : Int), .bool false, .bool false, .int .i64 ((j + 1 : Nat) : Int)] : List Value).getD kz undef), rfl, rfl, (by omega), (by omega), (by omega), hP, GG, HD, HR⟩
          have hjn : k < ([] : List Nat).length := by have := of_decide_eq_true hp5; omega
          refine wpList_nil ?_
          refine then_n ?_
          refine wp_seq ?_
          refine wp_cond_true rfl ?_
          refine wp_skip ?_
          refine then_n ?_
          refine wp_seq ?_
          refine wp_block ?_
          refine wp_seq ?_
          refine wp_region_lit ?_
          refine s_val 66 rfl rfl (.int .i64 ((k : Nat) : Int)) (rfl) ?_
          refine nr ?_; intro U h; simp only [z0, z1] at h; subst h
          refine s_val 16 rfl rfl (.int .i64 ((k : Nat) : Int)) (rfl) ?_
          refine nr ?_; intro U h; simp only [z0, z1] at h; subst h
          refine wpList_nil ?_
          refine then_n ?_
          refine wp_region_lit ?_
          refine s_val 67 rfl rfl (.slice none 0 0) (rfl) ?_
          refine nr ?_; intro U h; simp only [z0, z1] at h; subst h
          refine s_val 68 rfl rfl (.int .i64 ((k : Nat) : Int)) (rfl) ?_
          refine nr ?_; intro U h; simp only [z0, z1] at h; subst h
          obtain ⟨gi, cur, hgi, hBi, ki, hci, hmi, hsi, hti⟩ := HW.blk (j := k) (by omega)
          refine s_val 69 rfl rfl (.pointer (some ⟨gi, k, none⟩)) (bat _ _ rfl gi ([] : List Nat).length 0 k (by exact congrArg (fun a => Value.slice a ([] : List Nat).length 0) hgi) rfl (by omega) _) ?_
          refine nr ?_; intro U h; simp only [z0, z1] at h; subst h
          refine s_val 70 rfl rfl (.int .u8 ((l1.getD k 0 : Nat) : Int)) (run_ld bT _ rfl ⟨gi, k, none⟩ rfl _ _ (HW.cellv hgi (by omega))) ?_
          refine nr ?_; intro U h; simp only [z0, z1] at h; subst h
          refine s_val 71 rfl rfl (.int .u8 ((inc8 (l1.getD k 0) : Nat) : Int)) (run_inc8 _ _ _ rfl (l1.getD k 0) rfl rfl _) ?_
          refine nr ?_; intro U h; simp only [z0, z1] at h; subst h
          refine s_val 72 rfl rfl (.pointer (some ⟨gi, k, none⟩)) (bat _ _ rfl gi ([] : List Nat).length 0 k (by exact congrArg (fun a => Value.slice a ([] : List Nat).length 0) hgi) rfl (by omega) _) ?_
          refine nr ?_; intro U h; simp only [z0, z1] at h; subst h
          refine s_store rfl rfl 5 _ _ rfl gi k rfl (.int .u8 ((inc8 (l1.getD k 0) : Nat) : Int)) rfl 5 _ ki #[.int .u8 ((inc8 (l1.getD k 0) : Nat) : Int)] rfl si5 (by simp only [List.size_toArray, List.length_cons, List.length_nil]; omega) (one1 _) _ rfl ?_
          intro w9 St
          have hap := HA _ hgi
          have hap1 := hap.1
          have hap2 := hap.2
          replace HD := HD.st St hap1 hap2.1
          replace HR := HR.st St hap2.2.1 hap2.2.2
          replace HW := HW.put hgi ki (by omega) (inc8 (l1.getD k 0)) (inc8_le _) St
          replace GG := GG.store St hBi
          clear St hap hap1 hap2
          refine wpList_nil ?_
          refine blk_n ?_
          refine then_n ?_
          refine wp_region_lit ?_
          refine s_val 73 rfl rfl (.int .i64 ((k + 1 : Nat) : Int)) (run_add64 _ _ _ rfl ((k : Nat) : Int) 1 _ rfl rfl (by omega) (by omega) (by omega) _) ?_
          refine nr ?_; intro U h; simp only [z0, z1] at h; subst h
          refine s_val 64 rfl rfl (.int .i64 ((k + 1 : Nat) : Int)) (rfl) ?_
          refine nr ?_; intro U h; simp only [z0, z1] at h; subst h
          refine wpList_nil ?_
          refine then_n ?_
          exact ⟨_, (by omega : ([] : List Nat).length - (k + 1) < ([] : List Nat).length - k), k + 1, _, (fun kz => ([.int .i64 ((k : Nat) : Int), .bool true, .int .i64 ((k : Nat) : Int), .slice none 0 0, .int .i64 ((k : Nat) : Int), .pointer (some ⟨gi, k, none⟩), .int .u8 ((l1.getD k 0 : Nat) : Int), .int .u8 ((inc8 (l1.getD k 0) : Nat) : Int), .pointer (some ⟨gi, k, none⟩), .int .i64 ((k + 1 : Nat) : Int)] : List Value).getD kz undef), rfl, rfl, (by omega), (by rw [List.length_set]; exact hl1), GG, HW, HD, HR⟩
        have HX := read_len _ p sg n L pw c HD i hi
        rw [← hiq] at HX
        have hl1 := lt_of_heap HD.box
        have hl2 := lt_of_heap HD.sec
        have hl3 := lt_of_heap HR.box
        have hl4 := lt_of_heap HR.sec
        refine s_callx 42 rfl rfl _ 14 Try.call14 rfl rfl _ rfl [.pointer (some ⟨p, 0, none⟩), .int .i64 q.i] rfl (HX) (fun _ _ ⟨_, he, _⟩ => ⟨_, he⟩) ?_
        rintro v w7 ⟨gr, he, G, bgr, kr⟩
        cases he
        have HA : ∀ ad, some (⟨gr, 0, none⟩ : Addr) = some ad → ad.block ≠ p ∧ ad.block ≠ sg ∧ ad.block ≠ rp ∧ ad.block ≠ rg := fun ad ha => by cases ha; exact ⟨(by show gr ≠ p; omega), (by show gr ≠ sg; omega), (by show gr ≠ rp; omega), (by show gr ≠ rg; omega)⟩
        have bgr := Nat.le_trans GG.size bgr
        replace kg1 := G.has kg1
        replace HD := HD.gro G
        replace HR := HR.gro G
        replace GG := GG.trans G
        clear G
        have h64 := secL_len HD.len hi
        have HW := ob_all kr bgr (secL_byte HD.byte i) (by rw [h64]; decide)
        clear kr HX
        refine nr ?_; intro U h; simp only [z0, z1] at h; subst h
        refine s_val 38 rfl rfl (.tuple #[.slice (some ⟨gr, 0, none⟩) ((secL L i).length) ((secL L i).length), .int .i64 0]) (rfl) ?_
        refine nr ?_; intro U h; simp only [z0, z1] at h; subst h
        refine s_val 43 rfl rfl (.slice (some ⟨gr, 0, none⟩) ((secL L i).length) ((secL L i).length)) (rfl) ?_
        refine nr ?_; intro U h; simp only [z0, z1] at h; subst h
        refine s_val 44 rfl rfl (.int .i64 0) (rfl) ?_
        refine nr ?_; intro U h; simp only [z0, z1] at h; subst h
        refine s_val 12 rfl rfl (.slice (some ⟨gr, 0, none⟩) ((secL L i).length) ((secL L i).length)) (rfl) ?_
        refine nr ?_; intro U h; simp only [z0, z1] at h; subst h
        refine s_val 13 rfl rfl (.int .i64 0) (rfl) ?_
        refine nr ?_; intro U h; simp only [z0, z1] at h; subst h
        refine wpList_nil ?_
        refine then_n ?_
        refine wp_seq ?_
        refine wp_region_lit ?_
        refine s_val 46 rfl rfl (.pointer (some ⟨rp, 0, none⟩)) (rfl) ?_
        refine nr ?_; intro U h; simp only [z0, z1] at h; subst h
        refine s_val 47 rfl rfl (.pointer (some ⟨g1, 1, none⟩)) (run_fld 30 _ 1 rfl _ _ rfl _ (by kernel_rfl)) ?_
        refine nr ?_; intro U h; simp only [z0, z1] at h; subst h
        refine s_val 48 rfl rfl (.int .i64 q.i) (run_ldc 3 _ rfl g1 1 rfl 30 _ kg1 (na3 _) _ rfl) ?_
        refine nr ?_; intro U h; simp only [z0, z1] at h; subst h
        have HX := rread_ok _ rp rg n L pw c HR i hi
        rw [← hiq] at HX
        refine s_callx 49 rfl rfl _ 15 Try.call15 rfl rfl _ rfl [.pointer (some ⟨rp, 0, none⟩), .int .i64 q.i] rfl (HX) (fun _ _ ⟨_, _, he, _⟩ => ⟨_, he⟩) ?_
        rintro v w8 ⟨aor, capr, he, G, HQ⟩
        cases he
        replace kg1 := G.has kg1
        replace HD := HD.gro G
        replace HR := HR.gro G
        replace HW := HW.gro G
        replace GG := GG.trans G
        clear G
        clear HX
        refine nr ?_; intro U h; simp only [z0, z1] at h; subst h
        refine s_val 45 rfl rfl (.tuple #[.slice aor ((secL L i).length) capr, .int .i64 0]) (rfl) ?_
        refine nr ?_; intro U h; simp only [z0, z1] at h; subst h
        refine s_val 50 rfl rfl (.slice aor ((secL L i).length) capr) (rfl) ?_
        refine nr ?_; intro U h; simp only [z0, z1] at h; subst h
        refine s_val 51 rfl rfl (.int .i64 0) (rfl) ?_
        refine nr ?_; intro U h; simp only [z0, z1] at h; subst h
        refine s_val 14 rfl rfl (.slice aor ((secL L i).length) capr) (rfl) ?_
        refine nr ?_; intro U h; simp only [z0, z1] at h; subst h
        refine s_val 15 rfl rfl (.int .i64 0) (rfl) ?_
        refine nr ?_; intro U h; simp only [z0, z1] at h; subst h
        refine wpList_nil ?_
        refine then_n ?_
        refine wp_seq ?_
        refine wp_seq ?_
        refine wp_region_opq ?_
        intro OPS hY
        have y5 := hY 5 57 rfl
        clear hY
        refine s_val 52 rfl rfl (.slice (some ⟨gr, 0, none⟩) ((secL L i).length) ((secL L i).length)) (rfl) ?_
        refine nr ?_; intro U h; simp only [z0, z1] at h; subst h
        refine s_val 53 rfl rfl (.string (bas (secL L i))) (run_text_op bT 9 Try.underlying9 _ rfl (l := secL L i) (cap := (secL L i).length) rfl HW.nc) ?_
        refine nr ?_; intro U h; simp only [z0, z1] at h; subst h
        refine s_val 54 rfl rfl (.slice aor ((secL L i).length) capr) (rfl) ?_
        refine nr ?_; intro U h; simp only [z0, z1] at h; subst h
        refine s_val 55 rfl rfl (.string (bas (secL L i))) (run_text_op bT 9 Try.underlying9 _ rfl rfl HQ.nc) ?_
        refine nr ?_; intro U h; simp only [z0, z1] at h; subst h
        refine s_val 56 rfl rfl (.bool false) (run_nes_op _ _ _ rfl _ _ rfl rfl false (decide_eq_true rfl) _) ?_
        refine nr ?_; intro U h; simp only [z0, z1] at h; subst h
        refine s_val 57 rfl rfl (.bool false) (rfl) ?_
        refine nr ?_; intro U h; simp only [z0, z1] at h; subst h
        refine s_gvalY 58 rfl rfl y5 rfl (.int .i64 0) (rfl) ?_
        refine nr ?_; intro U h; simp only [z0, z1] at h; subst h
        refine s_gvalY 59 rfl rfl y5 rfl (.int .i64 0) (rfl) ?_
        refine nr ?_; intro U h; simp only [z0, z1] at h; subst h
        refine s_gvalY 60 rfl rfl y5 rfl (.bool false) (run_neq_k 31 .i64 _ _ _ rfl Try.underlying31 _ _ rfl rfl false rfl _) ?_
        refine nr ?_; intro U h; simp only [z0, z1] at h; subst h
        refine s_val 61 rfl rfl (.bool false) (rfl) ?_
        refine nr ?_; intro U h; simp only [z0, z1] at h; subst h
        refine wpList_nil ?_
        refine then_n ?_
        refine wp_cond_false rfl ?_
        refine wp_skip ?_
        refine then_n ?_
        refine wp_seq ?_
        refine wp_region_lit ?_
        refine s_val 62 rfl rfl (.slice (some ⟨gr, 0, none⟩) ((secL L i).length) ((secL L i).length)) (rfl) ?_
        refine nr ?_; intro U h; simp only [z0, z1] at h; subst h
        refine s_val 63 rfl rfl (.int .i64 (((secL L i).length : Nat) : Int)) (run_len Try.underlying28 _ rfl _ _ _ rfl _) ?_
        refine nr ?_; intro U h; simp only [z0, z1] at h; subst h
        refine s_val 64 rfl rfl (.int .i64 0) (rfl) ?_
        refine nr ?_; intro U h; simp only [z0, z1] at h; subst h
        refine wpList_nil ?_
        refine then_n ?_
        refine wp_block ?_
        refine wp_loopN (fun mz az wv => ∃ (k : Nat) (l1 : List Nat) (us2 : Nat → Value), mz = (secL L i).length - k ∧ az = ⟨[.int .i64 sectors, .slice ao os.length cap, undef, undef, us1 0, .pointer (some ⟨p, 0, none⟩), .pointer (some ⟨rp, 0, none⟩), .int .i64 ((j : Nat) : Int), .pointer (some ⟨g1, 0, none⟩), us1 3, us1 4, us1 5, .slice (some ⟨gr, 0, none⟩) ((secL L i).length) ((secL L i).length), .int .i64 0, .slice aor ((secL L i).length) capr, .int .i64 0, us2 0, .int .i64 sectors, .pointer (some ⟨p, 0, none⟩), .int .i64 sectors, .pointer (some ⟨rp, 0, none⟩), .bool true, .bool false, .bool false, .pointer (some ⟨p, 0, none⟩), .bool false, .bool false, .slice ao os.length cap, .int .i64 ((os.length : Nat) : Int), .int .i64 ((j : Nat) : Int), .bool true, .int .i64 ((j : Nat) : Int), .pointer (some (ad.add (j * 3))), .agg (c30 q.k q.i ⟨q.ao, q.l.length, q.cap⟩), .int .i64 ((j : Nat) : Int), .bool false, .pointer (some ⟨g1, 0, none⟩), .int .i64 q.k, .tuple #[.slice (some ⟨gr, 0, none⟩) ((secL L i).length) ((secL L i).length), .int .i64 0], .pointer (some ⟨p, 0, none⟩), .pointer (some ⟨g1, 1, none⟩), .int .i64 q.i, .tuple #[.slice (some ⟨gr, 0, none⟩) ((secL L i).length) ((secL L i).length), .int .i64 0], .slice (some ⟨gr, 0, none⟩) ((secL L i).length) ((secL L i).length), .int .i64 0, .tuple #[.slice aor ((secL L i).length) capr, .int .i64 0], .pointer (some ⟨rp, 0, none⟩), .pointer (some ⟨g1, 1, none⟩), .int .i64 q.i, .tuple #[.slice aor ((secL L i).length) capr, .int .i64 0], .slice aor ((secL L i).length) capr, .int .i64 0, .slice (some ⟨gr, 0, none⟩) ((secL L i).length) ((secL L i).length), .string (bas (secL L i)), .slice aor ((secL L i).length) capr, .string (bas (secL L i)), .bool false, .bool false, .int .i64 0, .int .i64 0, .bool false, .bool false, .slice (some ⟨gr, 0, none⟩) ((secL L i).length) ((secL L i).length), .int .i64 (((secL L i).length : Nat) : Int), .int .i64 ((k : Nat) : Int), us2 1, us2 2, us2 3, us2 4, us2 5, us2 6, us2 7, us2 8, us2 9, .bool false, .bool false, us1 57, us1 58, us1 59, us1 60, us1 61, us1 62, us1 63, us1 64, us1 65, us1 66, us1 67, us1 68, us1 69, us1 70, us1 71, us1 72, us1 73, us1 74, us1 75, us1 76, us1 77, us1 78, us1 79, us1 80, us1 81, us1 82, us1 83, us1 84, us1 85, us1 86, us1 87, us1 88, us1 89, us1 90, us1 91, us1 92, us1 93, .bool false, .bool false, us1 96, us1 97, us1 98, us1 99, us1 100, us1 101, us1 102, us1 103, us1 104, us1 105, us1 106, us1 107, us1 108, us1 109, us1 110, us1 111, us1 112, us1 113, us1 114, us1 115, us1 116, us1 117, us1 118, us1 119, us1 120, us1 121, us1 122, us1 123, us1 124, undef, undef, undef, undef, undef, undef, undef, undef, undef].toArray, []⟩ ∧ k ≤ (secL L i).length ∧ l1.length = (secL L i).length ∧ Gro w wv ∧ OB wv 5 .u8 w.heap.size (some ⟨gr, 0, none⟩) (secL L i).length l1 ∧ DK wv p sg n L pw (c : Int) ∧ RK wv rp rg n L pw (c : Int)) ?_ _ ⟨0, _, (fun kz => ([us1 10, us1 46, us1 47, us1 48, us1 49, us1 50, us1 51, us1 52, us1 53, us1 54] : List Value).getD kz undef), rfl, rfl, Nat.zero_le _, rfl, GG, HW, HD, HR⟩
        clear GG HD HR HW
        rintro mz az wv ⟨k, l1, us2, rfl, rfl, hj, hl1, GG, HW, HD, HR⟩
        refine wp_seq ?_
        refine wp_region_lit ?_
        obtain ⟨p5, hp5⟩ : ∃ p, decide (((k : Nat) : Int) < (((secL L i).length : Nat) : Int)) = p := ⟨_, rfl⟩
        refine s_val 65 rfl rfl (.bool p5) (run_lssT 3 _ _ _ rfl ((k : Nat) : Int) (((secL L i).length : Nat) : Int) rfl rfl p5 hp5 _) ?_
        refine nr ?_; intro U h; simp only [z0, z1] at h; subst h
        cases p5
        · refine wpList_nil ?_
          refine then_n ?_
          refine wp_seq ?_
          refine wp_cond_false rfl ?_
          refine wp_exit ?_
          refine then_x ?_
          refine then_x ?_
          refine blk_x ?_
          refine blk_n ?_
          refine then_n ?_
          refine wp_seq ?_
          refine wp_region_exA (A := ?Ax3) 16 [(0, 125), (1, 126), (2, 127), (3, 128), (4, 129), (5, 130), (6, 131), (7, 132), (8, 133), (9, 134), (10, 135), (11, 136), (12, 137), (13, 138), (14, 139), (15, 140)] [.val (.pointer (some ⟨p, 0, none⟩)), .val (.int .i64 (c : Int)), .val (.pointer (some ⟨rp, 0, none⟩)), .val (.pointer (some ⟨rp, 0, none⟩)), .val (.pointer (some ⟨rp, 2, none⟩)), .val (.int .i64 (c : Int)), .val (.bool false), .val (.bool false), .val (.pointer (some ⟨p, 0, none⟩)), .val (.int .i64 ((n : Nat) : Int)), .val (.pointer (some ⟨rp, 0, none⟩)), .val (.pointer (some ⟨rp, 0, none⟩)), .val (.pointer (some ⟨rp, 0, none⟩)), .val (.slice (some ⟨rg, 0, none⟩) (n * 64) (n * 64)), .val (.int .i64 ((n * 64 : Nat) : Int)), .val (.int .i64 ((n : Nat) : Int))] follows (by kernel_rfl) rfl ?hAx3 (opsA_cons ?o0x3 (opsA_cons ?o1x3 (opsA_cons ?o2x3 (opsA_cons ?o3x3 (opsA_cons ?o4x3 (opsA_cons ?o5x3 (opsA_cons ?o6x3 (opsA_cons ?o7x3 (opsA_cons ?o8x3 (opsA_cons ?o9x3 (opsA_cons ?o10x3 (opsA_cons ?o11x3 (opsA_cons ?o12x3 (opsA_cons ?o13x3 (opsA_cons ?o14x3 (opsA_cons ?o15x3 opsA_nil)))))))))))))))) ?restx3
          case hAx3 =>
            intro ptrs
            simp only [full, foldSlots, filledE, postE, List.foldl_cons, List.foldl_nil, List.getD_cons_zero, List.getD_cons_succ, fill_val, List.set_cons_zero, List.set_cons_succ]
            exact rfl
          case o0x3 => exact fun _ _ _ _ => opE_move (v := .pointer (some ⟨p, 0, none⟩)) _ rfl rfl rfl
          case o1x3 => exact fun _ _ hw _ => opE_call (.val (.int .i64 (c : Int))) rfl _ 16 Try.call16 rfl rfl _ rfl [.pointer (some ⟨p, 0, none⟩)] rfl ((done_any _ p sg n _ _ _ (HD.gro ((Gro.refl _).drew.trans hw))).mono fun e w' ⟨he, hg⟩ => ⟨_, he, hg, rfl⟩)
          case o2x3 => exact fun _ _ _ _ => opE_move (v := .pointer (some ⟨rp, 0, none⟩)) _ rfl rfl rfl
          case o3x3 => exact fun _ _ hw _ => opE_value (v := .pointer (some ⟨rp, 0, none⟩)) rfl (run_nc _ rfl _ rfl)
          case o4x3 => exact fun _ _ hw _ => opE_value (v := .pointer (some ⟨rp, 2, none⟩)) rfl (run_fld 35 _ 2 rfl _ _ rfl _ (by kernel_rfl))
          case o5x3 => exact fun _ _ hw _ => opE_value (v := .int .i64 (c : Int)) rfl (run_ldc 3 _ rfl rp 2 rfl 35 _ ((HR.gro ((Gro.refl _).drew.trans hw)).box) (na3 _) _ rfl)
          case o6x3 => exact fun _ _ hw _ => opE_value (v := .bool false) rfl (run_neq_k 3 .i64 _ _ _ rfl Try.underlying3 (c : Int) (c : Int) rfl rfl false (decide_eq_true rfl) _)
          case o7x3 => exact fun _ _ _ _ => opE_move (v := .bool false) _ rfl rfl rfl
          case o8x3 => exact fun _ _ _ _ => opE_move (v := .pointer (some ⟨p, 0, none⟩)) _ rfl rfl rfl
          case o9x3 => exact fun _ _ hw _ => opE_call (.val (.int .i64 ((n : Nat) : Int))) rfl _ 17 Try.call17 rfl rfl _ rfl [.pointer (some ⟨p, 0, none⟩)] rfl ((size_any _ p sg n _ _ _ (HD.gro ((Gro.refl _).drew.trans hw))).mono fun e w' ⟨he, hg⟩ => ⟨_, he, hg, rfl⟩)
          case o10x3 => exact fun _ _ _ _ => opE_move (v := .pointer (some ⟨rp, 0, none⟩)) _ rfl rfl rfl
          case o11x3 => exact fun _ _ hw _ => opE_value (v := .pointer (some ⟨rp, 0, none⟩)) rfl (run_nc _ rfl _ rfl)
          case o12x3 => exact fun _ _ hw _ => opE_value (v := .pointer (some ⟨rp, 0, none⟩)) rfl (run_fld 35 _ 0 rfl _ _ rfl _ (by kernel_rfl))
          case o13x3 => exact fun _ _ hw _ => opE_value (v := .slice (some ⟨rg, 0, none⟩) (n * 64) (n * 64)) rfl (run_ldc 28 _ rfl rp 0 rfl 35 _ ((HR.gro ((Gro.refl _).drew.trans hw)).box) (na28 _) _ rfl)
          case o14x3 => exact fun _ _ hw _ => opE_value (v := .int .i64 ((n * 64 : Nat) : Int)) rfl (run_len Try.underlying28 _ rfl _ _ _ rfl _)
          case o15x3 => exact fun _ _ hw _ => opE_value (v := .int .i64 ((n : Nat) : Int)) rfl (run_quo64 _ _ _ rfl ((n * 64 : Nat) : Int) 64 _ rfl rfl (by decide) quoN (by omega) (by omega) _)
          intro ptrs w9 GD hxE
          simp only [List.drop_succ_cons, List.drop_zero]
          replace HD := HD.gro ((Gro.refl _).drew.trans GD)
          replace HR := HR.gro ((Gro.refl _).drew.trans GD)
          replace HW := HW.gro ((Gro.refl _).drew.trans GD)
          replace GG := GG.drew.trans GD
          clear GD
          refine s_gval 141 rfl rfl (.bool false) (run_neq_k 3 .i64 _ _ _ rfl Try.underlying3 ((n : Nat) : Int) ((n : Nat) : Int) rfl rfl false (decide_eq_true rfl) _) ?_
          refine nr ?_; intro U h; simp only [z0, z1] at h; subst h
          refine s_val 142 rfl rfl (.bool false) (rfl) ?_
          refine nr ?_; intro U h; simp only [z0, z1] at h; subst h
          refine wpList_nil ?_
          refine then_n ?_
          refine wp_cond_false rfl ?_
          refine wp_skip ?_
          refine blk_n ?_
          refine then_n ?_
          refine wp_region_lit ?_
          refine s_val 143 rfl rfl (.int .i64 ((j + 1 : Nat) : Int)) (run_add64 _ _ _ rfl ((j : Nat) : Int) 1 _ rfl rfl (by omega) (by omega) (by omega) _) ?_
          refine nr ?_; intro U h; simp only [z0, z1] at h; subst h
          refine s_val 29 rfl rfl (.int .i64 ((j + 1 : Nat) : Int)) (rfl) ?_
          refine nr ?_; intro U h; simp only [z0, z1] at h; subst h
          refine wpList_nil ?_
          refine then_n ?_
          exact ⟨_, (by omega : os.length - (j + 1) < os.length - j), j + 1, c, _, _, (fun kz => ([us1 0, .int .i64 ((j : Nat) : Int), .pointer (some ⟨g1, 0, none⟩), us1 3, us1 4, us1 5, .slice (some ⟨gr, 0, none⟩) ((secL L i).length) ((secL L i).length), .int .i64 0, .slice aor ((secL L i).length) capr, .int .i64 0, us2 0, .bool true, .int .i64 ((j : Nat) : Int), .pointer (some (ad.add (j * 3))), .agg (c30 q.k q.i ⟨q.ao, q.l.length, q.cap⟩), .int .i64 ((j : Nat) : Int), .bool false, .pointer (some ⟨g1, 0, none⟩), .int .i64 q.k, .tuple #[.slice (some ⟨gr, 0, none⟩) ((secL L i).length) ((secL L i).length), .int .i64 0], .pointer (some ⟨p, 0, none⟩), .pointer (some ⟨g1, 1, none⟩), .int .i64 q.i, .tuple #[.slice (some ⟨gr, 0, none⟩) ((secL L i).length) ((secL L i).length), .int .i64 0], .slice (some ⟨gr, 0, none⟩) ((secL L i).length) ((secL L i).length), .int .i64 0, .tuple #[.slice aor ((secL L i).length) capr, .int .i64 0], .pointer (some ⟨rp, 0, none⟩), .pointer (some ⟨g1, 1, none⟩), .int .i64 q.i, .tuple #[.slice aor ((secL L i).length) capr, .int .i64 0], .slice aor ((secL L i).length) capr, .int .i64 0, .slice (some ⟨gr, 0, none⟩) ((secL L i).length) ((secL L i).length), .string (bas (secL L i)), .slice aor ((secL L i).length) capr, .string (bas (secL L i)), .bool false, .bool false, .int .i64 0, .int .i64 0, .bool false, .bool false, .slice (some ⟨gr, 0, none⟩) ((secL L i).length) ((secL L i).length), .int .i64 (((secL L i).length : Nat) : Int), .int .i64 ((k : Nat) : Int), .bool false, us2 2, us2 3, us2 4, us2 5, us2 6, us2 7, us2 8, us2 9, .bool false, .bool false, us1 57, us1 58, us1 59, us1 60, us1 61, us1 62, us1 63, us1 64, us1 65, us1 66, us1 67, us1 68, us1 69, us1 70, us1 71, us1 72, us1 73, us1 74, us1 75, us1 76, us1 77, us1 78, us1 79, us1 80, us1 81, us1 82, us1 83, us1 84, us1 85, us1 86, us1 87, us1 88, us1 89, us1 90, us1 91, us1 92, us1 93, .bool false, .bool false, us1 96, us1 97, us1 98, us1 99, us1 100, us1 101, us1 102, us1 103, us1 104, us1 105, .pointer (some ⟨p, 0, none⟩), .int .i64 (c : Int), .pointer (some ⟨rp, 0, none⟩), .pointer (some ⟨rp, 0, none⟩), .pointer (some ⟨rp, 2, none⟩), .int .i64 (c : Int), .bool false, .bool false, .pointer (some ⟨p, 0, none⟩), .int .i64 ((n : Nat) : Int), .pointer (some ⟨rp, 0, none⟩), .pointer (some ⟨rp, 0, none⟩), .pointer (some ⟨rp, 0, none⟩), .slice (some ⟨rg, 0, none⟩) (n * 64) (n * 64), .int .i64 ((n * 64 : Nat) : Int), .int .i64 ((n : Nat) : Int), .bool false, .bool false, .int .i64 ((j + 1 : Nat) : Int)] : List Value).getD kz undef), rfl, rfl, (by omega), (by omega), (by omega), hP, GG, HD, HR⟩
        have hjn : k < (secL L i).length := by have := of_decide_eq_true hp5; omega
        refine wpList_nil ?_
        refine then_n ?_
        refine wp_seq ?_
        refine wp_cond_true rfl ?_
        refine wp_skip ?_
        refine then_n ?_
        refine wp_seq ?_
        refine wp_block ?_
        refine wp_seq ?_
        refine wp_region_lit ?_
        refine s_val 66 rfl rfl (.int .i64 ((k : Nat) : Int)) (rfl) ?_
        refine nr ?_; intro U h; simp only [z0, z1] at h; subst h
        refine s_val 16 rfl rfl (.int .i64 ((k : Nat) : Int)) (rfl) ?_
        refine nr ?_; intro U h; simp only [z0, z1] at h; subst h
        refine wpList_nil ?_
        refine then_n ?_
        refine wp_region_lit ?_
        refine s_val 67 rfl rfl (.slice (some ⟨gr, 0, none⟩) ((secL L i).length) ((secL L i).length)) (rfl) ?_
        refine nr ?_; intro U h; simp only [z0, z1] at h; subst h
        refine s_val 68 rfl rfl (.int .i64 ((k : Nat) : Int)) (rfl) ?_
        refine nr ?_; intro U h; simp only [z0, z1] at h; subst h
        obtain ⟨gi, cur, hgi, hBi, ki, hci, hmi, hsi, hti⟩ := HW.blk (j := k) (by omega)
        refine s_val 69 rfl rfl (.pointer (some ⟨gi, k, none⟩)) (bat _ _ rfl gi (secL L i).length (secL L i).length k (by exact congrArg (fun a => Value.slice a (secL L i).length (secL L i).length) hgi) rfl (by omega) _) ?_
        refine nr ?_; intro U h; simp only [z0, z1] at h; subst h
        refine s_val 70 rfl rfl (.int .u8 ((l1.getD k 0 : Nat) : Int)) (run_ld bT _ rfl ⟨gi, k, none⟩ rfl _ _ (HW.cellv hgi (by omega))) ?_
        refine nr ?_; intro U h; simp only [z0, z1] at h; subst h
        refine s_val 71 rfl rfl (.int .u8 ((inc8 (l1.getD k 0) : Nat) : Int)) (run_inc8 _ _ _ rfl (l1.getD k 0) rfl rfl _) ?_
        refine nr ?_; intro U h; simp only [z0, z1] at h; subst h
        refine s_val 72 rfl rfl (.pointer (some ⟨gi, k, none⟩)) (bat _ _ rfl gi (secL L i).length (secL L i).length k (by exact congrArg (fun a => Value.slice a (secL L i).length (secL L i).length) hgi) rfl (by omega) _) ?_
        refine nr ?_; intro U h; simp only [z0, z1] at h; subst h
        refine s_store rfl rfl 5 _ _ rfl gi k rfl (.int .u8 ((inc8 (l1.getD k 0) : Nat) : Int)) rfl 5 _ ki #[.int .u8 ((inc8 (l1.getD k 0) : Nat) : Int)] rfl si5 (by simp only [List.size_toArray, List.length_cons, List.length_nil]; omega) (one1 _) _ rfl ?_
        intro w9 St
        have hap := HA _ hgi
        have hap1 := hap.1
        have hap2 := hap.2
        replace HD := HD.st St hap1 hap2.1
        replace HR := HR.st St hap2.2.1 hap2.2.2
        replace HW := HW.put hgi ki (by omega) (inc8 (l1.getD k 0)) (inc8_le _) St
        replace GG := GG.store St hBi
        clear St hap hap1 hap2
        refine wpList_nil ?_
        refine blk_n ?_
        refine then_n ?_
        refine wp_region_lit ?_
        refine s_val 73 rfl rfl (.int .i64 ((k + 1 : Nat) : Int)) (run_add64 _ _ _ rfl ((k : Nat) : Int) 1 _ rfl rfl (by omega) (by omega) (by omega) _) ?_
        refine nr ?_; intro U h; simp only [z0, z1] at h; subst h
        refine s_val 64 rfl rfl (.int .i64 ((k + 1 : Nat) : Int)) (rfl) ?_
        refine nr ?_; intro U h; simp only [z0, z1] at h; subst h
        refine wpList_nil ?_
        refine then_n ?_
        exact ⟨_, (by omega : (secL L i).length - (k + 1) < (secL L i).length - k), k + 1, _, (fun kz => ([.int .i64 ((k : Nat) : Int), .bool true, .int .i64 ((k : Nat) : Int), .slice (some ⟨gr, 0, none⟩) ((secL L i).length) ((secL L i).length), .int .i64 ((k : Nat) : Int), .pointer (some ⟨gi, k, none⟩), .int .u8 ((l1.getD k 0 : Nat) : Int), .int .u8 ((inc8 (l1.getD k 0) : Nat) : Int), .pointer (some ⟨gi, k, none⟩), .int .i64 ((k + 1 : Nat) : Int)] : List Value).getD kz undef), rfl, rfl, (by omega), (by rw [List.length_set]; exact hl1), GG, HW, HD, HR⟩
      refine s_val 113 rfl rfl (.bool true) (rfl) ?_
      refine nr ?_; intro U h; simp only [z0, z1] at h; subst h
      refine wpList_nil ?_
      refine then_n ?_
      refine wp_cond_true rfl ?_
      refine wp_seq ?_
      refine wp_region_lit ?_
      refine s_val 115 rfl rfl (.pointer (some ⟨p, 0, none⟩)) (rfl) ?_
      refine nr ?_; intro U h; simp only [z0, z1] at h; subst h
      refine s_val 116 rfl rfl (.pointer (some ⟨g1, 1, none⟩)) (run_fld 30 _ 1 rfl _ _ rfl _ (by kernel_rfl)) ?_
      refine nr ?_; intro U h; simp only [z0, z1] at h; subst h
      refine s_val 117 rfl rfl (.int .i64 q.i) (run_ldc 3 _ rfl g1 1 rfl 30 _ kg1 (na3 _) _ rfl) ?_
      refine nr ?_; intro U h; simp only [z0, z1] at h; subst h
      refine s_callx 118 rfl rfl _ 13 Try.call13 rfl rfl _ rfl [.pointer (some ⟨p, 0, none⟩), .int .i64 q.i] rfl (power_any _ p sg n _ _ _ HD q.i) (fun _ _ ⟨he, _⟩ => ⟨_, he⟩) ?_
      rintro v w7 ⟨he, G, HD2⟩
      cases he
      replace kg1 := G.has kg1 (by simp; omega)
      replace GG := G.gro GG (by simp; omega)
      replace HR := HR.gros G (by simp; omega) (by simp; omega)
      clear G HD
      have HD := HD2
      clear HD2
      refine nr ?_; intro U h; simp only [z0, z1] at h; subst h
      refine wpList_nil ?_
      refine then_n ?_
      refine wp_region_lit ?_
      refine s_val 119 rfl rfl (.pointer (some ⟨rp, 0, none⟩)) (rfl) ?_
      refine nr ?_; intro U h; simp only [z0, z1] at h; subst h
      refine s_val 120 rfl rfl (.pointer (some ⟨g1, 1, none⟩)) (run_fld 30 _ 1 rfl _ _ rfl _ (by kernel_rfl)) ?_
      refine nr ?_; intro U h; simp only [z0, z1] at h; subst h
      refine s_val 121 rfl rfl (.int .i64 q.i) (run_ldc 3 _ rfl g1 1 rfl 30 _ kg1 (na3 _) _ rfl) ?_
      refine nr ?_; intro U h; simp only [z0, z1] at h; subst h
      refine s_val 122 rfl rfl (.int .i64 (max q.i (-1))) (run_max64 _ _ _ rfl q.i (-1) _ rfl rfl rfl _) ?_
      refine nr ?_; intro U h; simp only [z0, z1] at h; subst h
      refine s_val 123 rfl rfl (.pointer (some ⟨rp, 0, none⟩)) (run_nc _ rfl _ rfl) ?_
      refine nr ?_; intro U h; simp only [z0, z1] at h; subst h
      refine s_val 124 rfl rfl (.pointer (some ⟨rp, 1, none⟩)) (run_fld 35 _ 1 rfl _ _ rfl _ (by kernel_rfl)) ?_
      refine nr ?_; intro U h; simp only [z0, z1] at h; subst h
      refine s_store rfl rfl 3 _ _ rfl rp 1 rfl (.int .i64 (max q.i (-1))) rfl 35 _ HR.box #[.int .i64 (max q.i (-1))] rfl si3 (Nat.le_of_ble_eq_true rfl) (by kernel_rfl) (c35 ⟨some ⟨rg, 0, none⟩, n * 64, n * 64⟩ (max q.i (-1)) c) (by kernel_rfl) ?_
      intro w8 St
      replace kg1 := St.has (by omega) kg1
      replace HD := HD.st St (by omega) (by omega)
      replace GG := GG.store St brp
      replace HR : RK _ rp rg n L (max q.i (-1)) c := ⟨St.new, St.has (Ne.symm HR.ne) HR.sec, HR.len, HR.le, HR.byte, HR.ne⟩
      clear St
      refine wpList_nil ?_
      refine blk_n ?_
      refine then_n ?_
      refine wp_seq ?_
      refine wp_region_exA (A := ?Ax4) 16 [(0, 125), (1, 126), (2, 127), (3, 128), (4, 129), (5, 130), (6, 131), (7, 132), (8, 133), (9, 134), (10, 135), (11, 136), (12, 137), (13, 138), (14, 139), (15, 140)] [.val (.pointer (some ⟨p, 0, none⟩)), .val (.int .i64 (c : Int)), .val (.pointer (some ⟨rp, 0, none⟩)), .val (.pointer (some ⟨rp, 0, none⟩)), .val (.pointer (some ⟨rp, 2, none⟩)), .val (.int .i64 (c : Int)), .val (.bool false), .val (.bool false), .val (.pointer (some ⟨p, 0, none⟩)), .val (.int .i64 ((n : Nat) : Int)), .val (.pointer (some ⟨rp, 0, none⟩)), .val (.pointer (some ⟨rp, 0, none⟩)), .val (.pointer (some ⟨rp, 0, none⟩)), .val (.slice (some ⟨rg, 0, none⟩) (n * 64) (n * 64)), .val (.int .i64 ((n * 64 : Nat) : Int)), .val (.int .i64 ((n : Nat) : Int))] follows (by kernel_rfl) rfl ?hAx4 (opsA_cons ?o0x4 (opsA_cons ?o1x4 (opsA_cons ?o2x4 (opsA_cons ?o3x4 (opsA_cons ?o4x4 (opsA_cons ?o5x4 (opsA_cons ?o6x4 (opsA_cons ?o7x4 (opsA_cons ?o8x4 (opsA_cons ?o9x4 (opsA_cons ?o10x4 (opsA_cons ?o11x4 (opsA_cons ?o12x4 (opsA_cons ?o13x4 (opsA_cons ?o14x4 (opsA_cons ?o15x4 opsA_nil)))))))))))))))) ?restx4
      case hAx4 =>
        intro ptrs
        simp only [full, foldSlots, filledE, postE, List.foldl_cons, List.foldl_nil, List.getD_cons_zero, List.getD_cons_succ, fill_val, List.set_cons_zero, List.set_cons_succ]
        exact rfl
      case o0x4 => exact fun _ _ _ _ => opE_move (v := .pointer (some ⟨p, 0, none⟩)) _ rfl rfl rfl
      case o1x4 => exact fun _ _ hw _ => opE_call (.val (.int .i64 (c : Int))) rfl _ 16 Try.call16 rfl rfl _ rfl [.pointer (some ⟨p, 0, none⟩)] rfl ((done_any _ p sg n _ _ _ (HD.gro ((Gro.refl _).drew.trans hw))).mono fun e w' ⟨he, hg⟩ => ⟨_, he, hg, rfl⟩)
      case o2x4 => exact fun _ _ _ _ => opE_move (v := .pointer (some ⟨rp, 0, none⟩)) _ rfl rfl rfl
      case o3x4 => exact fun _ _ hw _ => opE_value (v := .pointer (some ⟨rp, 0, none⟩)) rfl (run_nc _ rfl _ rfl)
      case o4x4 => exact fun _ _ hw _ => opE_value (v := .pointer (some ⟨rp, 2, none⟩)) rfl (run_fld 35 _ 2 rfl _ _ rfl _ (by kernel_rfl))
      case o5x4 => exact fun _ _ hw _ => opE_value (v := .int .i64 (c : Int)) rfl (run_ldc 3 _ rfl rp 2 rfl 35 _ ((HR.gro ((Gro.refl _).drew.trans hw)).box) (na3 _) _ rfl)
      case o6x4 => exact fun _ _ hw _ => opE_value (v := .bool false) rfl (run_neq_k 3 .i64 _ _ _ rfl Try.underlying3 (c : Int) (c : Int) rfl rfl false (decide_eq_true rfl) _)
      case o7x4 => exact fun _ _ _ _ => opE_move (v := .bool false) _ rfl rfl rfl
      case o8x4 => exact fun _ _ _ _ => opE_move (v := .pointer (some ⟨p, 0, none⟩)) _ rfl rfl rfl
      case o9x4 => exact fun _ _ hw _ => opE_call (.val (.int .i64 ((n : Nat) : Int))) rfl _ 17 Try.call17 rfl rfl _ rfl [.pointer (some ⟨p, 0, none⟩)] rfl ((size_any _ p sg n _ _ _ (HD.gro ((Gro.refl _).drew.trans hw))).mono fun e w' ⟨he, hg⟩ => ⟨_, he, hg, rfl⟩)
      case o10x4 => exact fun _ _ _ _ => opE_move (v := .pointer (some ⟨rp, 0, none⟩)) _ rfl rfl rfl
      case o11x4 => exact fun _ _ hw _ => opE_value (v := .pointer (some ⟨rp, 0, none⟩)) rfl (run_nc _ rfl _ rfl)
      case o12x4 => exact fun _ _ hw _ => opE_value (v := .pointer (some ⟨rp, 0, none⟩)) rfl (run_fld 35 _ 0 rfl _ _ rfl _ (by kernel_rfl))
      case o13x4 => exact fun _ _ hw _ => opE_value (v := .slice (some ⟨rg, 0, none⟩) (n * 64) (n * 64)) rfl (run_ldc 28 _ rfl rp 0 rfl 35 _ ((HR.gro ((Gro.refl _).drew.trans hw)).box) (na28 _) _ rfl)
      case o14x4 => exact fun _ _ hw _ => opE_value (v := .int .i64 ((n * 64 : Nat) : Int)) rfl (run_len Try.underlying28 _ rfl _ _ _ rfl _)
      case o15x4 => exact fun _ _ hw _ => opE_value (v := .int .i64 ((n : Nat) : Int)) rfl (run_quo64 _ _ _ rfl ((n * 64 : Nat) : Int) 64 _ rfl rfl (by decide) quoN (by omega) (by omega) _)
      intro ptrs w9 GD hxE
      simp only [List.drop_succ_cons, List.drop_zero]
      replace kg1 := GD.has kg1
      replace HD := HD.gro ((Gro.refl _).drew.trans GD)
      replace HR := HR.gro ((Gro.refl _).drew.trans GD)
      replace GG := GG.drew.trans GD
      clear GD
      refine s_gval 141 rfl rfl (.bool false) (run_neq_k 3 .i64 _ _ _ rfl Try.underlying3 ((n : Nat) : Int) ((n : Nat) : Int) rfl rfl false (decide_eq_true rfl) _) ?_
      refine nr ?_; intro U h; simp only [z0, z1] at h; subst h
      refine s_val 142 rfl rfl (.bool false) (rfl) ?_
      refine nr ?_; intro U h; simp only [z0, z1] at h; subst h
      refine wpList_nil ?_
      refine then_n ?_
      refine wp_cond_false rfl ?_
      refine wp_skip ?_
      refine blk_n ?_
      refine then_n ?_
      refine wp_region_lit ?_
      refine s_val 143 rfl rfl (.int .i64 ((j + 1 : Nat) : Int)) (run_add64 _ _ _ rfl ((j : Nat) : Int) 1 _ rfl rfl (by omega) (by omega) (by omega) _) ?_
      refine nr ?_; intro U h; simp only [z0, z1] at h; subst h
      refine s_val 29 rfl rfl (.int .i64 ((j + 1 : Nat) : Int)) (rfl) ?_
      refine nr ?_; intro U h; simp only [z0, z1] at h; subst h
      refine wpList_nil ?_
      refine then_n ?_
      exact ⟨_, (by omega : os.length - (j + 1) < os.length - j), j + 1, c, _, _, (fun kz => ([us1 0, .int .i64 ((j : Nat) : Int), .pointer (some ⟨g1, 0, none⟩), us1 3, us1 4, us1 5, us1 6, us1 7, us1 8, us1 9, us1 10, .bool true, .int .i64 ((j : Nat) : Int), .pointer (some (ad.add (j * 3))), .agg (c30 q.k q.i ⟨q.ao, q.l.length, q.cap⟩), .int .i64 ((j : Nat) : Int), .bool false, .pointer (some ⟨g1, 0, none⟩), .int .i64 q.k, us1 19, us1 20, us1 21, us1 22, us1 23, us1 24, us1 25, us1 26, us1 27, us1 28, us1 29, us1 30, us1 31, us1 32, us1 33, us1 34, us1 35, us1 36, us1 37, us1 38, us1 39, us1 40, us1 41, us1 42, us1 43, us1 44, us1 45, us1 46, us1 47, us1 48, us1 49, us1 50, us1 51, us1 52, us1 53, us1 54, .bool false, .bool false, us1 57, us1 58, us1 59, us1 60, us1 61, us1 62, us1 63, us1 64, us1 65, us1 66, us1 67, us1 68, us1 69, us1 70, us1 71, us1 72, us1 73, us1 74, us1 75, us1 76, us1 77, us1 78, us1 79, us1 80, us1 81, us1 82, us1 83, us1 84, us1 85, us1 86, us1 87, us1 88, us1 89, us1 90, us1 91, us1 92, us1 93, .bool true, .bool true, .pointer (some ⟨p, 0, none⟩), .pointer (some ⟨g1, 1, none⟩), .int .i64 q.i, .tuple #[], .pointer (some ⟨rp, 0, none⟩), .pointer (some ⟨g1, 1, none⟩), .int .i64 q.i, .int .i64 (max q.i (-1)), .pointer (some ⟨rp, 0, none⟩), .pointer (some ⟨rp, 1, none⟩), .pointer (some ⟨p, 0, none⟩), .int .i64 (c : Int), .pointer (some ⟨rp, 0, none⟩), .pointer (some ⟨rp, 0, none⟩), .pointer (some ⟨rp, 2, none⟩), .int .i64 (c : Int), .bool false, .bool false, .pointer (some ⟨p, 0, none⟩), .int .i64 ((n : Nat) : Int), .pointer (some ⟨rp, 0, none⟩), .pointer (some ⟨rp, 0, none⟩), .pointer (some ⟨rp, 0, none⟩), .slice (some ⟨rg, 0, none⟩) (n * 64) (n * 64), .int .i64 ((n * 64 : Nat) : Int), .int .i64 ((n : Nat) : Int), .bool false, .bool false, .int .i64 ((j + 1 : Nat) : Int)] : List Value).getD kz undef), rfl, rfl, (by omega), (by omega), (by omega), okP.set (HO.num q hqm).2, GG, HD, HR⟩
    have hk0 := of_decide_eq_true hp3
    refine s_val 74 rfl rfl (.bool true) (rfl) ?_
    refine nr ?_; intro U h; simp only [z0, z1] at h; subst h
    refine wpList_nil ?_
    refine then_n ?_
    refine wp_cond_true rfl ?_
    refine wp_seq ?_
    refine wp_region_lit ?_
    refine s_bsl 76 rfl rfl 28 0 _ rfl [] rfl #[] 5 (by kernel_rfl) ?_
    intro w7 gb G egb kgb
    have bgb := size_base GG egb
    have dg1gb := lt_new kg1 egb
    have dn0gb := lt_new HD.box egb
    have dn1gb := lt_new HD.sec egb
    have dn2gb := lt_new HR.box egb
    have dn3gb := lt_new HR.sec egb
    replace kg1 := G.has kg1
    replace HD := HD.gro G
    replace HR := HR.gro G
    replace GG := GG.trans G
    clear G egb
    refine nr ?_; intro U h; simp only [z0, z1] at h; subst h
    refine s_val 77 rfl rfl (.pointer (some ⟨g1, 2, none⟩)) (run_fld 30 _ 2 rfl _ _ rfl _ (by kernel_rfl)) ?_
    refine nr ?_; intro U h; simp only [z0, z1] at h; subst h
    refine s_val 78 rfl rfl (.slice q.ao q.l.length q.cap) (run_ldc 28 _ rfl g1 2 rfl 30 _ kg1 (na28 _) _ rfl) ?_
    refine nr ?_; intro U h; simp only [z0, z1] at h; subst h
    have hbo : g1 < gb := by omega
    have HW : OB _ 5 .u8 gb (some ⟨gb, 0, none⟩) 0 [] := OB.made kgb (Nat.le_refl _) (Nat.le_refl _) (Nat.zero_le _) rfl rfl (fun x hx => by cases hx)
    refine s_app bT 79 rfl rfl _ _ rfl rfl HW (l' := q.l) rfl ((HO.row q hqm).gro GG) (by simp only [List.length_nil]; omega) (by decide) (Nat.le_of_lt (lt_of_heap kgb)) ?_
    intro ao2 cap2 w8 HO2 BB
    rw [List.nil_append] at HO2
    simp only [List.nil_append]
    replace kg1 := below_has BB kg1 hbo
    have HA : ∀ ad, ao2 = some ad → ad.block ≠ p ∧ ad.block ≠ sg ∧ ad.block ≠ rp ∧ ad.block ≠ rg := fun ad ha => by have := HO2.ge ad ha; omega
    clear HW
    have HW := HO2.mono bgb
    clear HO2
    replace HD := HD.below BB (by have := lt_of_heap HD.box; omega) (by have := lt_of_heap HD.sec; omega)
    replace HR := HR.below BB (by have := lt_of_heap HR.box; omega) (by have := lt_of_heap HR.sec; omega)
    replace GG := below_gro GG BB bgb
    clear kgb BB
    refine nr ?_; intro U h; simp only [z0, z1] at h; subst h
    refine s_val 9 rfl rfl (.slice ao2 q.l.length cap2) (rfl) ?_
    refine nr ?_; intro U h; simp only [z0, z1] at h; subst h
    refine wpList_nil ?_
    refine then_n ?_
    refine wp_seq ?_
    refine wp_region_lit ?_
    refine s_val 80 rfl rfl (.pointer (some ⟨p, 0, none⟩)) (rfl) ?_
    refine nr ?_; intro U h; simp only [z0, z1] at h; subst h
    refine s_val 81 rfl rfl (.pointer (some ⟨g1, 1, none⟩)) (run_fld 30 _ 1 rfl _ _ rfl _ (by kernel_rfl)) ?_
    refine nr ?_; intro U h; simp only [z0, z1] at h; subst h
    refine s_val 82 rfl rfl (.int .i64 q.i) (run_ldc 3 _ rfl g1 1 rfl 30 _ kg1 (na3 _) _ rfl) ?_
    refine nr ?_; intro U h; simp only [z0, z1] at h; subst h
    refine s_val 83 rfl rfl (.slice ao2 q.l.length cap2) (rfl) ?_
    refine nr ?_; intro U h; simp only [z0, z1] at h; subst h
    rcases ways n q.i q.l.length with ⟨hB, hi⟩ | ⟨hB, hi, hi2⟩ | ⟨i, hiq, hi, hl⟩ | ⟨i, hiq, hi, hl⟩
    · refine s_callv 84 rfl rfl _ 11 Try.call11 rfl rfl _ rfl [.pointer (some ⟨p, 0, none⟩), .int .i64 q.i, .slice ao2 q.l.length cap2] rfl (write_bad _ p sg n L pw c HD ao2 cap2 q.l q.i hB) ?_
      intro w9 G
      replace kg1 := G.has kg1
      replace HD := HD.gro G
      replace HR := HR.gro G
      replace HW := HW.gro G
      replace GG := GG.trans G
      clear G
      refine nr ?_; intro U h; simp only [z0, z1] at h; subst h
      refine s_val 10 rfl rfl (.int .i64 1) (rfl) ?_
      refine nr ?_; intro U h; simp only [z0, z1] at h; subst h
      refine wpList_nil ?_
      refine then_n ?_
      refine wp_seq ?_
      refine wp_seq ?_
      refine wp_region_opq ?_
      intro OPS hY
      have y8 := hY 8 93 rfl
      clear hY
      refine s_val 85 rfl rfl (.int .i64 1) (rfl) ?_
      refine nr ?_; intro U h; simp only [z0, z1] at h; subst h
      refine s_val 86 rfl rfl (.pointer (some ⟨rp, 0, none⟩)) (rfl) ?_
      refine nr ?_; intro U h; simp only [z0, z1] at h; subst h
      refine s_val 87 rfl rfl (.pointer (some ⟨g1, 1, none⟩)) (run_fld 30 _ 1 rfl _ _ rfl _ (by kernel_rfl)) ?_
      refine nr ?_; intro U h; simp only [z0, z1] at h; subst h
      refine s_val 88 rfl rfl (.int .i64 q.i) (run_ldc 3 _ rfl g1 1 rfl 30 _ kg1 (na3 _) _ rfl) ?_
      refine nr ?_; intro U h; simp only [z0, z1] at h; subst h
      refine s_val 89 rfl rfl (.pointer (some ⟨g1, 2, none⟩)) (run_fld 30 _ 2 rfl _ _ rfl _ (by kernel_rfl)) ?_
      refine nr ?_; intro U h; simp only [z0, z1] at h; subst h
      refine s_val 90 rfl rfl (.slice q.ao q.l.length q.cap) (run_ldc 28 _ rfl g1 2 rfl 30 _ kg1 (na28 _) _ rfl) ?_
      refine nr ?_; intro U h; simp only [z0, z1] at h; subst h
      refine s_callv 91 rfl rfl _ 12 Try.call12 rfl rfl _ rfl [.pointer (some ⟨rp, 0, none⟩), .int .i64 q.i, .slice q.ao q.l.length q.cap] rfl (rwrite_bad _ rp rg n L pw c HR q.ao q.cap q.l q.i hB) ?_
      intro w10 G
      replace kg1 := G.has kg1
      replace HD := HD.gro G
      replace HR := HR.gro G
      replace HW := HW.gro G
      replace GG := GG.trans G
      clear G
      refine nr ?_; intro U h; simp only [z0, z1] at h; subst h
      refine s_val 92 rfl rfl (.bool false) (run_neq_k 31 .i64 _ _ _ rfl Try.underlying31 _ _ rfl rfl false rfl _) ?_
      refine nr ?_; intro U h; simp only [z0, z1] at h; subst h
      refine s_val 93 rfl rfl (.bool false) (rfl) ?_
      refine nr ?_; intro U h; simp only [z0, z1] at h; subst h
      refine s_gvalY 94 rfl rfl y8 rfl (.slice ao2 q.l.length cap2) (rfl) ?_
      refine nr ?_; intro U h; simp only [z0, z1] at h; subst h
      refine s_gvalY 95 rfl rfl y8 rfl (.string (bas q.l)) (run_text_op bT 9 Try.underlying9 _ rfl rfl HW.nc) ?_
      refine nr ?_; intro U h; simp only [z0, z1] at h; subst h
      refine s_gvalY 96 rfl rfl y8 rfl (.pointer (some ⟨g1, 2, none⟩)) (run_fld 30 _ 2 rfl _ _ rfl _ (by kernel_rfl)) ?_
      refine nr ?_; intro U h; simp only [z0, z1] at h; subst h
      refine s_gvalY 97 rfl rfl y8 rfl (.slice q.ao q.l.length q.cap) (run_ldc 28 _ rfl g1 2 rfl 30 _ kg1 (na28 _) _ rfl) ?_
      refine nr ?_; intro U h; simp only [z0, z1] at h; subst h
      refine s_gvalY 98 rfl rfl y8 rfl (.string (bas q.l)) (run_text_op bT 9 Try.underlying9 _ rfl rfl ((HO.row q hqm).gro GG)) ?_
      refine nr ?_; intro U h; simp only [z0, z1] at h; subst h
      refine s_gvalY 99 rfl rfl y8 rfl (.bool false) (run_nes_op _ _ _ rfl _ _ rfl rfl false (decide_eq_true rfl) _) ?_
      refine nr ?_; intro U h; simp only [z0, z1] at h; subst h
      refine s_val 100 rfl rfl (.bool false) (rfl) ?_
      refine nr ?_; intro U h; simp only [z0, z1] at h; subst h
      refine wpList_nil ?_
      refine then_n ?_
      refine wp_cond_false rfl ?_
      refine wp_skip ?_
      refine then_n ?_
      refine wp_seq ?_
      refine wp_region_lit ?_
      refine s_val 101 rfl rfl (.slice ao2 q.l.length cap2) (rfl) ?_
      refine nr ?_; intro U h; simp only [z0, z1] at h; subst h
      refine s_val 102 rfl rfl (.int .i64 ((q.l.length : Nat) : Int)) (run_len Try.underlying28 _ rfl _ _ _ rfl _) ?_
      refine nr ?_; intro U h; simp only [z0, z1] at h; subst h
      refine s_val 103 rfl rfl (.int .i64 0) (rfl) ?_
      refine nr ?_; intro U h; simp only [z0, z1] at h; subst h
      refine wpList_nil ?_
      refine then_n ?_
      refine wp_block ?_
      refine wp_loopN (fun mz az wv => ∃ (k : Nat) (l1 : List Nat) (us2 : Nat → Value), mz = q.l.length - k ∧ az = ⟨[.int .i64 sectors, .slice ao os.length cap, undef, undef, us1 0, .pointer (some ⟨p, 0, none⟩), .pointer (some ⟨rp, 0, none⟩), .int .i64 ((j : Nat) : Int), .pointer (some ⟨g1, 0, none⟩), .slice ao2 q.l.length cap2, .int .i64 1, us2 0, us1 6, us1 7, us1 8, us1 9, us1 10, .int .i64 sectors, .pointer (some ⟨p, 0, none⟩), .int .i64 sectors, .pointer (some ⟨rp, 0, none⟩), .bool true, .bool false, .bool false, .pointer (some ⟨p, 0, none⟩), .bool false, .bool false, .slice ao os.length cap, .int .i64 ((os.length : Nat) : Int), .int .i64 ((j : Nat) : Int), .bool true, .int .i64 ((j : Nat) : Int), .pointer (some (ad.add (j * 3))), .agg (c30 q.k q.i ⟨q.ao, q.l.length, q.cap⟩), .int .i64 ((j : Nat) : Int), .bool false, .pointer (some ⟨g1, 0, none⟩), .int .i64 q.k, us1 19, us1 20, us1 21, us1 22, us1 23, us1 24, us1 25, us1 26, us1 27, us1 28, us1 29, us1 30, us1 31, us1 32, us1 33, us1 34, us1 35, us1 36, us1 37, us1 38, us1 39, us1 40, us1 41, us1 42, us1 43, us1 44, us1 45, us1 46, us1 47, us1 48, us1 49, us1 50, us1 51, us1 52, us1 53, us1 54, .bool true, .bool true, .slice (some ⟨gb, 0, none⟩) (([] : List Nat).length) 0, .pointer (some ⟨g1, 2, none⟩), .slice q.ao q.l.length q.cap, .slice ao2 q.l.length cap2, .pointer (some ⟨p, 0, none⟩), .pointer (some ⟨g1, 1, none⟩), .int .i64 q.i, .slice ao2 q.l.length cap2, .int .i64 1, .int .i64 1, .pointer (some ⟨rp, 0, none⟩), .pointer (some ⟨g1, 1, none⟩), .int .i64 q.i, .pointer (some ⟨g1, 2, none⟩), .slice q.ao q.l.length q.cap, .int .i64 1, .bool false, .bool false, .slice ao2 q.l.length cap2, .string (bas q.l), .pointer (some ⟨g1, 2, none⟩), .slice q.ao q.l.length q.cap, .string (bas q.l), .bool false, .bool false, .slice ao2 q.l.length cap2, .int .i64 ((q.l.length : Nat) : Int), .int .i64 ((k : Nat) : Int), us2 1, us2 2, us2 3, us2 4, us2 5, us2 6, us2 7, us2 8, us2 9, us1 94, us1 95, us1 96, us1 97, us1 98, us1 99, us1 100, us1 101, us1 102, us1 103, us1 104, us1 105, us1 106, us1 107, us1 108, us1 109, us1 110, us1 111, us1 112, us1 113, us1 114, us1 115, us1 116, us1 117, us1 118, us1 119, us1 120, us1 121, us1 122, us1 123, us1 124, undef, undef, undef, undef, undef, undef, undef, undef, undef].toArray, []⟩ ∧ k ≤ q.l.length ∧ l1.length = q.l.length ∧ Gro w wv ∧ OB wv 5 .u8 w.heap.size ao2 cap2 l1 ∧ DK wv p sg n L pw (c : Int) ∧ RK wv rp rg n L pw (c : Int)) ?_ _ ⟨0, _, (fun kz => ([us1 5, us1 85, us1 86, us1 87, us1 88, us1 89, us1 90, us1 91, us1 92, us1 93] : List Value).getD kz undef), rfl, rfl, Nat.zero_le _, rfl, GG, HW, HD, HR⟩
      clear GG HD HR HW
      rintro mz az wv ⟨k, l1, us2, rfl, rfl, hj, hl1, GG, HW, HD, HR⟩
      refine wp_seq ?_
      refine wp_region_lit ?_
      obtain ⟨p4, hp4⟩ : ∃ p, decide (((k : Nat) : Int) < ((q.l.length : Nat) : Int)) = p := ⟨_, rfl⟩
      refine s_val 104 rfl rfl (.bool p4) (run_lssT 3 _ _ _ rfl ((k : Nat) : Int) ((q.l.length : Nat) : Int) rfl rfl p4 hp4 _) ?_
      refine nr ?_; intro U h; simp only [z0, z1] at h; subst h
      cases p4
      · refine wpList_nil ?_
        refine then_n ?_
        refine wp_seq ?_
        refine wp_cond_false rfl ?_
        refine wp_exit ?_
        refine then_x ?_
        refine then_x ?_
        refine blk_x ?_
        refine blk_n ?_
        refine then_n ?_
        refine wp_seq ?_
        refine wp_region_exA (A := ?Ax5) 16 [(0, 125), (1, 126), (2, 127), (3, 128), (4, 129), (5, 130), (6, 131), (7, 132), (8, 133), (9, 134), (10, 135), (11, 136), (12, 137), (13, 138), (14, 139), (15, 140)] [.val (.pointer (some ⟨p, 0, none⟩)), .val (.int .i64 (c : Int)), .val (.pointer (some ⟨rp, 0, none⟩)), .val (.pointer (some ⟨rp, 0, none⟩)), .val (.pointer (some ⟨rp, 2, none⟩)), .val (.int .i64 (c : Int)), .val (.bool false), .val (.bool false), .val (.pointer (some ⟨p, 0, none⟩)), .val (.int .i64 ((n : Nat) : Int)), .val (.pointer (some ⟨rp, 0, none⟩)), .val (.pointer (some ⟨rp, 0, none⟩)), .val (.pointer (some ⟨rp, 0, none⟩)), .val (.slice (some ⟨rg, 0, none⟩) (n * 64) (n * 64)), .val (.int .i64 ((n * 64 : Nat) : Int)), .val (.int .i64 ((n : Nat) : Int))] follows (by kernel_rfl) rfl ?hAx5 (opsA_cons ?o0x5 (opsA_cons ?o1x5 (opsA_cons ?o2x5 (opsA_cons ?o3x5 (opsA_cons ?o4x5 (opsA_cons ?o5x5 (opsA_cons ?o6x5 (opsA_cons ?o7x5 (opsA_cons ?o8x5 (opsA_cons ?o9x5 (opsA_cons ?o10x5 (opsA_cons ?o11x5 (opsA_cons ?o12x5 (opsA_cons ?o13x5 (opsA_cons ?o14x5 (opsA_cons ?o15x5 opsA_nil)))))))))))))))) ?restx5
        case hAx5 =>
          intro ptrs
          simp only [full, foldSlots, filledE, postE, List.foldl_cons, List.foldl_nil, List.getD_cons_zero, List.getD_cons_succ, fill_val, List.set_cons_zero, List.set_cons_succ]
          exact rfl
        case o0x5 => exact fun _ _ _ _ => opE_move (v := .pointer (some ⟨p, 0, none⟩)) _ rfl rfl rfl
        case o1x5 => exact fun _ _ hw _ => opE_call (.val (.int .i64 (c : Int))) rfl _ 16 Try.call16 rfl rfl _ rfl [.pointer (some ⟨p, 0, none⟩)] rfl ((done_any _ p sg n _ _ _ (HD.gro ((Gro.refl _).drew.trans hw))).mono fun e w' ⟨he, hg⟩ => ⟨_, he, hg, rfl⟩)
        case o2x5 => exact fun _ _ _ _ => opE_move (v := .pointer (some ⟨rp, 0, none⟩)) _ rfl rfl rfl
        case o3x5 => exact fun _ _ hw _ => opE_value (v := .pointer (some ⟨rp, 0, none⟩)) rfl (run_nc _ rfl _ rfl)
        case o4x5 => exact fun _ _ hw _ => opE_value (v := .pointer (some ⟨rp, 2, none⟩)) rfl (run_fld 35 _ 2 rfl _ _ rfl _ (by kernel_rfl))
        case o5x5 => exact fun _ _ hw _ => opE_value (v := .int .i64 (c : Int)) rfl (run_ldc 3 _ rfl rp 2 rfl 35 _ ((HR.gro ((Gro.refl _).drew.trans hw)).box) (na3 _) _ rfl)
        case o6x5 => exact fun _ _ hw _ => opE_value (v := .bool false) rfl (run_neq_k 3 .i64 _ _ _ rfl Try.underlying3 (c : Int) (c : Int) rfl rfl false (decide_eq_true rfl) _)
        case o7x5 => exact fun _ _ _ _ => opE_move (v := .bool false) _ rfl rfl rfl
        case o8x5 => exact fun _ _ _ _ => opE_move (v := .pointer (some ⟨p, 0, none⟩)) _ rfl rfl rfl
        case o9x5 => exact fun _ _ hw _ => opE_call (.val (.int .i64 ((n : Nat) : Int))) rfl _ 17 Try.call17 rfl rfl _ rfl [.pointer (some ⟨p, 0, none⟩)] rfl ((size_any _ p sg n _ _ _ (HD.gro ((Gro.refl _).drew.trans hw))).mono fun e w' ⟨he, hg⟩ => ⟨_, he, hg, rfl⟩)
        case o10x5 => exact fun _ _ _ _ => opE_move (v := .pointer (some ⟨rp, 0, none⟩)) _ rfl rfl rfl
        case o11x5 => exact fun _ _ hw _ => opE_value (v := .pointer (some ⟨rp, 0, none⟩)) rfl (run_nc _ rfl _ rfl)
        case o12x5 => exact fun _ _ hw _ => opE_value (v := .pointer (some ⟨rp, 0, none⟩)) rfl (run_fld 35 _ 0 rfl _ _ rfl _ (by kernel_rfl))
        case o13x5 => exact fun _ _ hw _ => opE_value (v := .slice (some ⟨rg, 0, none⟩) (n * 64) (n * 64)) rfl (run_ldc 28 _ rfl rp 0 rfl 35 _ ((HR.gro ((Gro.refl _).drew.trans hw)).box) (na28 _) _ rfl)
        case o14x5 => exact fun _ _ hw _ => opE_value (v := .int .i64 ((n * 64 : Nat) : Int)) rfl (run_len Try.underlying28 _ rfl _ _ _ rfl _)
        case o15x5 => exact fun _ _ hw _ => opE_value (v := .int .i64 ((n : Nat) : Int)) rfl (run_quo64 _ _ _ rfl ((n * 64 : Nat) : Int) 64 _ rfl rfl (by decide) quoN (by omega) (by omega) _)
        intro ptrs w11 GD hxE
        simp only [List.drop_succ_cons, List.drop_zero]
        replace HD := HD.gro ((Gro.refl _).drew.trans GD)
        replace HR := HR.gro ((Gro.refl _).drew.trans GD)
        replace HW := HW.gro ((Gro.refl _).drew.trans GD)
        replace GG := GG.drew.trans GD
        clear GD
        refine s_gval 141 rfl rfl (.bool false) (run_neq_k 3 .i64 _ _ _ rfl Try.underlying3 ((n : Nat) : Int) ((n : Nat) : Int) rfl rfl false (decide_eq_true rfl) _) ?_
        refine nr ?_; intro U h; simp only [z0, z1] at h; subst h
        refine s_val 142 rfl rfl (.bool false) (rfl) ?_
        refine nr ?_; intro U h; simp only [z0, z1] at h; subst h
        refine wpList_nil ?_
        refine then_n ?_
        refine wp_cond_false rfl ?_
        refine wp_skip ?_
        refine blk_n ?_
        refine then_n ?_
        refine wp_region_lit ?_
        refine s_val 143 rfl rfl (.int .i64 ((j + 1 : Nat) : Int)) (run_add64 _ _ _ rfl ((j : Nat) : Int) 1 _ rfl rfl (by omega) (by omega) (by omega) _) ?_
        refine nr ?_; intro U h; simp only [z0, z1] at h; subst h
        refine s_val 29 rfl rfl (.int .i64 ((j + 1 : Nat) : Int)) (rfl) ?_
        refine nr ?_; intro U h; simp only [z0, z1] at h; subst h
        refine wpList_nil ?_
        refine then_n ?_
        exact ⟨_, (by omega : os.length - (j + 1) < os.length - j), j + 1, c, _, _, (fun kz => ([us1 0, .int .i64 ((j : Nat) : Int), .pointer (some ⟨g1, 0, none⟩), .slice ao2 q.l.length cap2, .int .i64 1, us2 0, us1 6, us1 7, us1 8, us1 9, us1 10, .bool true, .int .i64 ((j : Nat) : Int), .pointer (some (ad.add (j * 3))), .agg (c30 q.k q.i ⟨q.ao, q.l.length, q.cap⟩), .int .i64 ((j : Nat) : Int), .bool false, .pointer (some ⟨g1, 0, none⟩), .int .i64 q.k, us1 19, us1 20, us1 21, us1 22, us1 23, us1 24, us1 25, us1 26, us1 27, us1 28, us1 29, us1 30, us1 31, us1 32, us1 33, us1 34, us1 35, us1 36, us1 37, us1 38, us1 39, us1 40, us1 41, us1 42, us1 43, us1 44, us1 45, us1 46, us1 47, us1 48, us1 49, us1 50, us1 51, us1 52, us1 53, us1 54, .bool true, .bool true, .slice (some ⟨gb, 0, none⟩) (([] : List Nat).length) 0, .pointer (some ⟨g1, 2, none⟩), .slice q.ao q.l.length q.cap, .slice ao2 q.l.length cap2, .pointer (some ⟨p, 0, none⟩), .pointer (some ⟨g1, 1, none⟩), .int .i64 q.i, .slice ao2 q.l.length cap2, .int .i64 1, .int .i64 1, .pointer (some ⟨rp, 0, none⟩), .pointer (some ⟨g1, 1, none⟩), .int .i64 q.i, .pointer (some ⟨g1, 2, none⟩), .slice q.ao q.l.length q.cap, .int .i64 1, .bool false, .bool false, .slice ao2 q.l.length cap2, .string (bas q.l), .pointer (some ⟨g1, 2, none⟩), .slice q.ao q.l.length q.cap, .string (bas q.l), .bool false, .bool false, .slice ao2 q.l.length cap2, .int .i64 ((q.l.length : Nat) : Int), .int .i64 ((k : Nat) : Int), .bool false, us2 2, us2 3, us2 4, us2 5, us2 6, us2 7, us2 8, us2 9, us1 94, us1 95, us1 96, us1 97, us1 98, us1 99, us1 100, us1 101, us1 102, us1 103, us1 104, us1 105, .pointer (some ⟨p, 0, none⟩), .int .i64 (c : Int), .pointer (some ⟨rp, 0, none⟩), .pointer (some ⟨rp, 0, none⟩), .pointer (some ⟨rp, 2, none⟩), .int .i64 (c : Int), .bool false, .bool false, .pointer (some ⟨p, 0, none⟩), .int .i64 ((n : Nat) : Int), .pointer (some ⟨rp, 0, none⟩), .pointer (some ⟨rp, 0, none⟩), .pointer (some ⟨rp, 0, none⟩), .slice (some ⟨rg, 0, none⟩) (n * 64) (n * 64), .int .i64 ((n * 64 : Nat) : Int), .int .i64 ((n : Nat) : Int), .bool false, .bool false, .int .i64 ((j + 1 : Nat) : Int)] : List Value).getD kz undef), rfl, rfl, (by omega), (by omega), (by omega), hP, GG, HD, HR⟩
      have hjn : k < q.l.length := by have := of_decide_eq_true hp4; omega
      refine wpList_nil ?_
      refine then_n ?_
      refine wp_seq ?_
      refine wp_cond_true rfl ?_
      refine wp_skip ?_
      refine then_n ?_
      refine wp_seq ?_
      refine wp_block ?_
      refine wp_seq ?_
      refine wp_region_lit ?_
      refine s_val 105 rfl rfl (.int .i64 ((k : Nat) : Int)) (rfl) ?_
      refine nr ?_; intro U h; simp only [z0, z1] at h; subst h
      refine s_val 11 rfl rfl (.int .i64 ((k : Nat) : Int)) (rfl) ?_
      refine nr ?_; intro U h; simp only [z0, z1] at h; subst h
      refine wpList_nil ?_
      refine then_n ?_
      refine wp_region_lit ?_
      refine s_val 106 rfl rfl (.slice ao2 q.l.length cap2) (rfl) ?_
      refine nr ?_; intro U h; simp only [z0, z1] at h; subst h
      refine s_val 107 rfl rfl (.int .i64 ((k : Nat) : Int)) (rfl) ?_
      refine nr ?_; intro U h; simp only [z0, z1] at h; subst h
      obtain ⟨gi, cur, hgi, hBi, ki, hci, hmi, hsi, hti⟩ := HW.blk (j := k) (by omega)
      refine s_val 108 rfl rfl (.pointer (some ⟨gi, k, none⟩)) (bat _ _ rfl gi q.l.length cap2 k (by exact congrArg (fun a => Value.slice a q.l.length cap2) hgi) rfl (by omega) _) ?_
      refine nr ?_; intro U h; simp only [z0, z1] at h; subst h
      refine s_val 109 rfl rfl (.int .u8 ((l1.getD k 0 : Nat) : Int)) (run_ld bT _ rfl ⟨gi, k, none⟩ rfl _ _ (HW.cellv hgi (by omega))) ?_
      refine nr ?_; intro U h; simp only [z0, z1] at h; subst h
      refine s_val 110 rfl rfl (.int .u8 ((inc8 (l1.getD k 0) : Nat) : Int)) (run_inc8 _ _ _ rfl (l1.getD k 0) rfl rfl _) ?_
      refine nr ?_; intro U h; simp only [z0, z1] at h; subst h
      refine s_val 111 rfl rfl (.pointer (some ⟨gi, k, none⟩)) (bat _ _ rfl gi q.l.length cap2 k (by exact congrArg (fun a => Value.slice a q.l.length cap2) hgi) rfl (by omega) _) ?_
      refine nr ?_; intro U h; simp only [z0, z1] at h; subst h
      refine s_store rfl rfl 5 _ _ rfl gi k rfl (.int .u8 ((inc8 (l1.getD k 0) : Nat) : Int)) rfl 5 _ ki #[.int .u8 ((inc8 (l1.getD k 0) : Nat) : Int)] rfl si5 (by simp only [List.size_toArray, List.length_cons, List.length_nil]; omega) (one1 _) _ rfl ?_
      intro w11 St
      have hap := HA _ hgi
      have hap1 := hap.1
      have hap2 := hap.2
      replace HD := HD.st St hap1 hap2.1
      replace HR := HR.st St hap2.2.1 hap2.2.2
      replace HW := HW.put hgi ki (by omega) (inc8 (l1.getD k 0)) (inc8_le _) St
      replace GG := GG.store St hBi
      clear St hap hap1 hap2
      refine wpList_nil ?_
      refine blk_n ?_
      refine then_n ?_
      refine wp_region_lit ?_
      refine s_val 112 rfl rfl (.int .i64 ((k + 1 : Nat) : Int)) (run_add64 _ _ _ rfl ((k : Nat) : Int) 1 _ rfl rfl (by omega) (by omega) (by omega) _) ?_
      refine nr ?_; intro U h; simp only [z0, z1] at h; subst h
      refine s_val 103 rfl rfl (.int .i64 ((k + 1 : Nat) : Int)) (rfl) ?_
      refine nr ?_; intro U h; simp only [z0, z1] at h; subst h
      refine wpList_nil ?_
      refine then_n ?_
      exact ⟨_, (by omega : q.l.length - (k + 1) < q.l.length - k), k + 1, _, (fun kz => ([.int .i64 ((k : Nat) : Int), .bool true, .int .i64 ((k : Nat) : Int), .slice ao2 q.l.length cap2, .int .i64 ((k : Nat) : Int), .pointer (some ⟨gi, k, none⟩), .int .u8 ((l1.getD k 0 : Nat) : Int), .int .u8 ((inc8 (l1.getD k 0) : Nat) : Int), .pointer (some ⟨gi, k, none⟩), .int .i64 ((k + 1 : Nat) : Int)] : List Value).getD kz undef), rfl, rfl, (by omega), (by rw [List.length_set]; exact hl1), GG, HW, HD, HR⟩
    · refine s_callv 84 rfl rfl _ 11 Try.call11 rfl rfl _ rfl [.pointer (some ⟨p, 0, none⟩), .int .i64 q.i, .slice ao2 q.l.length cap2] rfl (write_bad _ p sg n L pw c HD ao2 cap2 q.l q.i hB) ?_
      intro w9 G
      replace kg1 := G.has kg1
      replace HD := HD.gro G
      replace HR := HR.gro G
      replace HW := HW.gro G
      replace GG := GG.trans G
      clear G
      refine nr ?_; intro U h; simp only [z0, z1] at h; subst h
      refine s_val 10 rfl rfl (.int .i64 1) (rfl) ?_
      refine nr ?_; intro U h; simp only [z0, z1] at h; subst h
      refine wpList_nil ?_
      refine then_n ?_
      refine wp_seq ?_
      refine wp_seq ?_
      refine wp_region_opq ?_
      intro OPS hY
      have y8 := hY 8 93 rfl
      clear hY
      refine s_val 85 rfl rfl (.int .i64 1) (rfl) ?_
      refine nr ?_; intro U h; simp only [z0, z1] at h; subst h
      refine s_val 86 rfl rfl (.pointer (some ⟨rp, 0, none⟩)) (rfl) ?_
      refine nr ?_; intro U h; simp only [z0, z1] at h; subst h
      refine s_val 87 rfl rfl (.pointer (some ⟨g1, 1, none⟩)) (run_fld 30 _ 1 rfl _ _ rfl _ (by kernel_rfl)) ?_
      refine nr ?_; intro U h; simp only [z0, z1] at h; subst h
      refine s_val 88 rfl rfl (.int .i64 q.i) (run_ldc 3 _ rfl g1 1 rfl 30 _ kg1 (na3 _) _ rfl) ?_
      refine nr ?_; intro U h; simp only [z0, z1] at h; subst h
      refine s_val 89 rfl rfl (.pointer (some ⟨g1, 2, none⟩)) (run_fld 30 _ 2 rfl _ _ rfl _ (by kernel_rfl)) ?_
      refine nr ?_; intro U h; simp only [z0, z1] at h; subst h
      refine s_val 90 rfl rfl (.slice q.ao q.l.length q.cap) (run_ldc 28 _ rfl g1 2 rfl 30 _ kg1 (na28 _) _ rfl) ?_
      refine nr ?_; intro U h; simp only [z0, z1] at h; subst h
      refine s_callv 91 rfl rfl _ 12 Try.call12 rfl rfl _ rfl [.pointer (some ⟨rp, 0, none⟩), .int .i64 q.i, .slice q.ao q.l.length q.cap] rfl (rwrite_bad _ rp rg n L pw c HR q.ao q.cap q.l q.i hB) ?_
      intro w10 G
      replace kg1 := G.has kg1
      replace HD := HD.gro G
      replace HR := HR.gro G
      replace HW := HW.gro G
      replace GG := GG.trans G
      clear G
      refine nr ?_; intro U h; simp only [z0, z1] at h; subst h
      refine s_val 92 rfl rfl (.bool false) (run_neq_k 31 .i64 _ _ _ rfl Try.underlying31 _ _ rfl rfl false rfl _) ?_
      refine nr ?_; intro U h; simp only [z0, z1] at h; subst h
      refine s_val 93 rfl rfl (.bool false) (rfl) ?_
      refine nr ?_; intro U h; simp only [z0, z1] at h; subst h
      refine s_gvalY 94 rfl rfl y8 rfl (.slice ao2 q.l.length cap2) (rfl) ?_
      refine nr ?_; intro U h; simp only [z0, z1] at h; subst h
      refine s_gvalY 95 rfl rfl y8 rfl (.string (bas q.l)) (run_text_op bT 9 Try.underlying9 _ rfl rfl HW.nc) ?_
      refine nr ?_; intro U h; simp only [z0, z1] at h; subst h
      refine s_gvalY 96 rfl rfl y8 rfl (.pointer (some ⟨g1, 2, none⟩)) (run_fld 30 _ 2 rfl _ _ rfl _ (by kernel_rfl)) ?_
      refine nr ?_; intro U h; simp only [z0, z1] at h; subst h
      refine s_gvalY 97 rfl rfl y8 rfl (.slice q.ao q.l.length q.cap) (run_ldc 28 _ rfl g1 2 rfl 30 _ kg1 (na28 _) _ rfl) ?_
      refine nr ?_; intro U h; simp only [z0, z1] at h; subst h
      refine s_gvalY 98 rfl rfl y8 rfl (.string (bas q.l)) (run_text_op bT 9 Try.underlying9 _ rfl rfl ((HO.row q hqm).gro GG)) ?_
      refine nr ?_; intro U h; simp only [z0, z1] at h; subst h
      refine s_gvalY 99 rfl rfl y8 rfl (.bool false) (run_nes_op _ _ _ rfl _ _ rfl rfl false (decide_eq_true rfl) _) ?_
      refine nr ?_; intro U h; simp only [z0, z1] at h; subst h
      refine s_val 100 rfl rfl (.bool false) (rfl) ?_
      refine nr ?_; intro U h; simp only [z0, z1] at h; subst h
      refine wpList_nil ?_
      refine then_n ?_
      refine wp_cond_false rfl ?_
      refine wp_skip ?_
      refine then_n ?_
      refine wp_seq ?_
      refine wp_region_lit ?_
      refine s_val 101 rfl rfl (.slice ao2 q.l.length cap2) (rfl) ?_
      refine nr ?_; intro U h; simp only [z0, z1] at h; subst h
      refine s_val 102 rfl rfl (.int .i64 ((q.l.length : Nat) : Int)) (run_len Try.underlying28 _ rfl _ _ _ rfl _) ?_
      refine nr ?_; intro U h; simp only [z0, z1] at h; subst h
      refine s_val 103 rfl rfl (.int .i64 0) (rfl) ?_
      refine nr ?_; intro U h; simp only [z0, z1] at h; subst h
      refine wpList_nil ?_
      refine then_n ?_
      refine wp_block ?_
      refine wp_loopN (fun mz az wv => ∃ (k : Nat) (l1 : List Nat) (us2 : Nat → Value), mz = q.l.length - k ∧ az = ⟨[.int .i64 sectors, .slice ao os.length cap, undef, undef, us1 0, .pointer (some ⟨p, 0, none⟩), .pointer (some ⟨rp, 0, none⟩), .int .i64 ((j : Nat) : Int), .pointer (some ⟨g1, 0, none⟩), .slice ao2 q.l.length cap2, .int .i64 1, us2 0, us1 6, us1 7, us1 8, us1 9, us1 10, .int .i64 sectors, .pointer (some ⟨p, 0, none⟩), .int .i64 sectors, .pointer (some ⟨rp, 0, none⟩), .bool true, .bool false, .bool false, .pointer (some ⟨p, 0, none⟩), .bool false, .bool false, .slice ao os.length cap, .int .i64 ((os.length : Nat) : Int), .int .i64 ((j : Nat) : Int), .bool true, .int .i64 ((j : Nat) : Int), .pointer (some (ad.add (j * 3))), .agg (c30 q.k q.i ⟨q.ao, q.l.length, q.cap⟩), .int .i64 ((j : Nat) : Int), .bool false, .pointer (some ⟨g1, 0, none⟩), .int .i64 q.k, us1 19, us1 20, us1 21, us1 22, us1 23, us1 24, us1 25, us1 26, us1 27, us1 28, us1 29, us1 30, us1 31, us1 32, us1 33, us1 34, us1 35, us1 36, us1 37, us1 38, us1 39, us1 40, us1 41, us1 42, us1 43, us1 44, us1 45, us1 46, us1 47, us1 48, us1 49, us1 50, us1 51, us1 52, us1 53, us1 54, .bool true, .bool true, .slice (some ⟨gb, 0, none⟩) (([] : List Nat).length) 0, .pointer (some ⟨g1, 2, none⟩), .slice q.ao q.l.length q.cap, .slice ao2 q.l.length cap2, .pointer (some ⟨p, 0, none⟩), .pointer (some ⟨g1, 1, none⟩), .int .i64 q.i, .slice ao2 q.l.length cap2, .int .i64 1, .int .i64 1, .pointer (some ⟨rp, 0, none⟩), .pointer (some ⟨g1, 1, none⟩), .int .i64 q.i, .pointer (some ⟨g1, 2, none⟩), .slice q.ao q.l.length q.cap, .int .i64 1, .bool false, .bool false, .slice ao2 q.l.length cap2, .string (bas q.l), .pointer (some ⟨g1, 2, none⟩), .slice q.ao q.l.length q.cap, .string (bas q.l), .bool false, .bool false, .slice ao2 q.l.length cap2, .int .i64 ((q.l.length : Nat) : Int), .int .i64 ((k : Nat) : Int), us2 1, us2 2, us2 3, us2 4, us2 5, us2 6, us2 7, us2 8, us2 9, us1 94, us1 95, us1 96, us1 97, us1 98, us1 99, us1 100, us1 101, us1 102, us1 103, us1 104, us1 105, us1 106, us1 107, us1 108, us1 109, us1 110, us1 111, us1 112, us1 113, us1 114, us1 115, us1 116, us1 117, us1 118, us1 119, us1 120, us1 121, us1 122, us1 123, us1 124, undef, undef, undef, undef, undef, undef, undef, undef, undef].toArray, []⟩ ∧ k ≤ q.l.length ∧ l1.length = q.l.length ∧ Gro w wv ∧ OB wv 5 .u8 w.heap.size ao2 cap2 l1 ∧ DK wv p sg n L pw (c : Int) ∧ RK wv rp rg n L pw (c : Int)) ?_ _ ⟨0, _, (fun kz => ([us1 5, us1 85, us1 86, us1 87, us1 88, us1 89, us1 90, us1 91, us1 92, us1 93] : List Value).getD kz undef), rfl, rfl, Nat.zero_le _, rfl, GG, HW, HD, HR⟩
      clear GG HD HR HW
      rintro mz az wv ⟨k, l1, us2, rfl, rfl, hj, hl1, GG, HW, HD, HR⟩
      refine wp_seq ?_
      refine wp_region_lit ?_
      obtain ⟨p4, hp4⟩ : ∃ p, decide (((k : Nat) : Int) < ((q.l.length : Nat) : Int)) = p := ⟨_, rfl⟩
      refine s_val 104 rfl rfl (.bool p4) (run_lssT 3 _ _ _ rfl ((k : Nat) : Int) ((q.l.length : Nat) : Int) rfl rfl p4 hp4 _) ?_
      refine nr ?_; intro U h; simp only [z0, z1] at h; subst h
      cases p4
      · refine wpList_nil ?_
        refine then_n ?_
        refine wp_seq ?_
        refine wp_cond_false rfl ?_
        refine wp_exit ?_
        refine then_x ?_
        refine then_x ?_
        refine blk_x ?_
        refine blk_n ?_
        refine then_n ?_
        refine wp_seq ?_
        refine wp_region_exA (A := ?Ax6) 16 [(0, 125), (1, 126), (2, 127), (3, 128), (4, 129), (5, 130), (6, 131), (7, 132), (8, 133), (9, 134), (10, 135), (11, 136), (12, 137), (13, 138), (14, 139), (15, 140)] [.val (.pointer (some ⟨p, 0, none⟩)), .val (.int .i64 (c : Int)), .val (.pointer (some ⟨rp, 0, none⟩)), .val (.pointer (some ⟨rp, 0, none⟩)), .val (.pointer (some ⟨rp, 2, none⟩)), .val (.int .i64 (c : Int)), .val (.bool false), .val (.bool false), .val (.pointer (some ⟨p, 0, none⟩)), .val (.int .i64 ((n : Nat) : Int)), .val (.pointer (some ⟨rp, 0, none⟩)), .val (.pointer (some ⟨rp, 0, none⟩)), .val (.pointer (some ⟨rp, 0, none⟩)), .val (.slice (some ⟨rg, 0, none⟩) (n * 64) (n * 64)), .val (.int .i64 ((n * 64 : Nat) : Int)), .val (.int .i64 ((n : Nat) : Int))] follows (by kernel_rfl) rfl ?hAx6 (opsA_cons ?o0x6 (opsA_cons ?o1x6 (opsA_cons ?o2x6 (opsA_cons ?o3x6 (opsA_cons ?o4x6 (opsA_cons ?o5x6 (opsA_cons ?o6x6 (opsA_cons ?o7x6 (opsA_cons ?o8x6 (opsA_cons ?o9x6 (opsA_cons ?o10x6 (opsA_cons ?o11x6 (opsA_cons ?o12x6 (opsA_cons ?o13x6 (opsA_cons ?o14x6 (opsA_cons ?o15x6 opsA_nil)))))))))))))))) ?restx6
        case hAx6 =>
          intro ptrs
          simp only [full, foldSlots, filledE, postE, List.foldl_cons, List.foldl_nil, List.getD_cons_zero, List.getD_cons_succ, fill_val, List.set_cons_zero, List.set_cons_succ]
          exact rfl
        case o0x6 => exact fun _ _ _ _ => opE_move (v := .pointer (some ⟨p, 0, none⟩)) _ rfl rfl rfl
        case o1x6 => exact fun _ _ hw _ => opE_call (.val (.int .i64 (c : Int))) rfl _ 16 Try.call16 rfl rfl _ rfl [.pointer (some ⟨p, 0, none⟩)] rfl ((done_any _ p sg n _ _ _ (HD.gro ((Gro.refl _).drew.trans hw))).mono fun e w' ⟨he, hg⟩ => ⟨_, he, hg, rfl⟩)
        case o2x6 => exact fun _ _ _ _ => opE_move (v := .pointer (some ⟨rp, 0, none⟩)) _ rfl rfl rfl
        case o3x6 => exact fun _ _ hw _ => opE_value (v := .pointer (some ⟨rp, 0, none⟩)) rfl (run_nc _ rfl _ rfl)
        case o4x6 => exact fun _ _ hw _ => opE_value (v := .pointer (some ⟨rp, 2, none⟩)) rfl (run_fld 35 _ 2 rfl _ _ rfl _ (by kernel_rfl))
        case o5x6 => exact fun _ _ hw _ => opE_value (v := .int .i64 (c : Int)) rfl (run_ldc 3 _ rfl rp 2 rfl 35 _ ((HR.gro ((Gro.refl _).drew.trans hw)).box) (na3 _) _ rfl)
        case o6x6 => exact fun _ _ hw _ => opE_value (v := .bool false) rfl (run_neq_k 3 .i64 _ _ _ rfl Try.underlying3 (c : Int) (c : Int) rfl rfl false (decide_eq_true rfl) _)
        case o7x6 => exact fun _ _ _ _ => opE_move (v := .bool false) _ rfl rfl rfl
        case o8x6 => exact fun _ _ _ _ => opE_move (v := .pointer (some ⟨p, 0, none⟩)) _ rfl rfl rfl
        case o9x6 => exact fun _ _ hw _ => opE_call (.val (.int .i64 ((n : Nat) : Int))) rfl _ 17 Try.call17 rfl rfl _ rfl [.pointer (some ⟨p, 0, none⟩)] rfl ((size_any _ p sg n _ _ _ (HD.gro ((Gro.refl _).drew.trans hw))).mono fun e w' ⟨he, hg⟩ => ⟨_, he, hg, rfl⟩)
        case o10x6 => exact fun _ _ _ _ => opE_move (v := .pointer (some ⟨rp, 0, none⟩)) _ rfl rfl rfl
        case o11x6 => exact fun _ _ hw _ => opE_value (v := .pointer (some ⟨rp, 0, none⟩)) rfl (run_nc _ rfl _ rfl)
        case o12x6 => exact fun _ _ hw _ => opE_value (v := .pointer (some ⟨rp, 0, none⟩)) rfl (run_fld 35 _ 0 rfl _ _ rfl _ (by kernel_rfl))
        case o13x6 => exact fun _ _ hw _ => opE_value (v := .slice (some ⟨rg, 0, none⟩) (n * 64) (n * 64)) rfl (run_ldc 28 _ rfl rp 0 rfl 35 _ ((HR.gro ((Gro.refl _).drew.trans hw)).box) (na28 _) _ rfl)
        case o14x6 => exact fun _ _ hw _ => opE_value (v := .int .i64 ((n * 64 : Nat) : Int)) rfl (run_len Try.underlying28 _ rfl _ _ _ rfl _)
        case o15x6 => exact fun _ _ hw _ => opE_value (v := .int .i64 ((n : Nat) : Int)) rfl (run_quo64 _ _ _ rfl ((n * 64 : Nat) : Int) 64 _ rfl rfl (by decide) quoN (by omega) (by omega) _)
        intro ptrs w11 GD hxE
        simp only [List.drop_succ_cons, List.drop_zero]
        replace HD := HD.gro ((Gro.refl _).drew.trans GD)
        replace HR := HR.gro ((Gro.refl _).drew.trans GD)
        replace HW := HW.gro ((Gro.refl _).drew.trans GD)
        replace GG := GG.drew.trans GD
        clear GD
        refine s_gval 141 rfl rfl (.bool false) (run_neq_k 3 .i64 _ _ _ rfl Try.underlying3 ((n : Nat) : Int) ((n : Nat) : Int) rfl rfl false (decide_eq_true rfl) _) ?_
        refine nr ?_; intro U h; simp only [z0, z1] at h; subst h
        refine s_val 142 rfl rfl (.bool false) (rfl) ?_
        refine nr ?_; intro U h; simp only [z0, z1] at h; subst h
        refine wpList_nil ?_
        refine then_n ?_
        refine wp_cond_false rfl ?_
        refine wp_skip ?_
        refine blk_n ?_
        refine then_n ?_
        refine wp_region_lit ?_
        refine s_val 143 rfl rfl (.int .i64 ((j + 1 : Nat) : Int)) (run_add64 _ _ _ rfl ((j : Nat) : Int) 1 _ rfl rfl (by omega) (by omega) (by omega) _) ?_
        refine nr ?_; intro U h; simp only [z0, z1] at h; subst h
        refine s_val 29 rfl rfl (.int .i64 ((j + 1 : Nat) : Int)) (rfl) ?_
        refine nr ?_; intro U h; simp only [z0, z1] at h; subst h
        refine wpList_nil ?_
        refine then_n ?_
        exact ⟨_, (by omega : os.length - (j + 1) < os.length - j), j + 1, c, _, _, (fun kz => ([us1 0, .int .i64 ((j : Nat) : Int), .pointer (some ⟨g1, 0, none⟩), .slice ao2 q.l.length cap2, .int .i64 1, us2 0, us1 6, us1 7, us1 8, us1 9, us1 10, .bool true, .int .i64 ((j : Nat) : Int), .pointer (some (ad.add (j * 3))), .agg (c30 q.k q.i ⟨q.ao, q.l.length, q.cap⟩), .int .i64 ((j : Nat) : Int), .bool false, .pointer (some ⟨g1, 0, none⟩), .int .i64 q.k, us1 19, us1 20, us1 21, us1 22, us1 23, us1 24, us1 25, us1 26, us1 27, us1 28, us1 29, us1 30, us1 31, us1 32, us1 33, us1 34, us1 35, us1 36, us1 37, us1 38, us1 39, us1 40, us1 41, us1 42, us1 43, us1 44, us1 45, us1 46, us1 47, us1 48, us1 49, us1 50, us1 51, us1 52, us1 53, us1 54, .bool true, .bool true, .slice (some ⟨gb, 0, none⟩) (([] : List Nat).length) 0, .pointer (some ⟨g1, 2, none⟩), .slice q.ao q.l.length q.cap, .slice ao2 q.l.length cap2, .pointer (some ⟨p, 0, none⟩), .pointer (some ⟨g1, 1, none⟩), .int .i64 q.i, .slice ao2 q.l.length cap2, .int .i64 1, .int .i64 1, .pointer (some ⟨rp, 0, none⟩), .pointer (some ⟨g1, 1, none⟩), .int .i64 q.i, .pointer (some ⟨g1, 2, none⟩), .slice q.ao q.l.length q.cap, .int .i64 1, .bool false, .bool false, .slice ao2 q.l.length cap2, .string (bas q.l), .pointer (some ⟨g1, 2, none⟩), .slice q.ao q.l.length q.cap, .string (bas q.l), .bool false, .bool false, .slice ao2 q.l.length cap2, .int .i64 ((q.l.length : Nat) : Int), .int .i64 ((k : Nat) : Int), .bool false, us2 2, us2 3, us2 4, us2 5, us2 6, us2 7, us2 8, us2 9, us1 94, us1 95, us1 96, us1 97, us1 98, us1 99, us1 100, us1 101, us1 102, us1 103, us1 104, us1 105, .pointer (some ⟨p, 0, none⟩), .int .i64 (c : Int), .pointer (some ⟨rp, 0, none⟩), .pointer (some ⟨rp, 0, none⟩), .pointer (some ⟨rp, 2, none⟩), .int .i64 (c : Int), .bool false, .bool false, .pointer (some ⟨p, 0, none⟩), .int .i64 ((n : Nat) : Int), .pointer (some ⟨rp, 0, none⟩), .pointer (some ⟨rp, 0, none⟩), .pointer (some ⟨rp, 0, none⟩), .slice (some ⟨rg, 0, none⟩) (n * 64) (n * 64), .int .i64 ((n * 64 : Nat) : Int), .int .i64 ((n : Nat) : Int), .bool false, .bool false, .int .i64 ((j + 1 : Nat) : Int)] : List Value).getD kz undef), rfl, rfl, (by omega), (by omega), (by omega), hP, GG, HD, HR⟩
      have hjn : k < q.l.length := by have := of_decide_eq_true hp4; omega
      refine wpList_nil ?_
      refine then_n ?_
      refine wp_seq ?_
      refine wp_cond_true rfl ?_
      refine wp_skip ?_
      refine then_n ?_
      refine wp_seq ?_
      refine wp_block ?_
      refine wp_seq ?_
      refine wp_region_lit ?_
      refine s_val 105 rfl rfl (.int .i64 ((k : Nat) : Int)) (rfl) ?_
      refine nr ?_; intro U h; simp only [z0, z1] at h; subst h
      refine s_val 11 rfl rfl (.int .i64 ((k : Nat) : Int)) (rfl) ?_
      refine nr ?_; intro U h; simp only [z0, z1] at h; subst h
      refine wpList_nil ?_
      refine then_n ?_
      refine wp_region_lit ?_
      refine s_val 106 rfl rfl (.slice ao2 q.l.length cap2) (rfl) ?_
      refine nr ?_; intro U h; simp only [z0, z1] at h; subst h
      refine s_val 107 rfl rfl (.int .i64 ((k : Nat) : Int)) (rfl) ?_
      refine nr ?_; intro U h; simp only [z0, z1] at h; subst h
      obtain ⟨gi, cur, hgi, hBi, ki, hci, hmi, hsi, hti⟩ := HW.blk (j := k) (by omega)
      refine s_val 108 rfl rfl (.pointer (some ⟨gi, k, none⟩)) (bat _ _ rfl gi q.l.length cap2 k (by exact congrArg (fun a => Value.slice a q.l.length cap2) hgi) rfl (by omega) _) ?_
      refine nr ?_; intro U h; simp only [z0, z1] at h; subst h
      refine s_val 109 rfl rfl (.int .u8 ((l1.getD k 0 : Nat) : Int)) (run_ld bT _ rfl ⟨gi, k, none⟩ rfl _ _ (HW.cellv hgi (by omega))) ?_
      refine nr ?_; intro U h; simp only [z0, z1] at h; subst h
      refine s_val 110 rfl rfl (.int .u8 ((inc8 (l1.getD k 0) : Nat) : Int)) (run_inc8 _ _ _ rfl (l1.getD k 0) rfl rfl _) ?_
      refine nr ?_; intro U h; simp only [z0, z1] at h; subst h
      refine s_val 111 rfl rfl (.pointer (some ⟨gi, k, none⟩)) (bat _ _ rfl gi q.l.length cap2 k (by exact congrArg (fun a => Value.slice a q.l.length cap2) hgi) rfl (by omega) _) ?_
      refine nr ?_; intro U h; simp only [z0, z1] at h; subst h
      refine s_store rfl rfl 5 _ _ rfl gi k rfl (.int .u8 ((inc8 (l1.getD k 0) : Nat) : Int)) rfl 5 _ ki #[.int .u8 ((inc8 (l1.getD k 0) : Nat) : Int)] rfl si5 (by simp only [List.size_toArray, List.length_cons, List.length_nil]; omega) (one1 _) _ rfl ?_
      intro w11 St
      have hap := HA _ hgi
      have hap1 := hap.1
      have hap2 := hap.2
      replace HD := HD.st St hap1 hap2.1
      replace HR := HR.st St hap2.2.1 hap2.2.2
      replace HW := HW.put hgi ki (by omega) (inc8 (l1.getD k 0)) (inc8_le _) St
      replace GG := GG.store St hBi
      clear St hap hap1 hap2
      refine wpList_nil ?_
      refine blk_n ?_
      refine then_n ?_
      refine wp_region_lit ?_
      refine s_val 112 rfl rfl (.int .i64 ((k + 1 : Nat) : Int)) (run_add64 _ _ _ rfl ((k : Nat) : Int) 1 _ rfl rfl (by omega) (by omega) (by omega) _) ?_
      refine nr ?_; intro U h; simp only [z0, z1] at h; subst h
      refine s_val 103 rfl rfl (.int .i64 ((k + 1 : Nat) : Int)) (rfl) ?_
      refine nr ?_; intro U h; simp only [z0, z1] at h; subst h
      refine wpList_nil ?_
      refine then_n ?_
      exact ⟨_, (by omega : q.l.length - (k + 1) < q.l.length - k), k + 1, _, (fun kz => ([.int .i64 ((k : Nat) : Int), .bool true, .int .i64 ((k : Nat) : Int), .slice ao2 q.l.length cap2, .int .i64 ((k : Nat) : Int), .pointer (some ⟨gi, k, none⟩), .int .u8 ((l1.getD k 0 : Nat) : Int), .int .u8 ((inc8 (l1.getD k 0) : Nat) : Int), .pointer (some ⟨gi, k, none⟩), .int .i64 ((k + 1 : Nat) : Int)] : List Value).getD kz undef), rfl, rfl, (by omega), (by rw [List.length_set]; exact hl1), GG, HW, HD, HR⟩
    · have HX := write_long _ p sg n L pw c HD ao2 cap2 q.l i hi hl
      rw [← hiq] at HX
      refine s_callv 84 rfl rfl _ 11 Try.call11 rfl rfl _ rfl [.pointer (some ⟨p, 0, none⟩), .int .i64 q.i, .slice ao2 q.l.length cap2] rfl (HX) ?_
      intro w9 G
      replace kg1 := G.has kg1
      replace HD := HD.gro G
      replace HR := HR.gro G
      replace HW := HW.gro G
      replace GG := GG.trans G
      clear G
      refine nr ?_; intro U h; simp only [z0, z1] at h; subst h
      clear HX
      refine s_val 10 rfl rfl (.int .i64 4) (rfl) ?_
      refine nr ?_; intro U h; simp only [z0, z1] at h; subst h
      refine wpList_nil ?_
      refine then_n ?_
      refine wp_seq ?_
      refine wp_seq ?_
      refine wp_region_opq ?_
      intro OPS hY
      have y8 := hY 8 93 rfl
      clear hY
      refine s_val 85 rfl rfl (.int .i64 4) (rfl) ?_
      refine nr ?_; intro U h; simp only [z0, z1] at h; subst h
      refine s_val 86 rfl rfl (.pointer (some ⟨rp, 0, none⟩)) (rfl) ?_
      refine nr ?_; intro U h; simp only [z0, z1] at h; subst h
      refine s_val 87 rfl rfl (.pointer (some ⟨g1, 1, none⟩)) (run_fld 30 _ 1 rfl _ _ rfl _ (by kernel_rfl)) ?_
      refine nr ?_; intro U h; simp only [z0, z1] at h; subst h
      refine s_val 88 rfl rfl (.int .i64 q.i) (run_ldc 3 _ rfl g1 1 rfl 30 _ kg1 (na3 _) _ rfl) ?_
      refine nr ?_; intro U h; simp only [z0, z1] at h; subst h
      refine s_val 89 rfl rfl (.pointer (some ⟨g1, 2, none⟩)) (run_fld 30 _ 2 rfl _ _ rfl _ (by kernel_rfl)) ?_
      refine nr ?_; intro U h; simp only [z0, z1] at h; subst h
      refine s_val 90 rfl rfl (.slice q.ao q.l.length q.cap) (run_ldc 28 _ rfl g1 2 rfl 30 _ kg1 (na28 _) _ rfl) ?_
      refine nr ?_; intro U h; simp only [z0, z1] at h; subst h
      have HX := rwrite_long _ rp rg n L pw c HR q.ao q.cap q.l i hi hl
      rw [← hiq] at HX
      refine s_callv 91 rfl rfl _ 12 Try.call12 rfl rfl _ rfl [.pointer (some ⟨rp, 0, none⟩), .int .i64 q.i, .slice q.ao q.l.length q.cap] rfl (HX) ?_
      intro w10 G
      replace kg1 := G.has kg1
      replace HD := HD.gro G
      replace HR := HR.gro G
      replace HW := HW.gro G
      replace GG := GG.trans G
      clear G
      refine nr ?_; intro U h; simp only [z0, z1] at h; subst h
      clear HX
      refine s_val 92 rfl rfl (.bool false) (run_neq_k 31 .i64 _ _ _ rfl Try.underlying31 _ _ rfl rfl false rfl _) ?_
      refine nr ?_; intro U h; simp only [z0, z1] at h; subst h
      refine s_val 93 rfl rfl (.bool false) (rfl) ?_
      refine nr ?_; intro U h; simp only [z0, z1] at h; subst h
      refine s_gvalY 94 rfl rfl y8 rfl (.slice ao2 q.l.length cap2) (rfl) ?_
      refine nr ?_; intro U h; simp only [z0, z1] at h; subst h
      refine s_gvalY 95 rfl rfl y8 rfl (.string (bas q.l)) (run_text_op bT 9 Try.underlying9 _ rfl rfl HW.nc) ?_
      refine nr ?_; intro U h; simp only [z0, z1] at h; subst h
      refine s_gvalY 96 rfl rfl y8 rfl (.pointer (some ⟨g1, 2, none⟩)) (run_fld 30 _ 2 rfl _ _ rfl _ (by kernel_rfl)) ?_
      refine nr ?_; intro U h; simp only [z0, z1] at h; subst h
      refine s_gvalY 97 rfl rfl y8 rfl (.slice q.ao q.l.length q.cap) (run_ldc 28 _ rfl g1 2 rfl 30 _ kg1 (na28 _) _ rfl) ?_
      refine nr ?_; intro U h; simp only [z0, z1] at h; subst h
      refine s_gvalY 98 rfl rfl y8 rfl (.string (bas q.l)) (run_text_op bT 9 Try.underlying9 _ rfl rfl ((HO.row q hqm).gro GG)) ?_
      refine nr ?_; intro U h; simp only [z0, z1] at h; subst h
      refine s_gvalY 99 rfl rfl y8 rfl (.bool false) (run_nes_op _ _ _ rfl _ _ rfl rfl false (decide_eq_true rfl) _) ?_
      refine nr ?_; intro U h; simp only [z0, z1] at h; subst h
      refine s_val 100 rfl rfl (.bool false) (rfl) ?_
      refine nr ?_; intro U h; simp only [z0, z1] at h; subst h
      refine wpList_nil ?_
      refine then_n ?_
      refine wp_cond_false rfl ?_
      refine wp_skip ?_
      refine then_n ?_
      refine wp_seq ?_
      refine wp_region_lit ?_
      refine s_val 101 rfl rfl (.slice ao2 q.l.length cap2) (rfl) ?_
      refine nr ?_; intro U h; simp only [z0, z1] at h; subst h
      refine s_val 102 rfl rfl (.int .i64 ((q.l.length : Nat) : Int)) (run_len Try.underlying28 _ rfl _ _ _ rfl _) ?_
      refine nr ?_; intro U h; simp only [z0, z1] at h; subst h
      refine s_val 103 rfl rfl (.int .i64 0) (rfl) ?_
      refine nr ?_; intro U h; simp only [z0, z1] at h; subst h
      refine wpList_nil ?_
      refine then_n ?_
      refine wp_block ?_
      refine wp_loopN (fun mz az wv => ∃ (k : Nat) (l1 : List Nat) (us2 : Nat → Value), mz = q.l.length - k ∧ az = ⟨[.int .i64 sectors, .slice ao os.length cap, undef, undef, us1 0, .pointer (some ⟨p, 0, none⟩), .pointer (some ⟨rp, 0, none⟩), .int .i64 ((j : Nat) : Int), .pointer (some ⟨g1, 0, none⟩), .slice ao2 q.l.length cap2, .int .i64 4, us2 0, us1 6, us1 7, us1 8, us1 9, us1 10, .int .i64 sectors, .pointer (some ⟨p, 0, none⟩), .int .i64 sectors, .pointer (some ⟨rp, 0, none⟩), .bool true, .bool false, .bool false, .pointer (some ⟨p, 0, none⟩), .bool false, .bool false, .slice ao os.length cap, .int .i64 ((os.length : Nat) : Int), .int .i64 ((j : Nat) : Int), .bool true, .int .i64 ((j : Nat) : Int), .pointer (some (ad.add (j * 3))), .agg (c30 q.k q.i ⟨q.ao, q.l.length, q.cap⟩), .int .i64 ((j : Nat) : Int), .bool false, .pointer (some ⟨g1, 0, none⟩), .int .i64 q.k, us1 19, us1 20, us1 21, us1 22, us1 23, us1 24, us1 25, us1 26, us1 27, us1 28, us1 29, us1 30, us1 31, us1 32, us1 33, us1 34, us1 35, us1 36, us1 37, us1 38, us1 39, us1 40, us1 41, us1 42, us1 43, us1 44, us1 45, us1 46, us1 47, us1 48, us1 49, us1 50, us1 51, us1 52, us1 53, us1 54, .bool true, .bool true, .slice (some ⟨gb, 0, none⟩) (([] : List Nat).length) 0, .pointer (some ⟨g1, 2, none⟩), .slice q.ao q.l.length q.cap, .slice ao2 q.l.length cap2, .pointer (some ⟨p, 0, none⟩), .pointer (some ⟨g1, 1, none⟩), .int .i64 q.i, .slice ao2 q.l.length cap2, .int .i64 4, .int .i64 4, .pointer (some ⟨rp, 0, none⟩), .pointer (some ⟨g1, 1, none⟩), .int .i64 q.i, .pointer (some ⟨g1, 2, none⟩), .slice q.ao q.l.length q.cap, .int .i64 4, .bool false, .bool false, .slice ao2 q.l.length cap2, .string (bas q.l), .pointer (some ⟨g1, 2, none⟩), .slice q.ao q.l.length q.cap, .string (bas q.l), .bool false, .bool false, .slice ao2 q.l.length cap2, .int .i64 ((q.l.length : Nat) : Int), .int .i64 ((k : Nat) : Int), us2 1, us2 2, us2 3, us2 4, us2 5, us2 6, us2 7, us2 8, us2 9, us1 94, us1 95, us1 96, us1 97, us1 98, us1 99, us1 100, us1 101, us1 102, us1 103, us1 104, us1 105, us1 106, us1 107, us1 108, us1 109, us1 110, us1 111, us1 112, us1 113, us1 114, us1 115, us1 116, us1 117, us1 118, us1 119, us1 120, us1 121, us1 122, us1 123, us1 124, undef, undef, undef, undef, undef, undef, undef, undef, undef].toArray, []⟩ ∧ k ≤ q.l.length ∧ l1.length = q.l.length ∧ Gro w wv ∧ OB wv 5 .u8 w.heap.size ao2 cap2 l1 ∧ DK wv p sg n L pw (c : Int) ∧ RK wv rp rg n L pw (c : Int)) ?_ _ ⟨0, _, (fun kz => ([us1 5, us1 85, us1 86, us1 87, us1 88, us1 89, us1 90, us1 91, us1 92, us1 93] : List Value).getD kz undef), rfl, rfl, Nat.zero_le _, rfl, GG, HW, HD, HR⟩
      clear GG HD HR HW
      rintro mz az wv ⟨k, l1, us2, rfl, rfl, hj, hl1, GG, HW, HD, HR⟩
      refine wp_seq ?_
      refine wp_region_lit ?_
      obtain ⟨p4, hp4⟩ : ∃ p, decide (((k : Nat) : Int) < ((q.l.length : Nat) : Int)) = p := ⟨_, rfl⟩
      refine s_val 104 rfl rfl (.bool p4) (run_lssT 3 _ _ _ rfl ((k : Nat) : Int) ((q.l.length : Nat) : Int) rfl rfl p4 hp4 _) ?_
      refine nr ?_; intro U h; simp only [z0, z1] at h; subst h
      cases p4
      · refine wpList_nil ?_
        refine then_n ?_
        refine wp_seq ?_
        refine wp_cond_false rfl ?_
        refine wp_exit ?_
        refine then_x ?_
        refine then_x ?_
        refine blk_x ?_
        refine blk_n ?_
        refine then_n ?_
        refine wp_seq ?_
        refine wp_region_exA (A := ?Ax7) 16 [(0, 125), (1, 126), (2, 127), (3, 128), (4, 129), (5, 130), (6, 131), (7, 132), (8, 133), (9, 134), (10, 135), (11, 136), (12, 137), (13, 138), (14, 139), (15, 140)] [.val (.pointer (some ⟨p, 0, none⟩)), .val (.int .i64 (c : Int)), .val (.pointer (some ⟨rp, 0, none⟩)), .val (.pointer (some ⟨rp, 0, none⟩)), .val (.pointer (some ⟨rp, 2, none⟩)), .val (.int .i64 (c : Int)), .val (.bool false), .val (.bool false), .val (.pointer (some ⟨p, 0, none⟩)), .val (.int .i64 ((n : Nat) : Int)), .val (.pointer (some ⟨rp, 0, none⟩)), .val (.pointer (some ⟨rp, 0, none⟩)), .val (.pointer (some ⟨rp, 0, none⟩)), .val (.slice (some ⟨rg, 0, none⟩) (n * 64) (n * 64)), .val (.int .i64 ((n * 64 : Nat) : Int)), .val (.int .i64 ((n : Nat) : Int))] follows (by kernel_rfl) rfl ?hAx7 (opsA_cons ?o0x7 (opsA_cons ?o1x7 (opsA_cons ?o2x7 (opsA_cons ?o3x7 (opsA_cons ?o4x7 (opsA_cons ?o5x7 (opsA_cons ?o6x7 (opsA_cons ?o7x7 (opsA_cons ?o8x7 (opsA_cons ?o9x7 (opsA_cons ?o10x7 (opsA_cons ?o11x7 (opsA_cons ?o12x7 (opsA_cons ?o13x7 (opsA_cons ?o14x7 (opsA_cons ?o15x7 opsA_nil)))))))))))))))) ?restx7
        case hAx7 =>
          intro ptrs
          simp only [full, foldSlots, filledE, postE, List.foldl_cons, List.foldl_nil, List.getD_cons_zero, List.getD_cons_succ, fill_val, List.set_cons_zero, List.set_cons_succ]
          exact rfl
        case o0x7 => exact fun _ _ _ _ => opE_move (v := .pointer (some ⟨p, 0, none⟩)) _ rfl rfl rfl
        case o1x7 => exact fun _ _ hw _ => opE_call (.val (.int .i64 (c : Int))) rfl _ 16 Try.call16 rfl rfl _ rfl [.pointer (some ⟨p, 0, none⟩)] rfl ((done_any _ p sg n _ _ _ (HD.gro ((Gro.refl _).drew.trans hw))).mono fun e w' ⟨he, hg⟩ => ⟨_, he, hg, rfl⟩)
        case o2x7 => exact fun _ _ _ _ => opE_move (v := .pointer (some ⟨rp, 0, none⟩)) _ rfl rfl rfl
        case o3x7 => exact fun _ _ hw _ => opE_value (v := .pointer (some ⟨rp, 0, none⟩)) rfl (run_nc _ rfl _ rfl)
        case o4x7 => exact fun _ _ hw _ => opE_value (v := .pointer (some ⟨rp, 2, none⟩)) rfl (run_fld 35 _ 2 rfl _ _ rfl _ (by kernel_rfl))
        case o5x7 => exact fun _ _ hw _ => opE_value (v := .int .i64 (c : Int)) rfl (run_ldc 3 _ rfl rp 2 rfl 35 _ ((HR.gro ((Gro.refl _).drew.trans hw)).box) (na3 _) _ rfl)
        case o6x7 => exact fun _ _ hw _ => opE_value (v := .bool false) rfl (run_neq_k 3 .i64 _ _ _ rfl Try.underlying3 (c : Int) (c : Int) rfl rfl false (decide_eq_true rfl) _)
        case o7x7 => exact fun _ _ _ _ => opE_move (v := .bool false) _ rfl rfl rfl
        case o8x7 => exact fun _ _ _ _ => opE_move (v := .pointer (some ⟨p, 0, none⟩)) _ rfl rfl rfl
        case o9x7 => exact fun _ _ hw _ => opE_call (.val (.int .i64 ((n : Nat) : Int))) rfl _ 17 Try.call17 rfl rfl _ rfl [.pointer (some ⟨p, 0, none⟩)] rfl ((size_any _ p sg n _ _ _ (HD.gro ((Gro.refl _).drew.trans hw))).mono fun e w' ⟨he, hg⟩ => ⟨_, he, hg, rfl⟩)
        case o10x7 => exact fun _ _ _ _ => opE_move (v := .pointer (some ⟨rp, 0, none⟩)) _ rfl rfl rfl
        case o11x7 => exact fun _ _ hw _ => opE_value (v := .pointer (some ⟨rp, 0, none⟩)) rfl (run_nc _ rfl _ rfl)
        case o12x7 => exact fun _ _ hw _ => opE_value (v := .pointer (some ⟨rp, 0, none⟩)) rfl (run_fld 35 _ 0 rfl _ _ rfl _ (by kernel_rfl))
        case o13x7 => exact fun _ _ hw _ => opE_value (v := .slice (some ⟨rg, 0, none⟩) (n * 64) (n * 64)) rfl (run_ldc 28 _ rfl rp 0 rfl 35 _ ((HR.gro ((Gro.refl _).drew.trans hw)).box) (na28 _) _ rfl)
        case o14x7 => exact fun _ _ hw _ => opE_value (v := .int .i64 ((n * 64 : Nat) : Int)) rfl (run_len Try.underlying28 _ rfl _ _ _ rfl _)
        case o15x7 => exact fun _ _ hw _ => opE_value (v := .int .i64 ((n : Nat) : Int)) rfl (run_quo64 _ _ _ rfl ((n * 64 : Nat) : Int) 64 _ rfl rfl (by decide) quoN (by omega) (by omega) _)
        intro ptrs w11 GD hxE
        simp only [List.drop_succ_cons, List.drop_zero]
        replace HD := HD.gro ((Gro.refl _).drew.trans GD)
        replace HR := HR.gro ((Gro.refl _).drew.trans GD)
        replace HW := HW.gro ((Gro.refl _).drew.trans GD)
        replace GG := GG.drew.trans GD
        clear GD
        refine s_gval 141 rfl rfl (.bool false) (run_neq_k 3 .i64 _ _ _ rfl Try.underlying3 ((n : Nat) : Int) ((n : Nat) : Int) rfl rfl false (decide_eq_true rfl) _) ?_
        refine nr ?_; intro U h; simp only [z0, z1] at h; subst h
        refine s_val 142 rfl rfl (.bool false) (rfl) ?_
        refine nr ?_; intro U h; simp only [z0, z1] at h; subst h
        refine wpList_nil ?_
        refine then_n ?_
        refine wp_cond_false rfl ?_
        refine wp_skip ?_
        refine blk_n ?_
        refine then_n ?_
        refine wp_region_lit ?_
        refine s_val 143 rfl rfl (.int .i64 ((j + 1 : Nat) : Int)) (run_add64 _ _ _ rfl ((j : Nat) : Int) 1 _ rfl rfl (by omega) (by omega) (by omega) _) ?_
        refine nr ?_; intro U h; simp only [z0, z1] at h; subst h
        refine s_val 29 rfl rfl (.int .i64 ((j + 1 : Nat) : Int)) (rfl) ?_
        refine nr ?_; intro U h; simp only [z0, z1] at h; subst h
        refine wpList_nil ?_
        refine then_n ?_
        exact ⟨_, (by omega : os.length - (j + 1) < os.length - j), j + 1, c, _, _, (fun kz => ([us1 0, .int .i64 ((j : Nat) : Int), .pointer (some ⟨g1, 0, none⟩), .slice ao2 q.l.length cap2, .int .i64 4, us2 0, us1 6, us1 7, us1 8, us1 9, us1 10, .bool true, .int .i64 ((j : Nat) : Int), .pointer (some (ad.add (j * 3))), .agg (c30 q.k q.i ⟨q.ao, q.l.length, q.cap⟩), .int .i64 ((j : Nat) : Int), .bool false, .pointer (some ⟨g1, 0, none⟩), .int .i64 q.k, us1 19, us1 20, us1 21, us1 22, us1 23, us1 24, us1 25, us1 26, us1 27, us1 28, us1 29, us1 30, us1 31, us1 32, us1 33, us1 34, us1 35, us1 36, us1 37, us1 38, us1 39, us1 40, us1 41, us1 42, us1 43, us1 44, us1 45, us1 46, us1 47, us1 48, us1 49, us1 50, us1 51, us1 52, us1 53, us1 54, .bool true, .bool true, .slice (some ⟨gb, 0, none⟩) (([] : List Nat).length) 0, .pointer (some ⟨g1, 2, none⟩), .slice q.ao q.l.length q.cap, .slice ao2 q.l.length cap2, .pointer (some ⟨p, 0, none⟩), .pointer (some ⟨g1, 1, none⟩), .int .i64 q.i, .slice ao2 q.l.length cap2, .int .i64 4, .int .i64 4, .pointer (some ⟨rp, 0, none⟩), .pointer (some ⟨g1, 1, none⟩), .int .i64 q.i, .pointer (some ⟨g1, 2, none⟩), .slice q.ao q.l.length q.cap, .int .i64 4, .bool false, .bool false, .slice ao2 q.l.length cap2, .string (bas q.l), .pointer (some ⟨g1, 2, none⟩), .slice q.ao q.l.length q.cap, .string (bas q.l), .bool false, .bool false, .slice ao2 q.l.length cap2, .int .i64 ((q.l.length : Nat) : Int), .int .i64 ((k : Nat) : Int), .bool false, us2 2, us2 3, us2 4, us2 5, us2 6, us2 7, us2 8, us2 9, us1 94, us1 95, us1 96, us1 97, us1 98, us1 99, us1 100, us1 101, us1 102, us1 103, us1 104, us1 105, .pointer (some ⟨p, 0, none⟩), .int .i64 (c : Int), .pointer (some ⟨rp, 0, none⟩), .pointer (some ⟨rp, 0, none⟩), .pointer (some ⟨rp, 2, none⟩), .int .i64 (c : Int), .bool false, .bool false, .pointer (some ⟨p, 0, none⟩), .int .i64 ((n : Nat) : Int), .pointer (some ⟨rp, 0, none⟩), .pointer (some ⟨rp, 0, none⟩), .pointer (some ⟨rp, 0, none⟩), .slice (some ⟨rg, 0, none⟩) (n * 64) (n * 64), .int .i64 ((n * 64 : Nat) : Int), .int .i64 ((n : Nat) : Int), .bool false, .bool false, .int .i64 ((j + 1 : Nat) : Int)] : List Value).getD kz undef), rfl, rfl, (by omega), (by omega), (by omega), hP, GG, HD, HR⟩
      have hjn : k < q.l.length := by have := of_decide_eq_true hp4; omega
      refine wpList_nil ?_
      refine then_n ?_
      refine wp_seq ?_
      refine wp_cond_true rfl ?_
      refine wp_skip ?_
      refine then_n ?_
      refine wp_seq ?_
      refine wp_block ?_
      refine wp_seq ?_
      refine wp_region_lit ?_
      refine s_val 105 rfl rfl (.int .i64 ((k : Nat) : Int)) (rfl) ?_
      refine nr ?_; intro U h; simp only [z0, z1] at h; subst h
      refine s_val 11 rfl rfl (.int .i64 ((k : Nat) : Int)) (rfl) ?_
      refine nr ?_; intro U h; simp only [z0, z1] at h; subst h
      refine wpList_nil ?_
      refine then_n ?_
      refine wp_region_lit ?_
      refine s_val 106 rfl rfl (.slice ao2 q.l.length cap2) (rfl) ?_
      refine nr ?_; intro U h; simp only [z0, z1] at h; subst h
      refine s_val 107 rfl rfl (.int .i64 ((k : Nat) : Int)) (rfl) ?_
      refine nr ?_; intro U h; simp only [z0, z1] at h; subst h
      obtain ⟨gi, cur, hgi, hBi, ki, hci, hmi, hsi, hti⟩ := HW.blk (j := k) (by omega)
      refine s_val 108 rfl rfl (.pointer (some ⟨gi, k, none⟩)) (bat _ _ rfl gi q.l.length cap2 k (by exact congrArg (fun a => Value.slice a q.l.length cap2) hgi) rfl (by omega) _) ?_
      refine nr ?_; intro U h; simp only [z0, z1] at h; subst h
      refine s_val 109 rfl rfl (.int .u8 ((l1.getD k 0 : Nat) : Int)) (run_ld bT _ rfl ⟨gi, k, none⟩ rfl _ _ (HW.cellv hgi (by omega))) ?_
      refine nr ?_; intro U h; simp only [z0, z1] at h; subst h
      refine s_val 110 rfl rfl (.int .u8 ((inc8 (l1.getD k 0) : Nat) : Int)) (run_inc8 _ _ _ rfl (l1.getD k 0) rfl rfl _) ?_
      refine nr ?_; intro U h; simp only [z0, z1] at h; subst h
      refine s_val 111 rfl rfl (.pointer (some ⟨gi, k, none⟩)) (bat _ _ rfl gi q.l.length cap2 k (by exact congrArg (fun a => Value.slice a q.l.length cap2) hgi) rfl (by omega) _) ?_
      refine nr ?_; intro U h; simp only [z0, z1] at h; subst h
      refine s_store rfl rfl 5 _ _ rfl gi k rfl (.int .u8 ((inc8 (l1.getD k 0) : Nat) : Int)) rfl 5 _ ki #[.int .u8 ((inc8 (l1.getD k 0) : Nat) : Int)] rfl si5 (by simp only [List.size_toArray, List.length_cons, List.length_nil]; omega) (one1 _) _ rfl ?_
      intro w11 St
      have hap := HA _ hgi
      have hap1 := hap.1
      have hap2 := hap.2
      replace HD := HD.st St hap1 hap2.1
      replace HR := HR.st St hap2.2.1 hap2.2.2
      replace HW := HW.put hgi ki (by omega) (inc8 (l1.getD k 0)) (inc8_le _) St
      replace GG := GG.store St hBi
      clear St hap hap1 hap2
      refine wpList_nil ?_
      refine blk_n ?_
      refine then_n ?_
      refine wp_region_lit ?_
      refine s_val 112 rfl rfl (.int .i64 ((k + 1 : Nat) : Int)) (run_add64 _ _ _ rfl ((k : Nat) : Int) 1 _ rfl rfl (by omega) (by omega) (by omega) _) ?_
      refine nr ?_; intro U h; simp only [z0, z1] at h; subst h
      refine s_val 103 rfl rfl (.int .i64 ((k + 1 : Nat) : Int)) (rfl) ?_
      refine nr ?_; intro U h; simp only [z0, z1] at h; subst h
      refine wpList_nil ?_
      refine then_n ?_
      exact ⟨_, (by omega : q.l.length - (k + 1) < q.l.length - k), k + 1, _, (fun kz => ([.int .i64 ((k : Nat) : Int), .bool true, .int .i64 ((k : Nat) : Int), .slice ao2 q.l.length cap2, .int .i64 ((k : Nat) : Int), .pointer (some ⟨gi, k, none⟩), .int .u8 ((l1.getD k 0 : Nat) : Int), .int .u8 ((inc8 (l1.getD k 0) : Nat) : Int), .pointer (some ⟨gi, k, none⟩), .int .i64 ((k + 1 : Nat) : Int)] : List Value).getD kz undef), rfl, rfl, (by omega), (by rw [List.length_set]; exact hl1), GG, HW, HD, HR⟩
    by_cases h0 : pw = 0
    · have HX := write_down _ p sg n L pw c HD h0 ao2 cap2 q.l i hi hl
      rw [← hiq] at HX
      refine s_callv 84 rfl rfl _ 11 Try.call11 rfl rfl _ rfl [.pointer (some ⟨p, 0, none⟩), .int .i64 q.i, .slice ao2 q.l.length cap2] rfl (HX) ?_
      intro w9 G
      replace kg1 := G.has kg1
      replace HD := HD.gro G
      replace HR := HR.gro G
      replace HW := HW.gro G
      replace GG := GG.trans G
      clear G
      refine nr ?_; intro U h; simp only [z0, z1] at h; subst h
      clear HX
      refine s_val 10 rfl rfl (.int .i64 8) (rfl) ?_
      refine nr ?_; intro U h; simp only [z0, z1] at h; subst h
      refine wpList_nil ?_
      refine then_n ?_
      refine wp_seq ?_
      refine wp_seq ?_
      refine wp_region_opq ?_
      intro OPS hY
      have y8 := hY 8 93 rfl
      clear hY
      refine s_val 85 rfl rfl (.int .i64 8) (rfl) ?_
      refine nr ?_; intro U h; simp only [z0, z1] at h; subst h
      refine s_val 86 rfl rfl (.pointer (some ⟨rp, 0, none⟩)) (rfl) ?_
      refine nr ?_; intro U h; simp only [z0, z1] at h; subst h
      refine s_val 87 rfl rfl (.pointer (some ⟨g1, 1, none⟩)) (run_fld 30 _ 1 rfl _ _ rfl _ (by kernel_rfl)) ?_
      refine nr ?_; intro U h; simp only [z0, z1] at h; subst h
      refine s_val 88 rfl rfl (.int .i64 q.i) (run_ldc 3 _ rfl g1 1 rfl 30 _ kg1 (na3 _) _ rfl) ?_
      refine nr ?_; intro U h; simp only [z0, z1] at h; subst h
      refine s_val 89 rfl rfl (.pointer (some ⟨g1, 2, none⟩)) (run_fld 30 _ 2 rfl _ _ rfl _ (by kernel_rfl)) ?_
      refine nr ?_; intro U h; simp only [z0, z1] at h; subst h
      refine s_val 90 rfl rfl (.slice q.ao q.l.length q.cap) (run_ldc 28 _ rfl g1 2 rfl 30 _ kg1 (na28 _) _ rfl) ?_
      refine nr ?_; intro U h; simp only [z0, z1] at h; subst h
      have HX := rwrite_down _ rp rg n L pw c HR q.ao q.cap q.l h0 i hi hl
      rw [← hiq] at HX
      refine s_callv 91 rfl rfl _ 12 Try.call12 rfl rfl _ rfl [.pointer (some ⟨rp, 0, none⟩), .int .i64 q.i, .slice q.ao q.l.length q.cap] rfl (HX) ?_
      intro w10 G
      replace kg1 := G.has kg1
      replace HD := HD.gro G
      replace HR := HR.gro G
      replace HW := HW.gro G
      replace GG := GG.trans G
      clear G
      refine nr ?_; intro U h; simp only [z0, z1] at h; subst h
      clear HX
      refine s_val 92 rfl rfl (.bool false) (run_neq_k 31 .i64 _ _ _ rfl Try.underlying31 _ _ rfl rfl false rfl _) ?_
      refine nr ?_; intro U h; simp only [z0, z1] at h; subst h
      refine s_val 93 rfl rfl (.bool false) (rfl) ?_
      refine nr ?_; intro U h; simp only [z0, z1] at h; subst h
      refine s_gvalY 94 rfl rfl y8 rfl (.slice ao2 q.l.length cap2) (rfl) ?_
      refine nr ?_; intro U h; simp only [z0, z1] at h; subst h
      refine s_gvalY 95 rfl rfl y8 rfl (.string (bas q.l)) (run_text_op bT 9 Try.underlying9 _ rfl rfl HW.nc) ?_
      refine nr ?_; intro U h; simp only [z0, z1] at h; subst h
      refine s_gvalY 96 rfl rfl y8 rfl (.pointer (some ⟨g1, 2, none⟩)) (run_fld 30 _ 2 rfl _ _ rfl _ (by kernel_rfl)) ?_
      refine nr ?_; intro U h; simp only [z0, z1] at h; subst h
      refine s_gvalY 97 rfl rfl y8 rfl (.slice q.ao q.l.length q.cap) (run_ldc 28 _ rfl g1 2 rfl 30 _ kg1 (na28 _) _ rfl) ?_
      refine nr ?_; intro U h; simp only [z0, z1] at h; subst h
      refine s_gvalY 98 rfl rfl y8 rfl (.string (bas q.l)) (run_text_op bT 9 Try.underlying9 _ rfl rfl ((HO.row q hqm).gro GG)) ?_
      refine nr ?_; intro U h; simp only [z0, z1] at h; subst h
      refine s_gvalY 99 rfl rfl y8 rfl (.bool false) (run_nes_op _ _ _ rfl _ _ rfl rfl false (decide_eq_true rfl) _) ?_
      refine nr ?_; intro U h; simp only [z0, z1] at h; subst h
      refine s_val 100 rfl rfl (.bool false) (rfl) ?_
      refine nr ?_; intro U h; simp only [z0, z1] at h; subst h
      refine wpList_nil ?_
      refine then_n ?_
      refine wp_cond_false rfl ?_
      refine wp_skip ?_
      refine then_n ?_
      refine wp_seq ?_
      refine wp_region_lit ?_
      refine s_val 101 rfl rfl (.slice ao2 q.l.length cap2) (rfl) ?_
      refine nr ?_; intro U h; simp only [z0, z1] at h; subst h
      refine s_val 102 rfl rfl (.int .i64 ((q.l.length : Nat) : Int)) (run_len Try.underlying28 _ rfl _ _ _ rfl _) ?_
      refine nr ?_; intro U h; simp only [z0, z1] at h; subst h
      refine s_val 103 rfl rfl (.int .i64 0) (rfl) ?_
      refine nr ?_; intro U h; simp only [z0, z1] at h; subst h
      refine wpList_nil ?_
      refine then_n ?_
      refine wp_block ?_
      refine wp_loopN (fun mz az wv => ∃ (k : Nat) (l1 : List Nat) (us2 : Nat → Value), mz = q.l.length - k ∧ az = ⟨[.int .i64 sectors, .slice ao os.length cap, undef, undef, us1 0, .pointer (some ⟨p, 0, none⟩), .pointer (some ⟨rp, 0, none⟩), .int .i64 ((j : Nat) : Int), .pointer (some ⟨g1, 0, none⟩), .slice ao2 q.l.length cap2, .int .i64 8, us2 0, us1 6, us1 7, us1 8, us1 9, us1 10, .int .i64 sectors, .pointer (some ⟨p, 0, none⟩), .int .i64 sectors, .pointer (some ⟨rp, 0, none⟩), .bool true, .bool false, .bool false, .pointer (some ⟨p, 0, none⟩), .bool false, .bool false, .slice ao os.length cap, .int .i64 ((os.length : Nat) : Int), .int .i64 ((j : Nat) : Int), .bool true, .int .i64 ((j : Nat) : Int), .pointer (some (ad.add (j * 3))), .agg (c30 q.k q.i ⟨q.ao, q.l.length, q.cap⟩), .int .i64 ((j : Nat) : Int), .bool false, .pointer (some ⟨g1, 0, none⟩), .int .i64 q.k, us1 19, us1 20, us1 21, us1 22, us1 23, us1 24, us1 25, us1 26, us1 27, us1 28, us1 29, us1 30, us1 31, us1 32, us1 33, us1 34, us1 35, us1 36, us1 37, us1 38, us1 39, us1 40, us1 41, us1 42, us1 43, us1 44, us1 45, us1 46, us1 47, us1 48, us1 49, us1 50, us1 51, us1 52, us1 53, us1 54, .bool true, .bool true, .slice (some ⟨gb, 0, none⟩) (([] : List Nat).length) 0, .pointer (some ⟨g1, 2, none⟩), .slice q.ao q.l.length q.cap, .slice ao2 q.l.length cap2, .pointer (some ⟨p, 0, none⟩), .pointer (some ⟨g1, 1, none⟩), .int .i64 q.i, .slice ao2 q.l.length cap2, .int .i64 8, .int .i64 8, .pointer (some ⟨rp, 0, none⟩), .pointer (some ⟨g1, 1, none⟩), .int .i64 q.i, .pointer (some ⟨g1, 2, none⟩), .slice q.ao q.l.length q.cap, .int .i64 8, .bool false, .bool false, .slice ao2 q.l.length cap2, .string (bas q.l), .pointer (some ⟨g1, 2, none⟩), .slice q.ao q.l.length q.cap, .string (bas q.l), .bool false, .bool false, .slice ao2 q.l.length cap2, .int .i64 ((q.l.length : Nat) : Int), .int .i64 ((k : Nat) : Int), us2 1, us2 2, us2 3, us2 4, us2 5, us2 6, us2 7, us2 8, us2 9, us1 94, us1 95, us1 96, us1 97, us1 98, us1 99, us1 100, us1 101, us1 102, us1 103, us1 104, us1 105, us1 106, us1 107, us1 108, us1 109, us1 110, us1 111, us1 112, us1 113, us1 114, us1 115, us1 116, us1 117, us1 118, us1 119, us1 120, us1 121, us1 122, us1 123, us1 124, undef, undef, undef, undef, undef, undef, undef, undef, undef].toArray, []⟩ ∧ k ≤ q.l.length ∧ l1.length = q.l.length ∧ Gro w wv ∧ OB wv 5 .u8 w.heap.size ao2 cap2 l1 ∧ DK wv p sg n L pw (c : Int) ∧ RK wv rp rg n L pw (c : Int)) ?_ _ ⟨0, _, (fun kz => ([us1 5, us1 85, us1 86, us1 87, us1 88, us1 89, us1 90, us1 91, us1 92, us1 93] : List Value).getD kz undef), rfl, rfl, Nat.zero_le _, rfl, GG, HW, HD, HR⟩
      clear GG HD HR HW
      rintro mz az wv ⟨k, l1, us2, rfl, rfl, hj, hl1, GG, HW, HD, HR⟩
      refine wp_seq ?_
      refine wp_region_lit ?_
      obtain ⟨p4, hp4⟩ : ∃ p, decide (((k : Nat) : Int) < ((q.l.length : Nat) : Int)) = p := ⟨_, rfl⟩
      refine s_val 104 rfl rfl (.bool p4) (run_lssT 3 _ _ _ rfl ((k : Nat) : Int) ((q.l.length : Nat) : Int) rfl rfl p4 hp4 _) ?_
      refine nr ?_; intro U h; simp only [z0, z1] at h; subst h
      cases p4
      · refine wpList_nil ?_
        refine then_n ?_
        refine wp_seq ?_
        refine wp_cond_false rfl ?_
        refine wp_exit ?_
        refine then_x ?_
        refine then_x ?_
        refine blk_x ?_
        refine blk_n ?_
        refine then_n ?_
        refine wp_seq ?_
        refine wp_region_exA (A := ?Ax8) 16 [(0, 125), (1, 126), (2, 127), (3, 128), (4, 129), (5, 130), (6, 131), (7, 132), (8, 133), (9, 134), (10, 135), (11, 136), (12, 137), (13, 138), (14, 139), (15, 140)] [.val (.pointer (some ⟨p, 0, none⟩)), .val (.int .i64 (c : Int)), .val (.pointer (some ⟨rp, 0, none⟩)), .val (.pointer (some ⟨rp, 0, none⟩)), .val (.pointer (some ⟨rp, 2, none⟩)), .val (.int .i64 (c : Int)), .val (.bool false), .val (.bool false), .val (.pointer (some ⟨p, 0, none⟩)), .val (.int .i64 ((n : Nat) : Int)), .val (.pointer (some ⟨rp, 0, none⟩)), .val (.pointer (some ⟨rp, 0, none⟩)), .val (.pointer (some ⟨rp, 0, none⟩)), .val (.slice (some ⟨rg, 0, none⟩) (n * 64) (n * 64)), .val (.int .i64 ((n * 64 : Nat) : Int)), .val (.int .i64 ((n : Nat) : Int))] follows (by kernel_rfl) rfl ?hAx8 (opsA_cons ?o0x8 (opsA_cons ?o1x8 (opsA_cons ?o2x8 (opsA_cons ?o3x8 (opsA_cons ?o4x8 (opsA_cons ?o5x8 (opsA_cons ?o6x8 (opsA_cons ?o7x8 (opsA_cons ?o8x8 (opsA_cons ?o9x8 (opsA_cons ?o10x8 (opsA_cons ?o11x8 (opsA_cons ?o12x8 (opsA_cons ?o13x8 (opsA_cons ?o14x8 (opsA_cons ?o15x8 opsA_nil)))))))))))))))) ?restx8
        case hAx8 =>
          intro ptrs
          simp only [full, foldSlots, filledE, postE, List.foldl_cons, List.foldl_nil, List.getD_cons_zero, List.getD_cons_succ, fill_val, List.set_cons_zero, List.set_cons_succ]
          exact rfl
        case o0x8 => exact fun _ _ _ _ => opE_move (v := .pointer (some ⟨p, 0, none⟩)) _ rfl rfl rfl
        case o1x8 => exact fun _ _ hw _ => opE_call (.val (.int .i64 (c : Int))) rfl _ 16 Try.call16 rfl rfl _ rfl [.pointer (some ⟨p, 0, none⟩)] rfl ((done_any _ p sg n _ _ _ (HD.gro ((Gro.refl _).drew.trans hw))).mono fun e w' ⟨he, hg⟩ => ⟨_, he, hg, rfl⟩)
        case o2x8 => exact fun _ _ _ _ => opE_move (v := .pointer (some ⟨rp, 0, none⟩)) _ rfl rfl rfl
        case o3x8 => exact fun _ _ hw _ => opE_value (v := .pointer (some ⟨rp, 0, none⟩)) rfl (run_nc _ rfl _ rfl)
        case o4x8 => exact fun _ _ hw _ => opE_value (v := .pointer (some ⟨rp, 2, none⟩)) rfl (run_fld 35 _ 2 rfl _ _ rfl _ (by kernel_rfl))
        case o5x8 => exact fun _ _ hw _ => opE_value (v := .int .i64 (c : Int)) rfl (run_ldc 3 _ rfl rp 2 rfl 35 _ ((HR.gro ((Gro.refl _).drew.trans hw)).box) (na3 _) _ rfl)
        case o6x8 => exact fun _ _ hw _ => opE_value (v := .bool false) rfl (run_neq_k 3 .i64 _ _ _ rfl Try.underlying3 (c : Int) (c : Int) rfl rfl false (decide_eq_true rfl) _)
        case o7x8 => exact fun _ _ _ _ => opE_move (v := .bool false) _ rfl rfl rfl
        case o8x8 => exact fun _ _ _ _ => opE_move (v := .pointer (some ⟨p, 0, none⟩)) _ rfl rfl rfl
        case o9x8 => exact fun _ _ hw _ => opE_call (.val (.int .i64 ((n : Nat) : Int))) rfl _ 17 Try.call17 rfl rfl _ rfl [.pointer (some ⟨p, 0, none⟩)] rfl ((size_any _ p sg n _ _ _ (HD.gro ((Gro.refl _).drew.trans hw))).mono fun e w' ⟨he, hg⟩ => ⟨_, he, hg, rfl⟩)
        case o10x8 => exact fun _ _ _ _ => opE_move (v := .pointer (some ⟨rp, 0, none⟩)) _ rfl rfl rfl
        case o11x8 => exact fun _ _ hw _ => opE_value (v := .pointer (some ⟨rp, 0, none⟩)) rfl (run_nc _ rfl _ rfl)
        case o12x8 => exact fun _ _ hw _ => opE_value (v := .pointer (some ⟨rp, 0, none⟩)) rfl (run_fld 35 _ 0 rfl _ _ rfl _ (by kernel_rfl))
        case o13x8 => exact fun _ _ hw _ => opE_value (v := .slice (some ⟨rg, 0, none⟩) (n * 64) (n * 64)) rfl (run_ldc 28 _ rfl rp 0 rfl 35 _ ((HR.gro ((Gro.refl _).drew.trans hw)).box) (na28 _) _ rfl)
        case o14x8 => exact fun _ _ hw _ => opE_value (v := .int .i64 ((n * 64 : Nat) : Int)) rfl (run_len Try.underlying28 _ rfl _ _ _ rfl _)
        case o15x8 => exact fun _ _ hw _ => opE_value (v := .int .i64 ((n : Nat) : Int)) rfl (run_quo64 _ _ _ rfl ((n * 64 : Nat) : Int) 64 _ rfl rfl (by decide) quoN (by omega) (by omega) _)
        intro ptrs w11 GD hxE
        simp only [List.drop_succ_cons, List.drop_zero]
        replace HD := HD.gro ((Gro.refl _).drew.trans GD)
        replace HR := HR.gro ((Gro.refl _).drew.trans GD)
        replace HW := HW.gro ((Gro.refl _).drew.trans GD)
        replace GG := GG.drew.trans GD
        clear GD
        refine s_gval 141 rfl rfl (.bool false) (run_neq_k 3 .i64 _ _ _ rfl Try.underlying3 ((n : Nat) : Int) ((n : Nat) : Int) rfl rfl false (decide_eq_true rfl) _) ?_
        refine nr ?_; intro U h; simp only [z0, z1] at h; subst h
        refine s_val 142 rfl rfl (.bool false) (rfl) ?_
        refine nr ?_; intro U h; simp only [z0, z1] at h; subst h
        refine wpList_nil ?_
        refine then_n ?_
        refine wp_cond_false rfl ?_
        refine wp_skip ?_
        refine blk_n ?_
        refine then_n ?_
        refine wp_region_lit ?_
        refine s_val 143 rfl rfl (.int .i64 ((j + 1 : Nat) : Int)) (run_add64 _ _ _ rfl ((j : Nat) : Int) 1 _ rfl rfl (by omega) (by omega) (by omega) _) ?_
        refine nr ?_; intro U h; simp only [z0, z1] at h; subst h
        refine s_val 29 rfl rfl (.int .i64 ((j + 1 : Nat) : Int)) (rfl) ?_
        refine nr ?_; intro U h; simp only [z0, z1] at h; subst h
        refine wpList_nil ?_
        refine then_n ?_
        exact ⟨_, (by omega : os.length - (j + 1) < os.length - j), j + 1, c, _, _, (fun kz => ([us1 0, .int .i64 ((j : Nat) : Int), .pointer (some ⟨g1, 0, none⟩), .slice ao2 q.l.length cap2, .int .i64 8, us2 0, us1 6, us1 7, us1 8, us1 9, us1 10, .bool true, .int .i64 ((j : Nat) : Int), .pointer (some (ad.add (j * 3))), .agg (c30 q.k q.i ⟨q.ao, q.l.length, q.cap⟩), .int .i64 ((j : Nat) : Int), .bool false, .pointer (some ⟨g1, 0, none⟩), .int .i64 q.k, us1 19, us1 20, us1 21, us1 22, us1 23, us1 24, us1 25, us1 26, us1 27, us1 28, us1 29, us1 30, us1 31, us1 32, us1 33, us1 34, us1 35, us1 36, us1 37, us1 38, us1 39, us1 40, us1 41, us1 42, us1 43, us1 44, us1 45, us1 46, us1 47, us1 48, us1 49, us1 50, us1 51, us1 52, us1 53, us1 54, .bool true, .bool true, .slice (some ⟨gb, 0, none⟩) (([] : List Nat).length) 0, .pointer (some ⟨g1, 2, none⟩), .slice q.ao q.l.length q.cap, .slice ao2 q.l.length cap2, .pointer (some ⟨p, 0, none⟩), .pointer (some ⟨g1, 1, none⟩), .int .i64 q.i, .slice ao2 q.l.length cap2, .int .i64 8, .int .i64 8, .pointer (some ⟨rp, 0, none⟩), .pointer (some ⟨g1, 1, none⟩), .int .i64 q.i, .pointer (some ⟨g1, 2, none⟩), .slice q.ao q.l.length q.cap, .int .i64 8, .bool false, .bool false, .slice ao2 q.l.length cap2, .string (bas q.l), .pointer (some ⟨g1, 2, none⟩), .slice q.ao q.l.length q.cap, .string (bas q.l), .bool false, .bool false, .slice ao2 q.l.length cap2, .int .i64 ((q.l.length : Nat) : Int), .int .i64 ((k : Nat) : Int), .bool false, us2 2, us2 3, us2 4, us2 5, us2 6, us2 7, us2 8, us2 9, us1 94, us1 95, us1 96, us1 97, us1 98, us1 99, us1 100, us1 101, us1 102, us1 103, us1 104, us1 105, .pointer (some ⟨p, 0, none⟩), .int .i64 (c : Int), .pointer (some ⟨rp, 0, none⟩), .pointer (some ⟨rp, 0, none⟩), .pointer (some ⟨rp, 2, none⟩), .int .i64 (c : Int), .bool false, .bool false, .pointer (some ⟨p, 0, none⟩), .int .i64 ((n : Nat) : Int), .pointer (some ⟨rp, 0, none⟩), .pointer (some ⟨rp, 0, none⟩), .pointer (some ⟨rp, 0, none⟩), .slice (some ⟨rg, 0, none⟩) (n * 64) (n * 64), .int .i64 ((n * 64 : Nat) : Int), .int .i64 ((n : Nat) : Int), .bool false, .bool false, .int .i64 ((j + 1 : Nat) : Int)] : List Value).getD kz undef), rfl, rfl, (by omega), (by omega), (by omega), hP, GG, HD, HR⟩
      have hjn : k < q.l.length := by have := of_decide_eq_true hp4; omega
      refine wpList_nil ?_
      refine then_n ?_
      refine wp_seq ?_
      refine wp_cond_true rfl ?_
      refine wp_skip ?_
      refine then_n ?_
      refine wp_seq ?_
      refine wp_block ?_
      refine wp_seq ?_
      refine wp_region_lit ?_
      refine s_val 105 rfl rfl (.int .i64 ((k : Nat) : Int)) (rfl) ?_
      refine nr ?_; intro U h; simp only [z0, z1] at h; subst h
      refine s_val 11 rfl rfl (.int .i64 ((k : Nat) : Int)) (rfl) ?_
      refine nr ?_; intro U h; simp only [z0, z1] at h; subst h
      refine wpList_nil ?_
      refine then_n ?_
      refine wp_region_lit ?_
      refine s_val 106 rfl rfl (.slice ao2 q.l.length cap2) (rfl) ?_
      refine nr ?_; intro U h; simp only [z0, z1] at h; subst h
      refine s_val 107 rfl rfl (.int .i64 ((k : Nat) : Int)) (rfl) ?_
      refine nr ?_; intro U h; simp only [z0, z1] at h; subst h
      obtain ⟨gi, cur, hgi, hBi, ki, hci, hmi, hsi, hti⟩ := HW.blk (j := k) (by omega)
      refine s_val 108 rfl rfl (.pointer (some ⟨gi, k, none⟩)) (bat _ _ rfl gi q.l.length cap2 k (by exact congrArg (fun a => Value.slice a q.l.length cap2) hgi) rfl (by omega) _) ?_
      refine nr ?_; intro U h; simp only [z0, z1] at h; subst h
      refine s_val 109 rfl rfl (.int .u8 ((l1.getD k 0 : Nat) : Int)) (run_ld bT _ rfl ⟨gi, k, none⟩ rfl _ _ (HW.cellv hgi (by omega))) ?_
      refine nr ?_; intro U h; simp only [z0, z1] at h; subst h
      refine s_val 110 rfl rfl (.int .u8 ((inc8 (l1.getD k 0) : Nat) : Int)) (run_inc8 _ _ _ rfl (l1.getD k 0) rfl rfl _) ?_
      refine nr ?_; intro U h; simp only [z0, z1] at h; subst h
      refine s_val 111 rfl rfl (.pointer (some ⟨gi, k, none⟩)) (bat _ _ rfl gi q.l.length cap2 k (by exact congrArg (fun a => Value.slice a q.l.length cap2) hgi) rfl (by omega) _) ?_
      refine nr ?_; intro U h; simp only [z0, z1] at h; subst h
      refine s_store rfl rfl 5 _ _ rfl gi k rfl (.int .u8 ((inc8 (l1.getD k 0) : Nat) : Int)) rfl 5 _ ki #[.int .u8 ((inc8 (l1.getD k 0) : Nat) : Int)] rfl si5 (by simp only [List.size_toArray, List.length_cons, List.length_nil]; omega) (one1 _) _ rfl ?_
      intro w11 St
      have hap := HA _ hgi
      have hap1 := hap.1
      have hap2 := hap.2
      replace HD := HD.st St hap1 hap2.1
      replace HR := HR.st St hap2.2.1 hap2.2.2
      replace HW := HW.put hgi ki (by omega) (inc8 (l1.getD k 0)) (inc8_le _) St
      replace GG := GG.store St hBi
      clear St hap hap1 hap2
      refine wpList_nil ?_
      refine blk_n ?_
      refine then_n ?_
      refine wp_region_lit ?_
      refine s_val 112 rfl rfl (.int .i64 ((k + 1 : Nat) : Int)) (run_add64 _ _ _ rfl ((k : Nat) : Int) 1 _ rfl rfl (by omega) (by omega) (by omega) _) ?_
      refine nr ?_; intro U h; simp only [z0, z1] at h; subst h
      refine s_val 103 rfl rfl (.int .i64 ((k + 1 : Nat) : Int)) (rfl) ?_
      refine nr ?_; intro U h; simp only [z0, z1] at h; subst h
      refine wpList_nil ?_
      refine then_n ?_
      exact ⟨_, (by omega : q.l.length - (k + 1) < q.l.length - k), k + 1, _, (fun kz => ([.int .i64 ((k : Nat) : Int), .bool true, .int .i64 ((k : Nat) : Int), .slice ao2 q.l.length cap2, .int .i64 ((k : Nat) : Int), .pointer (some ⟨gi, k, none⟩), .int .u8 ((l1.getD k 0 : Nat) : Int), .int .u8 ((inc8 (l1.getD k 0) : Nat) : Int), .pointer (some ⟨gi, k, none⟩), .int .i64 ((k + 1 : Nat) : Int)] : List Value).getD kz undef), rfl, rfl, (by omega), (by rw [List.length_set]; exact hl1), GG, HW, HD, HR⟩
    have HX := write_go _ p sg n L pw c HD ao2 cap2 q.l ⟨HW.nc, fun ad ha _ => by have := HA ad ha; simp; omega⟩ i hi hl (by unfold okP at hP; omega) hP.2 (by omega) (by omega)
    rw [← hiq] at HX
    refine s_callx 84 rfl rfl _ 11 Try.call11 rfl rfl _ rfl [.pointer (some ⟨p, 0, none⟩), .int .i64 q.i, .slice ao2 q.l.length cap2] rfl (HX) (fun _ _ ⟨he, _⟩ => ⟨_, he⟩) ?_
    rintro v w9 ⟨he, G, HD2⟩
    cases he
    replace kg1 := G.has kg1 (by simp; omega)
    replace GG := G.gro GG (by simp; omega)
    replace HR := HR.gros G (by simp; omega) (by simp; omega)
    replace HW := HW.gros G (fun ad ha => by have := HA ad ha; simp; omega)
    clear G HD HX
    have HD := HD2
    clear HD2
    refine nr ?_; intro U h; simp only [z0, z1] at h; subst h
    refine s_val 10 rfl rfl (.int .i64 0) (rfl) ?_
    refine nr ?_; intro U h; simp only [z0, z1] at h; subst h
    refine wpList_nil ?_
    refine then_n ?_
    refine wp_seq ?_
    refine wp_seq ?_
    refine wp_region_opq ?_
    intro OPS hY
    have y8 := hY 8 93 rfl
    clear hY
    refine s_val 85 rfl rfl (.int .i64 0) (rfl) ?_
    refine nr ?_; intro U h; simp only [z0, z1] at h; subst h
    refine s_val 86 rfl rfl (.pointer (some ⟨rp, 0, none⟩)) (rfl) ?_
    refine nr ?_; intro U h; simp only [z0, z1] at h; subst h
    refine s_val 87 rfl rfl (.pointer (some ⟨g1, 1, none⟩)) (run_fld 30 _ 1 rfl _ _ rfl _ (by kernel_rfl)) ?_
    refine nr ?_; intro U h; simp only [z0, z1] at h; subst h
    refine s_val 88 rfl rfl (.int .i64 q.i) (run_ldc 3 _ rfl g1 1 rfl 30 _ kg1 (na3 _) _ rfl) ?_
    refine nr ?_; intro U h; simp only [z0, z1] at h; subst h
    refine s_val 89 rfl rfl (.pointer (some ⟨g1, 2, none⟩)) (run_fld 30 _ 2 rfl _ _ rfl _ (by kernel_rfl)) ?_
    refine nr ?_; intro U h; simp only [z0, z1] at h; subst h
    refine s_val 90 rfl rfl (.slice q.ao q.l.length q.cap) (run_ldc 28 _ rfl g1 2 rfl 30 _ kg1 (na28 _) _ rfl) ?_
    refine nr ?_; intro U h; simp only [z0, z1] at h; subst h
    have HX := rwrite_go _ rp rg n L pw c HR q.ao q.cap q.l ⟨(HO.row q hqm).gro GG, fun ad ha h0 => by have := (HO.row q hqm).lt ad ha h0; simp; omega⟩ i hi hl (by unfold okP at hP; omega) hP.2 (by omega) (by omega)
    rw [← hiq] at HX
    refine s_callx 91 rfl rfl _ 12 Try.call12 rfl rfl _ rfl [.pointer (some ⟨rp, 0, none⟩), .int .i64 q.i, .slice q.ao q.l.length q.cap] rfl (HX) (fun _ _ ⟨he, _⟩ => ⟨_, he⟩) ?_
    rintro v w10 ⟨he, G, HR2⟩
    cases he
    replace kg1 := G.has kg1 (by simp; omega)
    replace GG := G.gro GG (by simp; omega)
    replace HD := HD.gros G (by simp; omega) (by simp; omega)
    replace HW := HW.gros G (fun ad ha => by have := HA ad ha; simp; omega)
    clear G HR HX
    have HR := HR2
    clear HR2
    refine nr ?_; intro U h; simp only [z0, z1] at h; subst h
    refine s_val 92 rfl rfl (.bool false) (run_neq_k 31 .i64 _ _ _ rfl Try.underlying31 _ _ rfl rfl false rfl _) ?_
    refine nr ?_; intro U h; simp only [z0, z1] at h; subst h
    refine s_val 93 rfl rfl (.bool false) (rfl) ?_
    refine nr ?_; intro U h; simp only [z0, z1] at h; subst h
    refine s_gvalY 94 rfl rfl y8 rfl (.slice ao2 q.l.length cap2) (rfl) ?_
    refine nr ?_; intro U h; simp only [z0, z1] at h; subst h
    refine s_gvalY 95 rfl rfl y8 rfl (.string (bas q.l)) (run_text_op bT 9 Try.underlying9 _ rfl rfl HW.nc) ?_
    refine nr ?_; intro U h; simp only [z0, z1] at h; subst h
    refine s_gvalY 96 rfl rfl y8 rfl (.pointer (some ⟨g1, 2, none⟩)) (run_fld 30 _ 2 rfl _ _ rfl _ (by kernel_rfl)) ?_
    refine nr ?_; intro U h; simp only [z0, z1] at h; subst h
    refine s_gvalY 97 rfl rfl y8 rfl (.slice q.ao q.l.length q.cap) (run_ldc 28 _ rfl g1 2 rfl 30 _ kg1 (na28 _) _ rfl) ?_
    refine nr ?_; intro U h; simp only [z0, z1] at h; subst h
    refine s_gvalY 98 rfl rfl y8 rfl (.string (bas q.l)) (run_text_op bT 9 Try.underlying9 _ rfl rfl ((HO.row q hqm).gro GG)) ?_
    refine nr ?_; intro U h; simp only [z0, z1] at h; subst h
    refine s_gvalY 99 rfl rfl y8 rfl (.bool false) (run_nes_op _ _ _ rfl _ _ rfl rfl false (decide_eq_true rfl) _) ?_
    refine nr ?_; intro U h; simp only [z0, z1] at h; subst h
    refine s_val 100 rfl rfl (.bool false) (rfl) ?_
    refine nr ?_; intro U h; simp only [z0, z1] at h; subst h
    refine wpList_nil ?_
    refine then_n ?_
    refine wp_cond_false rfl ?_
    refine wp_skip ?_
    refine then_n ?_
    refine wp_seq ?_
    refine wp_region_lit ?_
    refine s_val 101 rfl rfl (.slice ao2 q.l.length cap2) (rfl) ?_
    refine nr ?_; intro U h; simp only [z0, z1] at h; subst h
    refine s_val 102 rfl rfl (.int .i64 ((q.l.length : Nat) : Int)) (run_len Try.underlying28 _ rfl _ _ _ rfl _) ?_
    refine nr ?_; intro U h; simp only [z0, z1] at h; subst h
    refine s_val 103 rfl rfl (.int .i64 0) (rfl) ?_
    refine nr ?_; intro U h; simp only [z0, z1] at h; subst h
    refine wpList_nil ?_
    refine then_n ?_
    refine wp_block ?_
    refine wp_loopN (fun mz az wv => ∃ (k : Nat) (l1 : List Nat) (us2 : Nat → Value), mz = q.l.length - k ∧ az = ⟨[.int .i64 sectors, .slice ao os.length cap, undef, undef, us1 0, .pointer (some ⟨p, 0, none⟩), .pointer (some ⟨rp, 0, none⟩), .int .i64 ((j : Nat) : Int), .pointer (some ⟨g1, 0, none⟩), .slice ao2 q.l.length cap2, .int .i64 0, us2 0, us1 6, us1 7, us1 8, us1 9, us1 10, .int .i64 sectors, .pointer (some ⟨p, 0, none⟩), .int .i64 sectors, .pointer (some ⟨rp, 0, none⟩), .bool true, .bool false, .bool false, .pointer (some ⟨p, 0, none⟩), .bool false, .bool false, .slice ao os.length cap, .int .i64 ((os.length : Nat) : Int), .int .i64 ((j : Nat) : Int), .bool true, .int .i64 ((j : Nat) : Int), .pointer (some (ad.add (j * 3))), .agg (c30 q.k q.i ⟨q.ao, q.l.length, q.cap⟩), .int .i64 ((j : Nat) : Int), .bool false, .pointer (some ⟨g1, 0, none⟩), .int .i64 q.k, us1 19, us1 20, us1 21, us1 22, us1 23, us1 24, us1 25, us1 26, us1 27, us1 28, us1 29, us1 30, us1 31, us1 32, us1 33, us1 34, us1 35, us1 36, us1 37, us1 38, us1 39, us1 40, us1 41, us1 42, us1 43, us1 44, us1 45, us1 46, us1 47, us1 48, us1 49, us1 50, us1 51, us1 52, us1 53, us1 54, .bool true, .bool true, .slice (some ⟨gb, 0, none⟩) (([] : List Nat).length) 0, .pointer (some ⟨g1, 2, none⟩), .slice q.ao q.l.length q.cap, .slice ao2 q.l.length cap2, .pointer (some ⟨p, 0, none⟩), .pointer (some ⟨g1, 1, none⟩), .int .i64 q.i, .slice ao2 q.l.length cap2, .int .i64 0, .int .i64 0, .pointer (some ⟨rp, 0, none⟩), .pointer (some ⟨g1, 1, none⟩), .int .i64 q.i, .pointer (some ⟨g1, 2, none⟩), .slice q.ao q.l.length q.cap, .int .i64 0, .bool false, .bool false, .slice ao2 q.l.length cap2, .string (bas q.l), .pointer (some ⟨g1, 2, none⟩), .slice q.ao q.l.length q.cap, .string (bas q.l), .bool false, .bool false, .slice ao2 q.l.length cap2, .int .i64 ((q.l.length : Nat) : Int), .int .i64 ((k : Nat) : Int), us2 1, us2 2, us2 3, us2 4, us2 5, us2 6, us2 7, us2 8, us2 9, us1 94, us1 95, us1 96, us1 97, us1 98, us1 99, us1 100, us1 101, us1 102, us1 103, us1 104, us1 105, us1 106, us1 107, us1 108, us1 109, us1 110, us1 111, us1 112, us1 113, us1 114, us1 115, us1 116, us1 117, us1 118, us1 119, us1 120, us1 121, us1 122, us1 123, us1 124, undef, undef, undef, undef, undef, undef, undef, undef, undef].toArray, []⟩ ∧ k ≤ q.l.length ∧ l1.length = q.l.length ∧ Gro w wv ∧ OB wv 5 .u8 w.heap.size ao2 cap2 l1 ∧ DK wv p sg n (wr L (i * 64) (padS q.l)) (if pw = -1 then -1 else pw - 1) ((c : Int) + 1) ∧ RK wv rp rg n (wr L (i * 64) (padS q.l)) (if pw = -1 then -1 else pw - 1) ((c : Int) + 1)) ?_ _ ⟨0, _, (fun kz => ([us1 5, us1 85, us1 86, us1 87, us1 88, us1 89, us1 90, us1 91, us1 92, us1 93] : List Value).getD kz undef), rfl, rfl, Nat.zero_le _, rfl, GG, HW, HD, HR⟩
    clear GG HD HR HW
    rintro mz az wv ⟨k, l1, us2, rfl, rfl, hj, hl1, GG, HW, HD, HR⟩
    refine wp_seq ?_
    refine wp_region_lit ?_
    obtain ⟨p4, hp4⟩ : ∃ p, decide (((k : Nat) : Int) < ((q.l.length : Nat) : Int)) = p := ⟨_, rfl⟩
    refine s_val 104 rfl rfl (.bool p4) (run_lssT 3 _ _ _ rfl ((k : Nat) : Int) ((q.l.length : Nat) : Int) rfl rfl p4 hp4 _) ?_
    refine nr ?_; intro U h; simp only [z0, z1] at h; subst h
    cases p4
    · refine wpList_nil ?_
      refine then_n ?_
      refine wp_seq ?_
      refine wp_cond_false rfl ?_
      refine wp_exit ?_
      refine then_x ?_
      refine then_x ?_
      refine blk_x ?_
      refine blk_n ?_
      refine then_n ?_
      refine wp_seq ?_
      refine wp_region_exA (A := ?Ax9) 16 [(0, 125), (1, 126), (2, 127), (3, 128), (4, 129), (5, 130), (6, 131), (7, 132), (8, 133), (9, 134), (10, 135), (11, 136), (12, 137), (13, 138), (14, 139), (15, 140)] [.val (.pointer (some ⟨p, 0, none⟩)), .val (.int .i64 ((c : Int) + 1)), .val (.pointer (some ⟨rp, 0, none⟩)), .val (.pointer (some ⟨rp, 0, none⟩)), .val (.pointer (some ⟨rp, 2, none⟩)), .val (.int .i64 ((c : Int) + 1)), .val (.bool false), .val (.bool false), .val (.pointer (some ⟨p, 0, none⟩)), .val (.int .i64 ((n : Nat) : Int)), .val (.pointer (some ⟨rp, 0, none⟩)), .val (.pointer (some ⟨rp, 0, none⟩)), .val (.pointer (some ⟨rp, 0, none⟩)), .val (.slice (some ⟨rg, 0, none⟩) (n * 64) (n * 64)), .val (.int .i64 ((n * 64 : Nat) : Int)), .val (.int .i64 ((n : Nat) : Int))] follows (by kernel_rfl) rfl ?hAx9 (opsA_cons ?o0x9 (opsA_cons ?o1x9 (opsA_cons ?o2x9 (opsA_cons ?o3x9 (opsA_cons ?o4x9 (opsA_cons ?o5x9 (opsA_cons ?o6x9 (opsA_cons ?o7x9 (opsA_cons ?o8x9 (opsA_cons ?o9x9 (opsA_cons ?o10x9 (opsA_cons ?o11x9 (opsA_cons ?o12x9 (opsA_cons ?o13x9 (opsA_cons ?o14x9 (opsA_cons ?o15x9 opsA_nil)))))))))))))))) ?restx9
      case hAx9 =>
        intro ptrs
        simp only [full, foldSlots, filledE, postE, List.foldl_cons, List.foldl_nil, List.getD_cons_zero, List.getD_cons_succ, fill_val, List.set_cons_zero, List.set_cons_succ]
        exact rfl
      case o0x9 => exact fun _ _ _ _ => opE_move (v := .pointer (some ⟨p, 0, none⟩)) _ rfl rfl rfl
      case o1x9 => exact fun _ _ hw _ => opE_call (.val (.int .i64 ((c : Int) + 1))) rfl _ 16 Try.call16 rfl rfl _ rfl [.pointer (some ⟨p, 0, none⟩)] rfl ((done_any _ p sg n _ _ _ (HD.gro ((Gro.refl _).drew.trans hw))).mono fun e w' ⟨he, hg⟩ => ⟨_, he, hg, rfl⟩)
      case o2x9 => exact fun _ _ _ _ => opE_move (v := .pointer (some ⟨rp, 0, none⟩)) _ rfl rfl rfl
      case o3x9 => exact fun _ _ hw _ => opE_value (v := .pointer (some ⟨rp, 0, none⟩)) rfl (run_nc _ rfl _ rfl)
      case o4x9 => exact fun _ _ hw _ => opE_value (v := .pointer (some ⟨rp, 2, none⟩)) rfl (run_fld 35 _ 2 rfl _ _ rfl _ (by kernel_rfl))
      case o5x9 => exact fun _ _ hw _ => opE_value (v := .int .i64 ((c : Int) + 1)) rfl (run_ldc 3 _ rfl rp 2 rfl 35 _ ((HR.gro ((Gro.refl _).drew.trans hw)).box) (na3 _) _ rfl)
      case o6x9 => exact fun _ _ hw _ => opE_value (v := .bool false) rfl (run_neq_k 3 .i64 _ _ _ rfl Try.underlying3 ((c : Int) + 1) ((c : Int) + 1) rfl rfl false (decide_eq_true rfl) _)
      case o7x9 => exact fun _ _ _ _ => opE_move (v := .bool false) _ rfl rfl rfl
      case o8x9 => exact fun _ _ _ _ => opE_move (v := .pointer (some ⟨p, 0, none⟩)) _ rfl rfl rfl
      case o9x9 => exact fun _ _ hw _ => opE_call (.val (.int .i64 ((n : Nat) : Int))) rfl _ 17 Try.call17 rfl rfl _ rfl [.pointer (some ⟨p, 0, none⟩)] rfl ((size_any _ p sg n _ _ _ (HD.gro ((Gro.refl _).drew.trans hw))).mono fun e w' ⟨he, hg⟩ => ⟨_, he, hg, rfl⟩)
      case o10x9 => exact fun _ _ _ _ => opE_move (v := .pointer (some ⟨rp, 0, none⟩)) _ rfl rfl rfl
      case o11x9 => exact fun _ _ hw _ => opE_value (v := .pointer (some ⟨rp, 0, none⟩)) rfl (run_nc _ rfl _ rfl)
      case o12x9 => exact fun _ _ hw _ => opE_value (v := .pointer (some ⟨rp, 0, none⟩)) rfl (run_fld 35 _ 0 rfl _ _ rfl _ (by kernel_rfl))
      case o13x9 => exact fun _ _ hw _ => opE_value (v := .slice (some ⟨rg, 0, none⟩) (n * 64) (n * 64)) rfl (run_ldc 28 _ rfl rp 0 rfl 35 _ ((HR.gro ((Gro.refl _).drew.trans hw)).box) (na28 _) _ rfl)
      case o14x9 => exact fun _ _ hw _ => opE_value (v := .int .i64 ((n * 64 : Nat) : Int)) rfl (run_len Try.underlying28 _ rfl _ _ _ rfl _)
      case o15x9 => exact fun _ _ hw _ => opE_value (v := .int .i64 ((n : Nat) : Int)) rfl (run_quo64 _ _ _ rfl ((n * 64 : Nat) : Int) 64 _ rfl rfl (by decide) quoN (by omega) (by omega) _)
      intro ptrs w11 GD hxE
      simp only [List.drop_succ_cons, List.drop_zero]
      replace HD := HD.gro ((Gro.refl _).drew.trans GD)
      replace HR := HR.gro ((Gro.refl _).drew.trans GD)
      replace HW := HW.gro ((Gro.refl _).drew.trans GD)
      replace GG := GG.drew.trans GD
      clear GD
      refine s_gval 141 rfl rfl (.bool false) (run_neq_k 3 .i64 _ _ _ rfl Try.underlying3 ((n : Nat) : Int) ((n : Nat) : Int) rfl rfl false (decide_eq_true rfl) _) ?_
      refine nr ?_; intro U h; simp only [z0, z1] at h; subst h
      refine s_val 142 rfl rfl (.bool false) (rfl) ?_
      refine nr ?_; intro U h; simp only [z0, z1] at h; subst h
      refine wpList_nil ?_
      refine then_n ?_
      refine wp_cond_false rfl ?_
      refine wp_skip ?_
      refine blk_n ?_
      refine then_n ?_
      refine wp_region_lit ?_
      refine s_val 143 rfl rfl (.int .i64 ((j + 1 : Nat) : Int)) (run_add64 _ _ _ rfl ((j : Nat) : Int) 1 _ rfl rfl (by omega) (by omega) (by omega) _) ?_
      refine nr ?_; intro U h; simp only [z0, z1] at h; subst h
      refine s_val 29 rfl rfl (.int .i64 ((j + 1 : Nat) : Int)) (rfl) ?_
      refine nr ?_; intro U h; simp only [z0, z1] at h; subst h
      refine wpList_nil ?_
      refine then_n ?_
      exact ⟨_, (by omega : os.length - (j + 1) < os.length - j), j + 1, c + 1, _, _, (fun kz => ([us1 0, .int .i64 ((j : Nat) : Int), .pointer (some ⟨g1, 0, none⟩), .slice ao2 q.l.length cap2, .int .i64 0, us2 0, us1 6, us1 7, us1 8, us1 9, us1 10, .bool true, .int .i64 ((j : Nat) : Int), .pointer (some (ad.add (j * 3))), .agg (c30 q.k q.i ⟨q.ao, q.l.length, q.cap⟩), .int .i64 ((j : Nat) : Int), .bool false, .pointer (some ⟨g1, 0, none⟩), .int .i64 q.k, us1 19, us1 20, us1 21, us1 22, us1 23, us1 24, us1 25, us1 26, us1 27, us1 28, us1 29, us1 30, us1 31, us1 32, us1 33, us1 34, us1 35, us1 36, us1 37, us1 38, us1 39, us1 40, us1 41, us1 42, us1 43, us1 44, us1 45, us1 46, us1 47, us1 48, us1 49, us1 50, us1 51, us1 52, us1 53, us1 54, .bool true, .bool true, .slice (some ⟨gb, 0, none⟩) (([] : List Nat).length) 0, .pointer (some ⟨g1, 2, none⟩), .slice q.ao q.l.length q.cap, .slice ao2 q.l.length cap2, .pointer (some ⟨p, 0, none⟩), .pointer (some ⟨g1, 1, none⟩), .int .i64 q.i, .slice ao2 q.l.length cap2, .int .i64 0, .int .i64 0, .pointer (some ⟨rp, 0, none⟩), .pointer (some ⟨g1, 1, none⟩), .int .i64 q.i, .pointer (some ⟨g1, 2, none⟩), .slice q.ao q.l.length q.cap, .int .i64 0, .bool false, .bool false, .slice ao2 q.l.length cap2, .string (bas q.l), .pointer (some ⟨g1, 2, none⟩), .slice q.ao q.l.length q.cap, .string (bas q.l), .bool false, .bool false, .slice ao2 q.l.length cap2, .int .i64 ((q.l.length : Nat) : Int), .int .i64 ((k : Nat) : Int), .bool false, us2 2, us2 3, us2 4, us2 5, us2 6, us2 7, us2 8, us2 9, us1 94, us1 95, us1 96, us1 97, us1 98, us1 99, us1 100, us1 101, us1 102, us1 103, us1 104, us1 105, .pointer (some ⟨p, 0, none⟩), .int .i64 ((c : Int) + 1), .pointer (some ⟨rp, 0, none⟩), .pointer (some ⟨rp, 0, none⟩), .pointer (some ⟨rp, 2, none⟩), .int .i64 ((c : Int) + 1), .bool false, .bool false, .pointer (some ⟨p, 0, none⟩), .int .i64 ((n : Nat) : Int), .pointer (some ⟨rp, 0, none⟩), .pointer (some ⟨rp, 0, none⟩), .pointer (some ⟨rp, 0, none⟩), .slice (some ⟨rg, 0, none⟩) (n * 64) (n * 64), .int .i64 ((n * 64 : Nat) : Int), .int .i64 ((n : Nat) : Int), .bool false, .bool false, .int .i64 ((j + 1 : Nat) : Int)] : List Value).getD kz undef), rfl, rfl, (by omega), (by omega), (by omega), hP.next h0, GG, HD, HR⟩
    have hjn : k < q.l.length := by have := of_decide_eq_true hp4; omega
    refine wpList_nil ?_
    refine then_n ?_
    refine wp_seq ?_
    refine wp_cond_true rfl ?_
    refine wp_skip ?_
    refine then_n ?_
    refine wp_seq ?_
    refine wp_block ?_
    refine wp_seq ?_
    refine wp_region_lit ?_
    refine s_val 105 rfl rfl (.int .i64 ((k : Nat) : Int)) (rfl) ?_
    refine nr ?_; intro U h; simp only [z0, z1] at h; subst h
    refine s_val 11 rfl rfl (.int .i64 ((k : Nat) : Int)) (rfl) ?_
    refine nr ?_; intro U h; simp only [z0, z1] at h; subst h
    refine wpList_nil ?_
    refine then_n ?_
    refine wp_region_lit ?_
    refine s_val 106 rfl rfl (.slice ao2 q.l.length cap2) (rfl) ?_
    refine nr ?_; intro U h; simp only [z0, z1] at h; subst h
    refine s_val 107 rfl rfl (.int .i64 ((k : Nat) : Int)) (rfl) ?_
    refine nr ?_; intro U h; simp only [z0, z1] at h; subst h
    obtain ⟨gi, cur, hgi, hBi, ki, hci, hmi, hsi, hti⟩ := HW.blk (j := k) (by omega)
    refine s_val 108 rfl rfl (.pointer (some ⟨gi, k, none⟩)) (bat _ _ rfl gi q.l.length cap2 k (by exact congrArg (fun a => Value.slice a q.l.length cap2) hgi) rfl (by omega) _) ?_
    refine nr ?_; intro U h; simp only [z0, z1] at h; subst h
    refine s_val 109 rfl rfl (.int .u8 ((l1.getD k 0 : Nat) : Int)) (run_ld bT _ rfl ⟨gi, k, none⟩ rfl _ _ (HW.cellv hgi (by omega))) ?_
    refine nr ?_; intro U h; simp only [z0, z1] at h; subst h
    refine s_val 110 rfl rfl (.int .u8 ((inc8 (l1.getD k 0) : Nat) : Int)) (run_inc8 _ _ _ rfl (l1.getD k 0) rfl rfl _) ?_
    refine nr ?_; intro U h; simp only [z0, z1] at h; subst h
    refine s_val 111 rfl rfl (.pointer (some ⟨gi, k, none⟩)) (bat _ _ rfl gi q.l.length cap2 k (by exact congrArg (fun a => Value.slice a q.l.length cap2) hgi) rfl (by omega) _) ?_
    refine nr ?_; intro U h; simp only [z0, z1] at h; subst h
    refine s_store rfl rfl 5 _ _ rfl gi k rfl (.int .u8 ((inc8 (l1.getD k 0) : Nat) : Int)) rfl 5 _ ki #[.int .u8 ((inc8 (l1.getD k 0) : Nat) : Int)] rfl si5 (by simp only [List.size_toArray, List.length_cons, List.length_nil]; omega) (one1 _) _ rfl ?_
    intro w11 St
    have hap := HA _ hgi
    have hap1 := hap.1
    have hap2 := hap.2
    replace HD := HD.st St hap1 hap2.1
    replace HR := HR.st St hap2.2.1 hap2.2.2
    replace HW := HW.put hgi ki (by omega) (inc8 (l1.getD k 0)) (inc8_le _) St
    replace GG := GG.store St hBi
    clear St hap hap1 hap2
    refine wpList_nil ?_
    refine blk_n ?_
    refine then_n ?_
    refine wp_region_lit ?_
    refine s_val 112 rfl rfl (.int .i64 ((k + 1 : Nat) : Int)) (run_add64 _ _ _ rfl ((k : Nat) : Int) 1 _ rfl rfl (by omega) (by omega) (by omega) _) ?_
    refine nr ?_; intro U h; simp only [z0, z1] at h; subst h
    refine s_val 103 rfl rfl (.int .i64 ((k + 1 : Nat) : Int)) (rfl) ?_
    refine nr ?_; intro U h; simp only [z0, z1] at h; subst h
    refine wpList_nil ?_
    refine then_n ?_
    exact ⟨_, (by omega : q.l.length - (k + 1) < q.l.length - k), k + 1, _, (fun kz => ([.int .i64 ((k : Nat) : Int), .bool true, .int .i64 ((k : Nat) : Int), .slice ao2 q.l.length cap2, .int .i64 ((k : Nat) : Int), .pointer (some ⟨gi, k, none⟩), .int .u8 ((l1.getD k 0 : Nat) : Int), .int .u8 ((inc8 (l1.getD k 0) : Nat) : Int), .pointer (some ⟨gi, k, none⟩), .int .i64 ((k + 1 : Nat) : Int)] : List Value).getD kz undef), rfl, rfl, (by omega), (by rw [List.length_set]; exact hl1), GG, HW, HD, HR⟩
  refine wpList_nil ?_
  refine then_n ?_
  refine wp_cond_true rfl ?_
  refine wp_exit ?_
  refine then_x ?_
  refine blk_xn (by decide) ?_
  refine then_x ?_
  refine then_x ?_
  refine blk_x ?_
  refine then_n ?_
  refine wp_seq ?_
  refine wp_region_exA (A := ?Ax10) 8 [(0, 144), (1, 145), (2, 146), (3, 147), (4, 148), (5, 149), (6, 150), (7, 151)] [.val (.pointer (some ⟨p, 0, none⟩)), browE L, .val (.string (bas L)), .val (.pointer (some ⟨rp, 0, none⟩)), .val (.pointer (some ⟨rp, 0, none⟩)), .val (.pointer (some ⟨rp, 0, none⟩)), .val (.slice (some ⟨rg, 0, none⟩) (n * 64) (n * 64)), .val (.string (bas L))] follows (by kernel_rfl) rfl ?hAx10 (opsA_cons ?o0x10 (opsA_cons ?o1x10 (opsA_cons ?o2x10 (opsA_cons ?o3x10 (opsA_cons ?o4x10 (opsA_cons ?o5x10 (opsA_cons ?o6x10 (opsA_cons ?o7x10 opsA_nil)))))))) ?restx10
  case hAx10 =>
    intro ptrs
    simp only [full, foldSlots, filledE, postE, List.foldl_cons, List.foldl_nil, List.getD_cons_zero, List.getD_cons_succ, fill_val, fill_brow, List.set_cons_zero, List.set_cons_succ]
    exact rfl
  case o0x10 => exact fun _ _ _ _ => opE_move (v := .pointer (some ⟨p, 0, none⟩)) _ rfl rfl rfl
  case o1x10 => exact fun _ _ hw _ => opE_call (browE L) rfl _ 18 Try.call18 rfl rfl _ rfl [.pointer (some ⟨p, 0, none⟩)] rfl ((bytes_len _ p sg n L pw c (HD.gro ((Gro.refl _).drew.trans hw))).mono fun e w' ⟨g, he, hg, _, hk⟩ => ⟨_, he, hg, g, rfl, hk⟩)
  case o2x10 =>
    intro ptrs w' hw hE
    obtain ⟨⟨gz, hz, oz⟩, _⟩ := hE
    exact opE_value (v := .string (bas L)) rfl (run_text_op bT 9 Try.underlying9 _ rfl (l := L) (by exact hz) (nc_all oz HD.byte))
  case o3x10 => exact fun _ _ _ _ => opE_move (v := .pointer (some ⟨rp, 0, none⟩)) _ rfl rfl rfl
  case o4x10 => exact fun _ _ hw _ => opE_value (v := .pointer (some ⟨rp, 0, none⟩)) rfl (run_nc _ rfl _ rfl)
  case o5x10 => exact fun _ _ hw _ => opE_value (v := .pointer (some ⟨rp, 0, none⟩)) rfl (run_fld 35 _ 0 rfl _ _ rfl _ (by kernel_rfl))
  case o6x10 => exact fun _ _ hw _ => opE_value (v := .slice (some ⟨rg, 0, none⟩) (n * 64) (n * 64)) rfl (run_ldc 28 _ rfl rp 0 rfl 35 _ ((HR.gro ((Gro.refl _).drew.trans hw)).box) (na28 _) _ rfl)
  case o7x10 => exact fun _ _ hw _ => opE_value (v := .string (bas L)) rfl (run_text_op bT 9 Try.underlying9 _ rfl (l := L) (cap := L.length) (by rw [HR.len]; rfl) (nc_all (HR.gro ((Gro.refl _).drew.trans hw)).sec HR.byte))
  intro ptrs w7 GD hxE
  simp only [List.drop_succ_cons, List.drop_zero]
  replace kg1 := GD.has kg1
  replace HD := HD.gro ((Gro.refl _).drew.trans GD)
  replace HR := HR.gro ((Gro.refl _).drew.trans GD)
  replace GG := GG.drew.trans GD
  clear GD
  refine s_val 152 rfl rfl (.bool true) (run_eqs_op _ _ _ rfl _ _ rfl rfl true (decide_eq_true rfl) _) ?_
  refine nr ?_; intro U h; simp only [z0, z1] at h; subst h
  refine s_val 4 rfl rfl (.bool true) (rfl) ?_
  refine nr ?_; intro U h; simp only [z0, z1] at h; subst h
  refine wpList_nil ?_
  refine then_n ?_
  refine wp_ret ?_
  refine bodyPost_ret (results_tmp Try.results3 _ _ _) rfl ?_
  exact ⟨rfl, GG⟩
end Go.Proofs.Ytcobgelcpgnndaa
