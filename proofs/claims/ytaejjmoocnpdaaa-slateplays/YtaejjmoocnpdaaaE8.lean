/- Lists of records that are kept beside a log; a record is appended to a log that stands. -/
import Derived.Test.YtaejjmoocnpdaaaE7
namespace Go.Proofs.Ytaejjmoocnpdaaa
open Go.RowKit

structure RV where
  ao : Option Addr
  cap : Nat
  l : List Nat
def RV.v (x : RV) : Value := .slice x.ao x.l.length x.cap
structure LO (w : World) (B : Nat) (ao : Option Addr) (cap : Nat) (q : List RV) : Prop where
  ox : OX w 22 1 B ao cap q.length (q.map RV.v)
  row : ∀ x ∈ q, OB w 5 .u8 B x.ao x.cap x.l
theorem LO.nil (w : World) (B : Nat) : LO w B none 0 [] := ⟨OX.nil _ _ _ _, fun _ h => by cases h⟩
theorem LO.gro {w w' : World} {B : Nat} {ao : Option Addr} {cap : Nat} {q : List RV} (h : LO w B ao cap q) (G : Gro w w') : LO w' B ao cap q := ⟨h.ox.gro G, fun x hx => (h.row x hx).gro G⟩
theorem OB.blk5 {w : World} {B : Nat} {ao : Option Addr} {cap : Nat} {l : List Nat} (h : OB w 5 .u8 B ao cap l) {ad : Addr} (ha : ao = some ad) : ∃ cur, w.heap[ad.block]? = some (.cells cur 5 (0, 0)) := by
  rcases h.own.2 with ⟨h1, _⟩ | ⟨g, c', cur, h1, _, h2, _⟩
  · injection h1 with e1 e2 e3
    rw [ha] at e1
    cases e1
  · injection h1 with e1 e2 e3
    rw [ha] at e1
    injection e1 with e1
    subst e1
    exact ⟨cur, h2⟩
theorem OX.blk22 {w : World} {e : TypeId} {sz B : Nat} {ao : Option Addr} {cap n : Nat} {cs : List Value} (h : OX w e sz B ao cap n cs) {ad : Addr} (ha : ao = some ad) : ∃ cur, w.heap[ad.block]? = some (.cells cur e (0, 0)) := by
  rcases h.own.2 with ⟨h1, _⟩ | ⟨g, c', cur, h1, _, h2, _⟩
  · injection h1 with e1 e2 e3
    rw [ha] at e1
    cases e1
  · injection h1 with e1 e2 e3
    rw [ha] at e1
    injection e1 with e1
    subst e1
    exact ⟨cur, h2⟩
theorem ne_type {w : World} {a b : Nat} {c c' : Array Value} {t t' : TypeId} (h : w.heap[a]? = some (.cells c t (0, 0))) (h' : w.heap[b]? = some (.cells c' t' (0, 0))) (ht : t ≠ t') : a ≠ b := fun e => by
  subst e
  rw [h] at h'
  injection h' with h'
  injection h' with _ h2
  exact ht h2
theorem LO.gro3 {w w' : World} {B : Nat} {ao : Option Addr} {cap : Nat} {q : List RV} (h : LO w B ao cap q) {p sg lp n : Nat} {L : List Nat} {pw dn : Int} {hd : Hd} {dw : Bool} (HD : DK w p sg n L pw dn) (HK : LK w lp p hd dw) (G : GroS [p, sg, lp] w w') : LO w' B ao cap q := by
  have key : ∀ (k : Nat) (c : Array Value) (t : TypeId), w.heap[k]? = some (.cells c t (0, 0)) → t ≠ 76 → t ≠ 73 → t ≠ 69 → k ∉ [p, sg, lp] := fun k c t hk h1 h2 h3 => by
    have e1 := ne_type hk HD.box h1
    have e2 := ne_type hk HD.sec h2
    have e3 := ne_type hk HK.box h3
    simp only [List.mem_cons, List.not_mem_nil, or_false, not_or]
    exact ⟨e1, e2, e3⟩
  refine ⟨h.ox.gros G fun ad ha => ?_, fun x hx => (h.row x hx).gros G fun ad ha => ?_⟩
  · obtain ⟨cur, hc⟩ := h.ox.blk22 ha
    exact key _ _ _ hc (by decide) (by decide) (by decide)
  · obtain ⟨cur, hc⟩ := (h.row x hx).blk5 ha
    exact key _ _ _ hc (by decide) (by decide) (by decide)
theorem LO.app {w w' : World} {B : Nat} {ao : Option Addr} {cap : Nat} {q : List RV} (H : LO w B ao cap q) {ao2 : Option Addr} {cap2 : Nat} {x : RV} (h2 : OX w' 22 1 B ao2 cap2 (q.length + 1) (q.map RV.v ++ [x.v])) (G : GroS (blk ao) w w') (hx : OB w 5 .u8 B x.ao x.cap x.l) : LO w' B ao2 cap2 (q ++ [x]) := by
  have five : ∀ y : RV, OB w 5 .u8 B y.ao y.cap y.l → OB w' 5 .u8 B y.ao y.cap y.l := fun y hy => hy.gros G fun ad ha => by
    obtain ⟨cur, hc⟩ := hy.blk5 ha
    exact H.ox.ne hc (by decide)
  refine ⟨by simpa using h2, fun y hy => ?_⟩
  rcases List.mem_append.1 hy with hy | hy
  · exact five y (H.row y hy)
  · have : y = x := by simpa using hy
    subst this
    exact five y hx
theorem lc_of {w : World} {ao : Option Addr} {cap : Nat} {q : List RV} (hx : XC w 1 ao cap q.length (q.map RV.v)) (hr : ∀ x ∈ q, NC w .u8 x.ao x.cap x.l) : LC w ao cap (q.map (·.l)) := by
  refine ⟨by rw [List.length_map]; exact hx.fit, hx.bare, fun ad ha j hj => ?_⟩
  rw [List.length_map] at hj
  have h1 : (q.map (·.l)).getD j [] = q[j].l := by simp [List.getD_eq_getElem?_getD, hj]
  rw [h1]
  refine ⟨q[j].ao, q[j].cap, hx.cell ad ha j _ ?_, hr _ (List.getElem_mem _)⟩
  rw [List.getElem?_map, List.getElem?_eq_getElem hj]
  rfl
theorem LO.lc {w : World} {B : Nat} {ao : Option Addr} {cap : Nat} {q : List RV} (h : LO w B ao cap q) : LC w ao cap (q.map (·.l)) := lc_of h.ox.xc fun x hx => (h.row x hx).nc
def rvOf (x : Nat × List Nat) : RV := ⟨some ⟨x.1, 0, none⟩, x.2.length, x.2⟩
theorem RS.lc {w : World} {B : Nat} {ao : Option Addr} {cap : Nat} {q : List (Nat × List Nat)} (h : RS w B ao cap q) : LC w ao cap (q.map (·.2)) := by
  have e1 : q.map (·.2) = (q.map rvOf).map (·.l) := by rw [List.map_map]; rfl
  have e2 : (q.map rvOf).map RV.v = q.map rv := by rw [List.map_map]; rfl
  rw [e1]
  refine lc_of (by rw [e2, List.length_map]; exact h.ox.xc) fun x hx => ?_
  obtain ⟨y, hy, rfl⟩ := List.mem_map.1 hx
  exact nc_all (h.row y hy).2.1 (h.row y hy).2.2
theorem apP_ok {pw : Int} (h : okP pw) (k : Nat) : okP (apP pw k) := by
  unfold okP apP at *
  (repeat' split) <;> omega
/-- What an append leaves of a log that stands. -/
def GoodP (w : World) (lp p sg n : Nat) (dn : Int) (h : Hd) (rs : List (List Nat)) (l : List Nat) (e : Ending) (w' : World) : Prop :=
  ∃ (err : Int) (L' : List Nat) (pw' : Int) (h' : Hd) (dw' : Bool) (dn' : Int), e = .returned (.int .i64 err) ∧ GroS [p, sg, lp] w w' ∧ dn ≤ dn' ∧ dn' ≤ dn + 20 ∧ DK w' p sg n L' pw' dn' ∧ LK w' lp p h' dw' ∧ okP pw' ∧ h'.g ≤ h.g + 1 ∧ ((err = 0 ∧ Good L' n h' (rs ++ [l])) ∨ (err ≠ 0 ∧ Good L' n h' rs))
theorem append_good (w : World) (lp p : Nat) (h : Hd) (dw : Bool) (HK : LK w lp p h dw) (sg n : Nat) (L : List Nat) (pw dn : Int) (HD : DK w p sg n L pw dn) (rs : List (List Nat)) (HG : Good L n h rs) (ao : Option Addr) (cap : Nat) (l : List Nat) (HB : BS [p, sg] w ao cap l) (hP : okP pw) (hg : h.g < 10000) (hne1 : lp ≠ p) (hne2 : lp ≠ sg) (hd : 0 ≤ dn) (hd2 : dn < 9223372036854760000) :
    Calls Try.prog 21 #[.pointer (some ⟨lp, 0, none⟩), .slice ao l.length cap] w (GoodP w lp p sg n dn h rs l) := by
  have hlim : lim = 18446744073709551616 := rfl
  have hn4 := HD.le
  have hf := HG.fit
  have hc := HG.cnt
  have same : ∀ (err : Int) (e : Ending) (w' : World), err ≠ 0 → (e = .returned (.int .i64 err) ∧ Gro w w') → GoodP w lp p sg n dn h rs l e w' := fun err e w' h0 ⟨he, G⟩ =>
    ⟨err, L, pw, h, dw, dn, he, .of G, Int.le_refl _, by omega, HD.gro G, HK.gro G, hP, by omega, .inr ⟨h0, HG⟩⟩
  cases dw with
  | true => exact (append_down w lp p h HK ao cap l).mono fun e w' H => same 8 e w' (by decide) H
  | false =>
    by_cases hl : 1024 < l.length
    · exact (append_long w lp p h HK ao cap l hl).mono fun e w' H => same 4 e w' (by decide) H
    by_cases hk : n - 2 - h.u < secN l.length
    · exact (append_full w lp p h HK sg n L pw dn HD hf ao cap l (by omega) hk).mono fun e w' H => same 5 e w' (by decide) H
    have HA := HG.app pw hn4 (l := l) (by omega) (by omega) (by omega)
    refine (append_go w lp p h HK sg n L pw dn HD hf ao cap l HB (by omega) (by omega) hP (by omega) (by omega) hne1 hne2 hd hd2).mono fun e w' H => ?_
    obtain ⟨dn', he, G, h1, h2, HD2, HK2⟩ := H
    refine ⟨_, _, _, _, _, dn', he, G, h1, h2, HD2, HK2, apP_ok hP _, ?_, ?_⟩
    · unfold apH
      cases apOK pw (secN l.length)
      · exact Nat.le_succ _
      · exact Nat.le_refl _
    · unfold apR at HA
      cases hA : apOK pw (secN l.length)
      · rw [hA] at HA
        exact .inr ⟨by decide, HA⟩
      · rw [hA] at HA
        exact .inl ⟨rfl, HA⟩
theorem ls_byte {w : World} {ao : Option Addr} {cap : Nat} {ls : List (List Nat)} (h : LC w ao cap ls) : ls.length ≤ cap := h.fit
theorem getD_mem2 {ls : List (List Nat)} {j : Nat} (h : j < ls.length) : ls.getD j [] ∈ ls := by
  rw [List.getD_eq_getElem?_getD, List.getElem?_eq_getElem h]
  exact List.getElem_mem _
theorem q_len {q : List RV} {h : Hd} {L : List Nat} {n : Nat} (HG : Good L n h (q.map (·.l))) : q.length = h.c := by
  have := HG.num
  rwa [List.length_map] at this
set_option maxRecDepth 100000 in
set_option maxHeartbeats 4000000 in
theorem slateKeeps_any (w : World) (ao : Option Addr) (cap : Nat) (ls : List (List Nat)) (HA : LC w ao cap ls) (_hal : ls.length ≤ 140737488355000) (hlens : ∀ l ∈ ls, l.length ≤ 140737488355000) (power : Int) : Calls Try.prog 5 #[.slice ao ls.length cap, .int .i64 power] w fun e w' => e = .returned (.bool true) ∧ Gro w w' := by
  refine s_enter Try.func5 rfl Try.ntmps5 [.slice ao ls.length cap, .int .i64 power] [.slice ao ls.length cap, .int .i64 power, undef, undef, undef, undef, undef, undef, undef, undef, undef, undef, undef, undef, undef, undef, undef, undef, undef, undef, undef, undef, undef, undef, undef, undef, undef, undef, undef, undef, undef, undef, undef, undef, undef, undef, undef, undef, undef, undef, undef, undef, undef, undef, undef, undef, undef, undef, undef, undef, undef, undef, undef, undef, undef, undef, undef, undef, undef, undef, undef, undef, undef, undef, undef, undef, undef, undef, undef, undef, undef, undef, undef, undef, undef] rfl ?_
  have GG := Gro.refl w
  refine wp_seq ?_
  refine wp_region_lit ?_
  refine s_val 4 rfl rfl (.bool false) (rfl) ?_
  refine nr ?_; intro U h; simp only [z0, z1] at h; subst h
  refine wpList_nil ?_
  refine then_n ?_
  refine wp_seq ?_
  refine wp_region_lit ?_
  have HC := new_any w 400
  rw [show clN 400 = 400 from rfl] at HC
  refine s_callx 15 rfl rfl _ 23 Try.call23 rfl rfl _ rfl [.int .i64 400] rfl (HC) (fun _ _ ⟨_, _, he, _⟩ => ⟨_, he⟩) ?_
  rintro v w1 ⟨p, sg, he, G, bp, bsg, HD⟩
  cases he
  clear HC
  replace GG := GG.trans G
  clear G
  refine nr ?_; intro U h; simp only [z0, z1] at h; subst h
  refine s_val 5 rfl rfl (.pointer (some ⟨p, 0, none⟩)) (rfl) ?_
  refine nr ?_; intro U h; simp only [z0, z1] at h; subst h
  refine wpList_nil ?_
  refine then_n ?_
  refine wp_seq ?_
  refine wp_region_lit ?_
  refine s_val 17 rfl rfl (.pointer (some ⟨p, 0, none⟩)) (rfl) ?_
  refine nr ?_; intro U h; simp only [z0, z1] at h; subst h
  have hlp := lt_of_heap HD.box
  have hls := lt_of_heap HD.sec
  refine s_callx 18 rfl rfl _ 12 Try.call12 rfl rfl _ rfl [.pointer (some ⟨p, 0, none⟩)] rfl (open_ok _ p sg 400 (zs (400 * 64)) (-1) 0 HD (by decide) [] ((good_new 400 (by decide)).opens (by decide))) (fun _ _ ⟨_, _, _, _, he, _⟩ => ⟨_, he⟩) ?_
  rintro v w2 ⟨lp, aoz, capz, qz, he, hq, G, blp, HK, HL⟩
  cases he
  rw [(good_new 400 (by decide)).counts] at HK
  have hn1 : lp ≠ p := by omega
  have hn2 : lp ≠ sg := by omega
  have blp := Nat.le_trans GG.size blp
  clear HL hq
  replace HD := HD.gro G
  replace GG := GG.trans G
  clear G
  refine nr ?_; intro U h; simp only [z0, z1] at h; subst h
  refine s_val 16 rfl rfl (.tuple #[.pointer (some ⟨lp, 0, none⟩), .slice aoz qz.length capz, .int .i64 0]) (rfl) ?_
  refine nr ?_; intro U h; simp only [z0, z1] at h; subst h
  refine s_val 19 rfl rfl (.pointer (some ⟨lp, 0, none⟩)) (rfl) ?_
  refine nr ?_; intro U h; simp only [z0, z1] at h; subst h
  refine s_val 20 rfl rfl (.slice aoz qz.length capz) (rfl) ?_
  refine nr ?_; intro U h; simp only [z0, z1] at h; subst h
  refine s_val 21 rfl rfl (.int .i64 0) (rfl) ?_
  refine nr ?_; intro U h; simp only [z0, z1] at h; subst h
  refine s_val 6 rfl rfl (.pointer (some ⟨lp, 0, none⟩)) (rfl) ?_
  refine nr ?_; intro U h; simp only [z0, z1] at h; subst h
  refine s_val 7 rfl rfl (.slice aoz qz.length capz) (rfl) ?_
  refine nr ?_; intro U h; simp only [z0, z1] at h; subst h
  refine s_val 8 rfl rfl (.int .i64 0) (rfl) ?_
  refine nr ?_; intro U h; simp only [z0, z1] at h; subst h
  refine wpList_nil ?_
  refine then_n ?_
  refine wp_seq ?_
  refine wp_seq ?_
  refine wp_region_opq ?_
  intro OPS hY
  have y2 := hY 2 24 rfl
  have y6 := hY 6 28 rfl
  have y10 := hY 10 32 rfl
  clear hY
  refine s_val 22 rfl rfl (.pointer (some ⟨p, 0, none⟩)) (rfl) ?_
  refine nr ?_; intro U h; simp only [z0, z1] at h; subst h
  refine s_val 23 rfl rfl (.bool false) (run_eqnp 24 _ _ _ rfl _ rfl rfl Try.underlying24 _) ?_
  refine nr ?_; intro U h; simp only [z0, z1] at h; subst h
  refine s_val 24 rfl rfl (.bool false) (rfl) ?_
  refine nr ?_; intro U h; simp only [z0, z1] at h; subst h
  refine s_gvalY 25 rfl rfl y2 rfl (.pointer (some ⟨lp, 0, none⟩)) (rfl) ?_
  refine nr ?_; intro U h; simp only [z0, z1] at h; subst h
  refine s_gvalY 26 rfl rfl y2 rfl (.bool false) (run_eqnp 29 _ _ _ rfl _ rfl rfl Try.underlying29 _) ?_
  refine nr ?_; intro U h; simp only [z0, z1] at h; subst h
  refine s_val 27 rfl rfl (.bool false) (rfl) ?_
  refine nr ?_; intro U h; simp only [z0, z1] at h; subst h
  refine s_val 28 rfl rfl (.bool false) (rfl) ?_
  refine nr ?_; intro U h; simp only [z0, z1] at h; subst h
  refine s_gvalY 29 rfl rfl y6 rfl (.int .i64 0) (rfl) ?_
  refine nr ?_; intro U h; simp only [z0, z1] at h; subst h
  refine s_gvalY 30 rfl rfl y6 rfl (.bool false) (run_neq_k 31 .i64 _ _ _ rfl Try.underlying31 _ _ rfl rfl false rfl _) ?_
  refine nr ?_; intro U h; simp only [z0, z1] at h; subst h
  refine s_val 31 rfl rfl (.bool false) (rfl) ?_
  refine nr ?_; intro U h; simp only [z0, z1] at h; subst h
  refine s_val 32 rfl rfl (.bool false) (rfl) ?_
  refine nr ?_; intro U h; simp only [z0, z1] at h; subst h
  refine s_gcallvY 33 rfl rfl y10 rfl _ 11 Try.call11 rfl rfl _ rfl [] rfl (fixed_true _) ?_
  intro w3 G
  replace HD := HD.gro G
  replace HK := HK.gro G
  replace GG := GG.trans G
  clear G
  refine nr ?_; intro U h; simp only [z0, z1] at h; subst h
  refine s_gvalY 34 rfl rfl y10 rfl (.bool false) (run_nt _ _ rfl true rfl) ?_
  refine nr ?_; intro U h; simp only [z0, z1] at h; subst h
  refine s_val 35 rfl rfl (.bool false) (rfl) ?_
  refine nr ?_; intro U h; simp only [z0, z1] at h; subst h
  refine wpList_nil ?_
  refine then_n ?_
  refine wp_cond_false rfl ?_
  refine wp_skip ?_
  refine then_n ?_
  refine wp_seq ?_
  refine wp_region_lit ?_
  refine s_val 36 rfl rfl (.pointer (some ⟨p, 0, none⟩)) (rfl) ?_
  refine nr ?_; intro U h; simp only [z0, z1] at h; subst h
  refine s_val 37 rfl rfl (.int .i64 power) (rfl) ?_
  refine nr ?_; intro U h; simp only [z0, z1] at h; subst h
  refine s_val 38 rfl rfl (.int .u64 ((uN power : Nat) : Int)) (conv345 _ rfl power rfl _) ?_
  refine nr ?_; intro U h; simp only [z0, z1] at h; subst h
  refine s_val 39 rfl rfl (.int .u64 ((uN power % 200 : Nat) : Int)) (run_remN 45 45 _ _ rfl (uN power) 200 rfl rfl (by decide) _) ?_
  refine nr ?_; intro U h; simp only [z0, z1] at h; subst h
  refine s_val 40 rfl rfl (.int .i64 ((uN power % 200 : Nat) : Int)) (conv453 _ rfl (uN power % 200) (by omega) rfl _) ?_
  refine nr ?_; intro U h; simp only [z0, z1] at h; subst h
  refine s_callx 41 rfl rfl _ 20 Try.call20 rfl rfl _ rfl [.pointer (some ⟨p, 0, none⟩), .int .i64 ((uN power % 200 : Nat) : Int)] rfl (power_any _ p sg 400 _ _ _ HD ((uN power % 200 : Nat) : Int)) (fun _ _ ⟨he, _⟩ => ⟨_, he⟩) ?_
  rintro v w4 ⟨he, G, HD2⟩
  cases he
  replace GG := G.gro GG (by simp; omega)
  replace HK := HK.gros G (by simp; omega)
  clear G HD
  have HD := HD2
  clear HD2
  refine nr ?_; intro U h; simp only [z0, z1] at h; subst h
  refine wpList_nil ?_
  refine then_n ?_
  refine wp_seq ?_
  refine wp_region_lit ?_
  refine s_val 9 rfl rfl (.slice none 0 0) (rfl) ?_
  refine nr ?_; intro U h; simp only [z0, z1] at h; subst h
  refine wpList_nil ?_
  refine then_n ?_
  refine wp_seq ?_
  refine wp_seq ?_
  refine wp_region_lit ?_
  refine s_val 42 rfl rfl (.slice ao ls.length cap) (rfl) ?_
  refine nr ?_; intro U h; simp only [z0, z1] at h; subst h
  refine s_val 43 rfl rfl (.int .i64 ((ls.length : Nat) : Int)) (run_len Try.underlying30 _ rfl _ _ _ rfl _) ?_
  refine nr ?_; intro U h; simp only [z0, z1] at h; subst h
  refine s_val 44 rfl rfl (.int .i64 0) (rfl) ?_
  refine nr ?_; intro U h; simp only [z0, z1] at h; subst h
  refine wpList_nil ?_
  refine then_n ?_
  refine wp_block ?_
  refine wp_loopN (fun mz az wv => ∃ (j : Nat) (dn : Int) (pw : Int) (L : List Nat) (h : Hd) (dw : Bool) (aq : Option Addr) (cq : Nat) (q : List RV) (us1 : Nat → Value), mz = ls.length - j ∧ az = ⟨[.slice ao ls.length cap, .int .i64 power, undef, undef, .bool false, .pointer (some ⟨p, 0, none⟩), .pointer (some ⟨lp, 0, none⟩), .slice aoz qz.length capz, .int .i64 0, .slice aq q.length cq, us1 0, us1 1, undef, undef, undef, .pointer (some ⟨p, 0, none⟩), .tuple #[.pointer (some ⟨lp, 0, none⟩), .slice aoz qz.length capz, .int .i64 0], .pointer (some ⟨p, 0, none⟩), .tuple #[.pointer (some ⟨lp, 0, none⟩), .slice aoz qz.length capz, .int .i64 0], .pointer (some ⟨lp, 0, none⟩), .slice aoz qz.length capz, .int .i64 0, .pointer (some ⟨p, 0, none⟩), .bool false, .bool false, .pointer (some ⟨lp, 0, none⟩), .bool false, .bool false, .bool false, .int .i64 0, .bool false, .bool false, .bool false, .bool true, .bool false, .bool false, .pointer (some ⟨p, 0, none⟩), .int .i64 power, .int .u64 ((uN power : Nat) : Int), .int .u64 ((uN power % 200 : Nat) : Int), .int .i64 ((uN power % 200 : Nat) : Int), .tuple #[], .slice ao ls.length cap, .int .i64 ((ls.length : Nat) : Int), .int .i64 ((j : Nat) : Int), us1 2, us1 3, us1 4, us1 5, us1 6, us1 7, us1 8, us1 9, us1 10, us1 11, us1 12, us1 13, us1 14, us1 15, us1 16, us1 17, us1 18, undef, undef, undef, undef, undef, undef, undef, undef, undef, undef, undef, undef, undef].toArray, []⟩ ∧ j ≤ ls.length ∧ j ≤ 61 ∧ (0 ≤ dn ∧ dn ≤ 20 * (j : Int)) ∧ okP pw ∧ h.g ≤ j ∧ q.length ≤ j ∧ Good L 400 h (q.map (·.l)) ∧ Gro w wv ∧ DK wv p sg 400 L pw dn ∧ LK wv lp p h dw ∧ LO wv w.heap.size aq cq q) ?_ _ ⟨0, 0, _, _, ⟨0, 0, 0⟩, _, none, 0, [], (fun kz => ([undef, undef, undef, undef, undef, undef, undef, undef, undef, undef, undef, undef, undef, undef, undef, undef, undef, undef, undef] : List Value).getD kz undef), rfl, rfl, Nat.zero_le _, Nat.zero_le _, ⟨Int.le_refl _, Int.le_refl _⟩, okP.set (by omega), Nat.le_refl _, Nat.le_refl _, good_new 400 (by decide), GG, HD, HK, LO.nil _ _⟩
  clear GG HD HK
  rintro mz az wv ⟨j, dn, pw, L, h, dw, aq, cq, q, us1, rfl, rfl, hj, hj2, hd, hP, hgj, hqj, HG, GG, HD, HK, HQ⟩
  refine wp_seq ?_
  refine wp_region_lit ?_
  obtain ⟨p1, hp1⟩ : ∃ p, decide (((j : Nat) : Int) < ((ls.length : Nat) : Int)) = p := ⟨_, rfl⟩
  refine s_val 45 rfl rfl (.bool p1) (run_lssT 3 _ _ _ rfl ((j : Nat) : Int) ((ls.length : Nat) : Int) rfl rfl p1 hp1 _) ?_
  refine nr ?_; intro U h; simp only [z0, z1] at h; subst h
  cases p1
  · refine wpList_nil ?_
    refine then_n ?_
    refine wp_seq ?_
    refine wp_cond_false rfl ?_
    refine wp_exit ?_
    refine then_x ?_
    refine then_x ?_
    refine blk_x ?_
    refine then_n ?_
    refine wp_seq ?_
    refine wp_region_lit ?_
    refine s_val 63 rfl rfl (.pointer (some ⟨p, 0, none⟩)) (rfl) ?_
    refine nr ?_; intro U h; simp only [z0, z1] at h; subst h
    refine s_callx 64 rfl rfl _ 12 Try.call12 rfl rfl _ rfl [.pointer (some ⟨p, 0, none⟩)] rfl (open_ok _ p sg 400 L pw dn HD (by decide) _ (HG.opens (by omega))) (fun _ _ ⟨_, _, _, _, he, _⟩ => ⟨_, he⟩) ?_
    rintro v w5 ⟨lp2, ao5, cap5, q5, he, hq5, G, blp2, HK5, HL⟩
    cases he
    clear HK5
    replace HD := HD.gro G
    replace HK := HK.gro G
    replace HQ := HQ.gro G
    replace GG := GG.trans G
    clear G
    refine nr ?_; intro U h; simp only [z0, z1] at h; subst h
    refine s_val 62 rfl rfl (.tuple #[.pointer (some ⟨lp2, 0, none⟩), .slice ao5 q5.length cap5, .int .i64 0]) (rfl) ?_
    refine nr ?_; intro U h; simp only [z0, z1] at h; subst h
    refine s_val 65 rfl rfl (.pointer (some ⟨lp2, 0, none⟩)) (rfl) ?_
    refine nr ?_; intro U h; simp only [z0, z1] at h; subst h
    refine s_val 66 rfl rfl (.slice ao5 q5.length cap5) (rfl) ?_
    refine nr ?_; intro U h; simp only [z0, z1] at h; subst h
    refine s_val 67 rfl rfl (.int .i64 0) (rfl) ?_
    refine nr ?_; intro U h; simp only [z0, z1] at h; subst h
    refine s_val 12 rfl rfl (.pointer (some ⟨lp2, 0, none⟩)) (rfl) ?_
    refine nr ?_; intro U h; simp only [z0, z1] at h; subst h
    refine s_val 13 rfl rfl (.slice ao5 q5.length cap5) (rfl) ?_
    refine nr ?_; intro U h; simp only [z0, z1] at h; subst h
    refine s_val 14 rfl rfl (.int .i64 0) (rfl) ?_
    refine nr ?_; intro U h; simp only [z0, z1] at h; subst h
    refine wpList_nil ?_
    refine then_n ?_
    refine wp_seq ?_
    refine wp_region_opq ?_
    intro OPS hY
    have y2 := hY 2 70 rfl
    clear hY
    refine s_val 68 rfl rfl (.int .i64 0) (rfl) ?_
    refine nr ?_; intro U h; simp only [z0, z1] at h; subst h
    refine s_val 69 rfl rfl (.bool true) (run_eq_k 31 .i64 _ _ _ rfl Try.underlying31 _ _ rfl rfl true rfl _) ?_
    refine nr ?_; intro U h; simp only [z0, z1] at h; subst h
    refine s_val 70 rfl rfl (.bool true) (rfl) ?_
    refine nr ?_; intro U h; simp only [z0, z1] at h; subst h
    refine s_gvalY 71 rfl rfl y2 rfl (.slice ao5 q5.length cap5) (rfl) ?_
    refine nr ?_; intro U h; simp only [z0, z1] at h; subst h
    refine s_gvalY 72 rfl rfl y2 rfl (.slice aq q.length cq) (rfl) ?_
    refine nr ?_; intro U h; simp only [z0, z1] at h; subst h
    have HC := sameAll_any _ ao5 cap5 (q5.map (·.2)) HL.lc aq cq (q.map (·.l)) HQ.lc (by rw [← hq5, List.length_map]; omega)
    rw [decide_eq_true hq5.symm, List.length_map, List.length_map] at HC
    refine s_gcallvY 73 rfl rfl y2 rfl _ 14 Try.call14 rfl rfl _ rfl [.slice ao5 q5.length cap5, .slice aq q.length cq] rfl (HC) ?_
    intro w6 G
    replace HD := HD.gro G
    replace HK := HK.gro G
    replace HQ := HQ.gro G
    replace HL := HL.gro G
    replace GG := GG.trans G
    clear G
    refine nr ?_; intro U h; simp only [z0, z1] at h; subst h
    clear HC
    refine s_val 74 rfl rfl (.bool true) (rfl) ?_
    refine nr ?_; intro U h; simp only [z0, z1] at h; subst h
    refine s_val 4 rfl rfl (.bool true) (rfl) ?_
    refine nr ?_; intro U h; simp only [z0, z1] at h; subst h
    refine wpList_nil ?_
    refine then_n ?_
    refine wp_ret ?_
    refine bodyPost_ret (results_tmp Try.results5 _ _ _) rfl ?_
    exact ⟨rfl, GG⟩
  have hjn : j < ls.length := by have := of_decide_eq_true hp1; omega
  obtain ⟨ad, ao3, cap3, hao, clA, ncA⟩ := HA.at hjn
  have hrl := hlens _ (getD_mem2 hjn)
  refine wpList_nil ?_
  refine then_n ?_
  refine wp_seq ?_
  refine wp_cond_true rfl ?_
  refine wp_skip ?_
  refine then_n ?_
  refine wp_seq ?_
  refine wp_block ?_
  refine wp_seq ?_
  refine wp_region_lit ?_
  refine s_val 46 rfl rfl (.int .i64 ((j : Nat) : Int)) (rfl) ?_
  refine nr ?_; intro U h; simp only [z0, z1] at h; subst h
  refine s_val 47 rfl rfl (.pointer (some (ad.add j))) (run_idx23 _ _ rfl ad ls.length cap j (by exact congrArg (fun a => Value.slice a ls.length cap) hao) rfl hjn _) ?_
  refine nr ?_; intro U h; simp only [z0, z1] at h; subst h
  refine s_val 48 rfl rfl (.slice ao3 ((ls.getD j []).length) cap3) (run_ld24 _ rfl _ rfl _ _ (gro_cell GG clA)) ?_
  refine nr ?_; intro U h; simp only [z0, z1] at h; subst h
  refine s_val 10 rfl rfl (.int .i64 ((j : Nat) : Int)) (rfl) ?_
  refine nr ?_; intro U h; simp only [z0, z1] at h; subst h
  refine s_val 11 rfl rfl (.slice ao3 ((ls.getD j []).length) cap3) (rfl) ?_
  refine nr ?_; intro U h; simp only [z0, z1] at h; subst h
  refine wpList_nil ?_
  refine then_n ?_
  refine wp_seq ?_
  refine wp_seq ?_
  refine wp_region_lit ?_
  refine s_val 49 rfl rfl (.int .i64 ((j : Nat) : Int)) (rfl) ?_
  refine nr ?_; intro U h; simp only [z0, z1] at h; subst h
  obtain ⟨p2, hp2⟩ : ∃ p, decide (60 < ((j : Nat) : Int)) = p := ⟨_, rfl⟩
  refine s_val 50 rfl rfl (.bool p2) (run_gtrT 3 _ _ _ rfl ((j : Nat) : Int) 60 rfl rfl p2 hp2 _) ?_
  refine nr ?_; intro U h; simp only [z0, z1] at h; subst h
  cases p2
  · have hj60 : j ≤ 60 := by have := of_decide_eq_false hp2; omega
    refine wpList_nil ?_
    refine then_n ?_
    refine wp_cond_false rfl ?_
    refine wp_skip ?_
    refine then_n ?_
    refine wp_seq ?_
    refine wp_region_lit ?_
    refine s_val 51 rfl rfl (.pointer (some ⟨lp, 0, none⟩)) (rfl) ?_
    refine nr ?_; intro U h; simp only [z0, z1] at h; subst h
    refine s_val 52 rfl rfl (.slice ao3 ((ls.getD j []).length) cap3) (rfl) ?_
    refine nr ?_; intro U h; simp only [z0, z1] at h; subst h
    have HX := append_good _ lp p h dw HK sg 400 L pw dn HD _ HG ao3 cap3 (ls.getD j []) ⟨ncA.gro GG, fun ad ha h0 => by have := ncA.lt ad ha h0; simp; omega⟩ hP (by omega) hn1 hn2 (by omega) (by omega)
    refine s_callx 53 rfl rfl _ 21 Try.call21 rfl rfl _ rfl [.pointer (some ⟨lp, 0, none⟩), .slice ao3 ((ls.getD j []).length) cap3] rfl (HX) (fun _ _ ⟨_, _, _, _, _, _, he, _⟩ => ⟨_, he⟩) ?_
    rintro v w5 ⟨err, L2, pw2, h2, dw2, dn2, he, G, hd1, hd2, HD2, HK2, hP2, hg2, hres⟩
    cases he
    replace GG := G.gro GG (by simp; omega)
    replace HQ := HQ.gro3 HD HK G
    clear G HX HD HK
    have HD := HD2
    have HK := HK2
    clear HD2 HK2
    rcases hres with ⟨h0, HG2⟩ | ⟨h0, HG2⟩
    · subst h0
      refine nr ?_; intro U h; simp only [z0, z1] at h; subst h
      refine s_val 54 rfl rfl (.bool true) (run_eq_k 31 .i64 _ _ _ rfl Try.underlying31 0 0 rfl rfl true rfl _) ?_
      refine nr ?_; intro U h; simp only [z0, z1] at h; subst h
      refine wpList_nil ?_
      refine then_n ?_
      refine wp_cond_true rfl ?_
      refine wp_region_lit ?_
      refine s_val 55 rfl rfl (.slice aq q.length cq) (rfl) ?_
      refine nr ?_; intro U h; simp only [z0, z1] at h; subst h
      refine s_bsl 56 rfl rfl 22 0 _ rfl [] rfl #[] 5 (by kernel_rfl) ?_
      intro w6 gb G1 egb kgb
      refine nr ?_; intro U h; simp only [z0, z1] at h; subst h
      refine s_val 57 rfl rfl (.slice ao3 ((ls.getD j []).length) cap3) (rfl) ?_
      refine nr ?_; intro U h; simp only [z0, z1] at h; subst h
      have HO1 : OB _ 5 .u8 gb (some ⟨gb, 0, none⟩) 0 [] := OB.made kgb (Nat.le_refl _) (Nat.le_refl _) (Nat.zero_le _) rfl rfl (fun x hx => by cases hx)
      refine s_app bT 58 rfl rfl _ _ rfl rfl HO1 (l' := (ls.getD j [])) rfl (ncA.gro (GG.trans G1)) (by simp only [List.length_nil]; omega) (by decide) (Nat.le_of_lt (lt_of_heap kgb)) ?_
      intro ao4 cap4 w7 HO2 BB
      rw [List.nil_append] at HO2
      simp only [List.nil_append]
      have G := below_gro G1 BB (Nat.le_of_eq egb)
      have bgb := size_base GG egb
      have HO := HO2.mono bgb
      clear HO1 HO2 BB G1 egb kgb
      replace HD := HD.gro G
      replace HK := HK.gro G
      replace HQ := HQ.gro G
      replace GG := GG.trans G
      clear G
      refine nr ?_; intro U h; simp only [z0, z1] at h; subst h
      refine s_bsl 59 rfl rfl 30 1 _ rfl [(0, .slice ao4 (ls.getD j []).length cap4)] rfl #[.slice ao4 (ls.getD j []).length cap4] 22 (by kernel_rfl) ?_
      intro w8 gB G eB kgB
      clear eB
      replace HD := HD.gro G
      replace HK := HK.gro G
      replace HQ := HQ.gro G
      replace HO := HO.gro G
      replace GG := GG.trans G
      clear G
      refine nr ?_; intro U h; simp only [z0, z1] at h; subst h
      refine s_appXG rT 60 rfl rfl _ _ rfl rfl HQ.ox rfl (xc_one kgB rfl) (by omega) (by decide) GG.size ?_
      intro aq2 cq2 w9 HX GX
      have HQ2 := LO.app (x := ⟨ao4, cap4, (ls.getD j [])⟩) HQ HX GX HO
      replace HD := HD.gros GX (HQ.ox.ne HD.box (by decide)) (HQ.ox.ne HD.sec (by decide))
      replace HK := HK.gros GX (HQ.ox.ne HK.box (by decide))
      replace GG := GX.gro GG HQ.ox.base
      clear HX GX HQ HO kgB
      refine nr ?_; intro U h; simp only [z0, z1] at h; subst h
      refine s_val 9 rfl rfl (.slice aq2 (q.length + 1) cq2) (rfl) ?_
      refine nr ?_; intro U h; simp only [z0, z1] at h; subst h
      refine wpList_nil ?_
      refine blk_n ?_
      refine then_n ?_
      refine wp_region_lit ?_
      refine s_val 61 rfl rfl (.int .i64 ((j + 1 : Nat) : Int)) (run_add64 _ _ _ rfl ((j : Nat) : Int) 1 _ rfl rfl (by omega) (by omega) (by omega) _) ?_
      refine nr ?_; intro U h; simp only [z0, z1] at h; subst h
      refine s_val 44 rfl rfl (.int .i64 ((j + 1 : Nat) : Int)) (rfl) ?_
      refine nr ?_; intro U h; simp only [z0, z1] at h; subst h
      refine wpList_nil ?_
      refine then_n ?_
      exact ⟨_, (by omega : ls.length - (j + 1) < ls.length - j), j + 1, dn2, pw2, L2, h2, dw2, aq2, cq2, q ++ [⟨ao4, cap4, ls.getD j []⟩], (fun kz => ([.int .i64 ((j : Nat) : Int), .slice ao3 ((ls.getD j []).length) cap3, .bool true, .int .i64 ((j : Nat) : Int), .pointer (some (ad.add j)), .slice ao3 ((ls.getD j []).length) cap3, .int .i64 ((j : Nat) : Int), .bool false, .pointer (some ⟨lp, 0, none⟩), .slice ao3 ((ls.getD j []).length) cap3, .int .i64 0, .bool true, .slice aq q.length cq, .slice (some ⟨gb, 0, none⟩) (([] : List Nat).length) 0, .slice ao3 ((ls.getD j []).length) cap3, .slice ao4 ((ls.getD j []).length) cap4, .slice (some ⟨gB, 0, none⟩) 1 1, .slice aq2 (q.length + 1) cq2, .int .i64 ((j + 1 : Nat) : Int)] : List Value).getD kz undef), rfl, (by rw [List.length_append]; rfl), hjn, (by omega), ⟨by omega, by omega⟩, hP2, (by omega), (by rw [List.length_append]; simp; omega), (by rw [List.map_append]; exact HG2), GG, HD, HK, HQ2⟩
    refine nr ?_; intro U h; simp only [z0, z1] at h; subst h
    refine s_val 54 rfl rfl (.bool false) (run_eq_k 31 .i64 _ _ _ rfl Try.underlying31 err 0 rfl rfl false (decide_eq_false h0) _) ?_
    refine nr ?_; intro U h; simp only [z0, z1] at h; subst h
    refine wpList_nil ?_
    refine then_n ?_
    refine wp_cond_false rfl ?_
    refine wp_skip ?_
    refine blk_n ?_
    refine then_n ?_
    refine wp_region_lit ?_
    refine s_val 61 rfl rfl (.int .i64 ((j + 1 : Nat) : Int)) (run_add64 _ _ _ rfl ((j : Nat) : Int) 1 _ rfl rfl (by omega) (by omega) (by omega) _) ?_
    refine nr ?_; intro U h; simp only [z0, z1] at h; subst h
    refine s_val 44 rfl rfl (.int .i64 ((j + 1 : Nat) : Int)) (rfl) ?_
    refine nr ?_; intro U h; simp only [z0, z1] at h; subst h
    refine wpList_nil ?_
    refine then_n ?_
    exact ⟨_, (by omega : ls.length - (j + 1) < ls.length - j), j + 1, dn2, pw2, L2, h2, dw2, aq, cq, q, (fun kz => ([.int .i64 ((j : Nat) : Int), .slice ao3 ((ls.getD j []).length) cap3, .bool true, .int .i64 ((j : Nat) : Int), .pointer (some (ad.add j)), .slice ao3 ((ls.getD j []).length) cap3, .int .i64 ((j : Nat) : Int), .bool false, .pointer (some ⟨lp, 0, none⟩), .slice ao3 ((ls.getD j []).length) cap3, .int .i64 err, .bool false, us1 12, us1 13, us1 14, us1 15, us1 16, us1 17, .int .i64 ((j + 1 : Nat) : Int)] : List Value).getD kz undef), rfl, rfl, hjn, (by omega), ⟨by omega, by omega⟩, hP2, (by omega), (by omega), HG2, GG, HD, HK, HQ⟩
  refine wpList_nil ?_
  refine then_n ?_
  refine wp_cond_true rfl ?_
  refine wp_exit ?_
  refine then_x ?_
  refine blk_xn (by decide) ?_
  refine then_x ?_
  refine then_x ?_
  refine blk_x ?_
  refine then_n ?_
  refine wp_seq ?_
  refine wp_region_lit ?_
  refine s_val 63 rfl rfl (.pointer (some ⟨p, 0, none⟩)) (rfl) ?_
  refine nr ?_; intro U h; simp only [z0, z1] at h; subst h
  refine s_callx 64 rfl rfl _ 12 Try.call12 rfl rfl _ rfl [.pointer (some ⟨p, 0, none⟩)] rfl (open_ok _ p sg 400 L pw dn HD (by decide) _ (HG.opens (by omega))) (fun _ _ ⟨_, _, _, _, he, _⟩ => ⟨_, he⟩) ?_
  rintro v w5 ⟨lp2, ao5, cap5, q5, he, hq5, G, blp2, HK5, HL⟩
  cases he
  clear HK5
  replace HD := HD.gro G
  replace HK := HK.gro G
  replace HQ := HQ.gro G
  replace GG := GG.trans G
  clear G
  refine nr ?_; intro U h; simp only [z0, z1] at h; subst h
  refine s_val 62 rfl rfl (.tuple #[.pointer (some ⟨lp2, 0, none⟩), .slice ao5 q5.length cap5, .int .i64 0]) (rfl) ?_
  refine nr ?_; intro U h; simp only [z0, z1] at h; subst h
  refine s_val 65 rfl rfl (.pointer (some ⟨lp2, 0, none⟩)) (rfl) ?_
  refine nr ?_; intro U h; simp only [z0, z1] at h; subst h
  refine s_val 66 rfl rfl (.slice ao5 q5.length cap5) (rfl) ?_
  refine nr ?_; intro U h; simp only [z0, z1] at h; subst h
  refine s_val 67 rfl rfl (.int .i64 0) (rfl) ?_
  refine nr ?_; intro U h; simp only [z0, z1] at h; subst h
  refine s_val 12 rfl rfl (.pointer (some ⟨lp2, 0, none⟩)) (rfl) ?_
  refine nr ?_; intro U h; simp only [z0, z1] at h; subst h
  refine s_val 13 rfl rfl (.slice ao5 q5.length cap5) (rfl) ?_
  refine nr ?_; intro U h; simp only [z0, z1] at h; subst h
  refine s_val 14 rfl rfl (.int .i64 0) (rfl) ?_
  refine nr ?_; intro U h; simp only [z0, z1] at h; subst h
  refine wpList_nil ?_
  refine then_n ?_
  refine wp_seq ?_
  refine wp_region_opq ?_
  intro OPS hY
  have y2 := hY 2 70 rfl
  clear hY
  refine s_val 68 rfl rfl (.int .i64 0) (rfl) ?_
  refine nr ?_; intro U h; simp only [z0, z1] at h; subst h
  refine s_val 69 rfl rfl (.bool true) (run_eq_k 31 .i64 _ _ _ rfl Try.underlying31 _ _ rfl rfl true rfl _) ?_
  refine nr ?_; intro U h; simp only [z0, z1] at h; subst h
  refine s_val 70 rfl rfl (.bool true) (rfl) ?_
  refine nr ?_; intro U h; simp only [z0, z1] at h; subst h
  refine s_gvalY 71 rfl rfl y2 rfl (.slice ao5 q5.length cap5) (rfl) ?_
  refine nr ?_; intro U h; simp only [z0, z1] at h; subst h
  refine s_gvalY 72 rfl rfl y2 rfl (.slice aq q.length cq) (rfl) ?_
  refine nr ?_; intro U h; simp only [z0, z1] at h; subst h
  have HC := sameAll_any _ ao5 cap5 (q5.map (·.2)) HL.lc aq cq (q.map (·.l)) HQ.lc (by rw [← hq5, List.length_map]; omega)
  rw [decide_eq_true hq5.symm, List.length_map, List.length_map] at HC
  refine s_gcallvY 73 rfl rfl y2 rfl _ 14 Try.call14 rfl rfl _ rfl [.slice ao5 q5.length cap5, .slice aq q.length cq] rfl (HC) ?_
  intro w6 G
  replace HD := HD.gro G
  replace HK := HK.gro G
  replace HQ := HQ.gro G
  replace HL := HL.gro G
  replace GG := GG.trans G
  clear G
  refine nr ?_; intro U h; simp only [z0, z1] at h; subst h
  clear HC
  refine s_val 74 rfl rfl (.bool true) (rfl) ?_
  refine nr ?_; intro U h; simp only [z0, z1] at h; subst h
  refine s_val 4 rfl rfl (.bool true) (rfl) ?_
  refine nr ?_; intro U h; simp only [z0, z1] at h; subst h
  refine wpList_nil ?_
  refine then_n ?_
  refine wp_ret ?_
  refine bodyPost_ret (results_tmp Try.results5 _ _ _) rfl ?_
  exact ⟨rfl, GG⟩
end Go.Proofs.Ytaejjmoocnpdaaa
