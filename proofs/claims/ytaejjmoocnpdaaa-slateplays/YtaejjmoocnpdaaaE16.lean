/- Whatever is appended (SlatePlays). -/
import Derived.Test.YtaejjmoocnpdaaaE15
import Derived.Test.YtaejjmoocnpdaaaE14
import Derived.Test.YtaejjmoocnpdaaaLaw6
namespace Go.Proofs.Ytaejjmoocnpdaaa
open Go.RowKit
def c47 (x0 : Bool) (x1 : Int) (x2 : Sl) : Array Value := #[.bool x0, .int .i64 x1, .slice x2.ao x2.n x2.cap]
theorem cz47 (x0 : Bool) (x1 : Int) (x2 : Sl) : (c47 x0 x1 x2).size = 3 := by kernel_rfl
theorem co47 (x0 : Bool) (x1 : Int) (x2 : Sl) : (c47 x0 x1 x2).all (·.oneCell') = true := by kernel_rfl
theorem si47 : (Try.prog.info? 47).map (·.size) = some 3 := by kernel_rfl
theorem sc47 (x0 : Bool) (x1 : Int) (x2 : Sl) : (Try.prog.info? 47).map (·.size) = some (c47 x0 x1 x2).size := by kernel_rfl
theorem zv47 (w : World) : (zeroValue 47).run Try.prog w = .ok (.agg (c47 false 0 Sl.nil)) w := by kernel_rfl

structure OpW where
  b : Bool
  i : Int
  ao : Option Addr
  cap : Nat
  l : List Nat
def opW (o : OpW) : List Value := [.bool o.b, .int .i64 o.i, .slice o.ao o.l.length o.cap]
theorem flatW : ∀ (os : List OpW) (j : Nat) (o : OpW), os[j]? = some o → ((os.flatMap opW).drop (j * 3)).take 3 = opW o
  | x :: os, 0, o, h => by
    simp at h
    subst h
    simp [opW]
  | x :: os, j + 1, o, h => by
    simp only [List.getElem?_cons_succ] at h
    have := flatW os j o h
    rw [List.flatMap_cons, Nat.add_mul, Nat.one_mul, Nat.add_comm, ← List.drop_drop]
    exact this
  | [], _, _, h => by simp at h
structure OW (w : World) (ao : Option Addr) (cap : Nat) (os : List OpW) : Prop where
  xc : XC w 3 ao cap os.length (os.flatMap opW)
  row : ∀ o ∈ os, NC w .u8 o.ao o.cap o.l
  num : ∀ o ∈ os, -9223372036854775808 ≤ o.i ∧ o.i < 9223372036854775808
theorem wT : RowT Try.prog 44 47 3 40 (.agg (c47 false 0 Sl.nil)) := ⟨Try.underlying44, info_of (by kernel_rfl), rfl, by decide⟩
theorem ld_opW {w : World} {o : Oper} {A : Act} (x : Operand) (ho : o.op = .load 47 x) (ad : Addr) (j : Nat) (hx : A.eval x = .pointer (some (ad.add (j * 3)))) {cap : Nat} {os : List OpW} (h : XC w 3 (some ad) cap os.length (os.flatMap opW)) (q : OpW) (hq : os[j]? = some q) :
    (execOp A.eval o).run Try.prog w = .ok (.value (.agg (c47 q.b q.i ⟨q.ao, q.l.length, q.cap⟩))) w := by
  have hj : j < os.length := (List.getElem?_eq_some_iff.1 hq).1
  rw [run_ldX wT _ Try.underlying47 rfl x ho ad j hx w h hj, flatW os j q hq]
  rfl
theorem rappend_ok (w : World) (mp rp : Nat) (h : Hd) (HM : MK w mp rp h false) (B : Nat) (ro : Option Addr) (rc n : Nat) (L : List Nat) (pw dn : Int) (HR : QK w rp B ro rc n L pw dn) (hu : h.u + 2 ≤ n) (ao : Option Addr) (cap : Nat) (l : List Nat) (HB : BS (rp :: mp :: blk ro) w ao cap l) (hl : l.length ≤ 1024) (hf : h.u + secN l.length + 2 ≤ n) (hP : okP pw) (hg : h.g + 1 < lim) (hc : h.c + 1 < 9223372036854775808) (hd : 0 ≤ dn) (hd2 : dn < 9223372036854760000) (hA : apOK pw (secN l.length) = true) :
    Calls Try.prog 22 #[.pointer (some ⟨mp, 0, none⟩), .slice ao l.length cap] w fun e w' => ∃ dn', e = .returned (.int .i64 0) ∧ GroS (rp :: mp :: blk ro) w w' ∧ dn ≤ dn' ∧ dn' ≤ dn + 20 ∧ QK w' rp B ro rc n (okL L h l) (apP pw (secN l.length)) dn' ∧ MK w' mp rp (h.next (secN l.length)) false := by
  refine (rappend_go w mp rp h HM B ro rc n L pw dn HR hu ao cap l HB hl hf hP hg hc hd hd2).mono fun e w' H => ?_
  unfold RApP apL apH at H
  rw [hA] at H
  exact H
theorem rappend_no (w : World) (mp rp : Nat) (h : Hd) (HM : MK w mp rp h false) (B : Nat) (ro : Option Addr) (rc n : Nat) (L : List Nat) (pw dn : Int) (HR : QK w rp B ro rc n L pw dn) (hu : h.u + 2 ≤ n) (ao : Option Addr) (cap : Nat) (l : List Nat) (HB : BS (rp :: mp :: blk ro) w ao cap l) (hl : l.length ≤ 1024) (hf : h.u + secN l.length + 2 ≤ n) (hP : okP pw) (hg : h.g + 1 < lim) (hc : h.c + 1 < 9223372036854775808) (hd : 0 ≤ dn) (hd2 : dn < 9223372036854760000) (hA : apOK pw (secN l.length) = false) :
    Calls Try.prog 22 #[.pointer (some ⟨mp, 0, none⟩), .slice ao l.length cap] w fun e w' => ∃ dn', e = .returned (.int .i64 8) ∧ GroS (rp :: mp :: blk ro) w w' ∧ dn ≤ dn' ∧ dn' ≤ dn + 20 ∧ QK w' rp B ro rc n (apL L pw h l) (apP pw (secN l.length)) dn' ∧ MK w' mp rp h true := by
  refine (rappend_go w mp rp h HM B ro rc n L pw dn HR hu ao cap l HB hl hf hP hg hc hd hd2).mono fun e w' H => ?_
  unfold RApP apH at H
  rw [hA] at H
  exact H
def SideA (n : Nat) (L : List Nat) (pw : Int) (h : Hd) (dw : Bool) (l : List Nat) (err : Int) (L2 : List Nat) (pw2 : Int) (h2 : Hd) (dw2 : Bool) : Prop :=
  ∀ (w : World) (lp p sg : Nat) (dn : Int) (ao : Option Addr) (cap : Nat), LK w lp p h dw → DK w p sg n L pw dn → BS [p, sg] w ao cap l → lp ≠ p → lp ≠ sg → 0 ≤ dn → dn < 9223372036854760000 →
    Calls Try.prog 21 #[.pointer (some ⟨lp, 0, none⟩), .slice ao l.length cap] w fun e w' => ∃ dn', e = .returned (.int .i64 err) ∧ GroS [p, sg, lp] w w' ∧ dn ≤ dn' ∧ dn' ≤ dn + 20 ∧ DK w' p sg n L2 pw2 dn' ∧ LK w' lp p h2 dw2
def SideB (n : Nat) (L : List Nat) (pw : Int) (h : Hd) (dw : Bool) (l : List Nat) (err : Int) (L2 : List Nat) (pw2 : Int) (h2 : Hd) (dw2 : Bool) : Prop :=
  ∀ (w : World) (mp rp B : Nat) (ro : Option Addr) (rc : Nat) (dn : Int) (ao : Option Addr) (cap : Nat), MK w mp rp h dw → QK w rp B ro rc n L pw dn → BS (rp :: mp :: blk ro) w ao cap l → 0 ≤ dn → dn < 9223372036854760000 →
    Calls Try.prog 22 #[.pointer (some ⟨mp, 0, none⟩), .slice ao l.length cap] w fun e w' => ∃ dn', e = .returned (.int .i64 err) ∧ GroS (rp :: mp :: blk ro) w w' ∧ dn ≤ dn' ∧ dn' ≤ dn + 20 ∧ QK w' rp B ro rc n L2 pw2 dn' ∧ MK w' mp rp h2 dw2
theorem append_both (n : Nat) (L : List Nat) (pw : Int) (h : Hd) (dw : Bool) (rs : List (List Nat)) (l : List Nat) (HG : Good L n h rs) (hP : okP pw) (hg : h.g < 10000) (hn : n ≤ 4096) :
    ∃ (err : Int) (L2 : List Nat) (pw2 : Int) (h2 : Hd) (dw2 : Bool) (rs2 : List (List Nat)), okP pw2 ∧ h2.g ≤ h.g + 1 ∧ Good L2 n h2 rs2 ∧ SideA n L pw h dw l err L2 pw2 h2 dw2 ∧ SideB n L pw h dw l err L2 pw2 h2 dw2 := by
  have hlim : lim = 18446744073709551616 := rfl
  have hf := HG.fit
  have hc := HG.cnt
  have still : ∀ err : Int, (∀ (w : World) (lp p sg : Nat) (dn : Int) (ao : Option Addr) (cap : Nat), LK w lp p h dw → DK w p sg n L pw dn → Calls Try.prog 21 #[.pointer (some ⟨lp, 0, none⟩), .slice ao l.length cap] w fun e w' => e = .returned (.int .i64 err) ∧ Gro w w') →
      (∀ (w : World) (mp rp B : Nat) (ro : Option Addr) (rc : Nat) (dn : Int) (ao : Option Addr) (cap : Nat), MK w mp rp h dw → QK w rp B ro rc n L pw dn → Calls Try.prog 22 #[.pointer (some ⟨mp, 0, none⟩), .slice ao l.length cap] w fun e w' => e = .returned (.int .i64 err) ∧ Gro w w') →
      SideA n L pw h dw l err L pw h dw ∧ SideB n L pw h dw l err L pw h dw := fun err a b =>
    ⟨fun w lp p sg dn ao cap h1 h2 _ _ _ _ _ => (a w lp p sg dn ao cap h1 h2).mono fun e w' ⟨he, G⟩ => ⟨dn, he, .of G, Int.le_refl _, by omega, h2.gro G, h1.gro G⟩,
     fun w mp rp B ro rc dn ao cap h1 h2 _ _ _ => (b w mp rp B ro rc dn ao cap h1 h2).mono fun e w' ⟨he, G⟩ => ⟨dn, he, .of G, Int.le_refl _, by omega, h2.gro G, h1.gro G⟩⟩
  cases dw with
  | true => exact ⟨8, L, pw, h, true, rs, hP, by omega, HG, still 8 (fun w lp p _ _ ao cap h1 _ => append_down w lp p h h1 ao cap l) (fun w mp rp _ _ _ _ ao cap h1 _ => rappend_down w mp rp h h1 ao cap l)⟩
  | false =>
    by_cases hl : 1024 < l.length
    · exact ⟨4, L, pw, h, false, rs, hP, by omega, HG, still 4 (fun w lp p _ _ ao cap h1 _ => append_long w lp p h h1 ao cap l hl) (fun w mp rp _ _ _ _ ao cap h1 _ => rappend_long w mp rp h h1 ao cap l hl)⟩
    by_cases hk : n - 2 - h.u < secN l.length
    · exact ⟨5, L, pw, h, false, rs, hP, by omega, HG, still 5 (fun w lp p sg dn ao cap h1 h2 => append_full w lp p h h1 sg n L pw dn h2 hf ao cap l (by omega) hk) (fun w mp rp B ro rc dn ao cap h1 h2 => rappend_full w mp rp h h1 B ro rc n L pw dn h2 hf ao cap l (by omega) hk)⟩
    have HA := HG.app pw hn (l := l) (by omega) (by omega) (by omega)
    cases hA : apOK pw (secN l.length) with
    | true =>
      unfold apL apH apR at HA
      rw [hA] at HA
      exact ⟨0, okL L h l, apP pw (secN l.length), h.next (secN l.length), false, rs ++ [l], apP_ok hP _, Nat.le_refl _, HA,
        fun w lp p sg dn ao cap h1 h2 h3 h4 h5 h6 h7 => append_ok w lp p h h1 sg n L pw dn h2 hf ao cap l h3 (by omega) (by omega) hP (by omega) (by omega) h4 h5 h6 h7 hA,
        fun w mp rp B ro rc dn ao cap h1 h2 h3 h6 h7 => rappend_ok w mp rp h h1 B ro rc n L pw dn h2 hf ao cap l h3 (by omega) (by omega) hP (by omega) (by omega) h6 h7 hA⟩
    | false =>
      unfold apH apR at HA
      rw [hA] at HA
      exact ⟨8, apL L pw h l, apP pw (secN l.length), h, true, rs, apP_ok hP _, by omega, HA,
        fun w lp p sg dn ao cap h1 h2 h3 h4 h5 h6 h7 => append_no w lp p h h1 sg n L pw dn h2 hf ao cap l h3 (by omega) (by omega) hP (by omega) (by omega) h4 h5 h6 h7 hA,
        fun w mp rp B ro rc dn ao cap h1 h2 h3 h6 h7 => rappend_no w mp rp h h1 B ro rc n L pw dn h2 hf ao cap l h3 (by omega) (by omega) hP (by omega) (by omega) h6 h7 hA⟩
/-- How things stand behind a call of each side. -/
structure PX (w x : World) (p sg lp rp mp B g : Nat) (ro : Option Addr) (rc n : Nat) (L : List Nat) (pw dn dr : Int) (h : Hd) (dw : Bool) (ao4 : Option Addr) (cap4 : Nat) (q : OpW) : Prop where
  gg : Gro w x
  dk : DK x p sg n L pw dn
  lk : LK x lp p h dw
  mq : MK x mp rp h dw
  rk : ∃ d, dr ≤ d ∧ d ≤ dr + 20 ∧ QK x rp B ro rc n L pw d
  ob : OB x 5 .u8 w.heap.size ao4 cap4 q.l
  blk : x.heap[g]? = some (.cells (c47 false q.i ⟨q.ao, q.l.length, q.cap⟩) 47 (0, 0))
theorem PX.gro {w x y : World} {p sg lp rp mp B g : Nat} {ro : Option Addr} {rc n : Nat} {L : List Nat} {pw dn dr : Int} {h : Hd} {dw : Bool} {ao4 : Option Addr} {cap4 : Nat} {q : OpW} (H : PX w x p sg lp rp mp B g ro rc n L pw dn dr h dw ao4 cap4 q) (G : Gro x y) : PX w y p sg lp rp mp B g ro rc n L pw dn dr h dw ao4 cap4 q := by
  obtain ⟨d, h1, h2, h3⟩ := H.rk
  exact ⟨H.gg.trans G, H.dk.gro G, H.lk.gro G, H.mq.gro G, ⟨d, h1, h2, h3.gro G⟩, H.ob.gro G, G.has H.blk⟩
theorem wp_region_phG {P : Program} {id : Nat} {l : List Oper} {Q : Exit → Act → World → Prop} {a0 : Act} {w : World} {A : (Nat → Value) → Act} (R1 : World → Prop) (n : Nat) (D : List (Nat × Nat)) (posts : List PostE) (e0 : Nat) (hm : P.follows .mixedOrders = true)
    (hB : growB l.toArray n D = true) (hsz : (D.all fun p => decide (p.2 < a0.tmps.size)) = true) (he0 : e0 < n) (hav : ∀ j, j < e0 → ∃ v, postE posts j = .val v) (hdep : ((List.range n).all fun i => !decide (e0 < i) || reach l.toArray l.toArray.size i e0) = true)
    (hr1 : ∀ a b, R1 a → Gro a b → R1 b) (hA : ∀ ptrs, full a0 D (filledE posts ptrs) = A ptrs) (hop : opsP P l.toArray posts A (fun x => Gro w.drew x) R1 e0 0 (l.take n))
    (hrest : ∀ ptrs w', R1 w' → exHold posts ptrs w' (List.range n) → wpList P l.toArray Q (l.drop n) (A ptrs) w') : (Code.region id l.toArray true).wp P Q a0 w :=
  wp_region_ph n D posts e0 hm hB hsz he0 hav hdep (Gro.refl _) (fun _ _ h g => h.trans g) hr1 hA hop hrest
theorem av4 {a b c d : Value} {r : List PostE} : ∀ j, j < 4 → ∃ v, postE (.val a :: .val b :: .val c :: .val d :: r) j = .val v
  | 0, _ => ⟨a, rfl⟩
  | 1, _ => ⟨b, rfl⟩
  | 2, _ => ⟨c, rfl⟩
  | 3, _ => ⟨d, rfl⟩
  | n + 4, h => by omega
theorem QK.gros {S : List Nat} {w w' : World} {p B : Nat} {ao : Option Addr} {cap n : Nat} {L : List Nat} {pw dn : Int} (h : QK w p B ao cap n L pw dn) (G : GroS S w w') (hp : p ∉ S) (hs : ∀ ad, ao = some ad → ad.block ∉ S) : QK w' p B ao cap n L pw dn := ⟨G.has h.box hp, h.row.gros G hs, h.len, h.le⟩
theorem MK.st {w w' : World} {lp p : Nat} {h : Hd} {dw : Bool} {g : Nat} {x : Obj} (H : MK w lp p h dw) (S : Stored w w' g x) (h1 : g ≠ lp) : MK w' lp p h dw := ⟨S.has (Ne.symm h1) H.box⟩
theorem QK.below {w w' : World} {p B _C : Nat} {ao : Option Addr} {cap n : Nat} {L : List Nat} {pw dn : Int} (h : QK w p B ao cap n L pw dn) (G : Gro w w') : QK w' p B ao cap n L pw dn := h.gro G
set_option maxRecDepth 100000 in
set_option maxHeartbeats 4000000 in
theorem slatePlays_small (w : World) (size : Int) (ao : Option Addr) (cap : Nat) (os : List OpW) (HO : OW w ao cap os) (hol : os.length ≤ 140737488355000) (hlens : ∀ o ∈ os, o.l.length ≤ 140737488355000) (hs : uN size % 40 < 3) : Calls Try.prog 4 #[.int .i64 size, .slice ao os.length cap] w fun e w' => e = .returned (.bool true) ∧ Gro w w' := by
  refine s_enter Try.func4 rfl Try.ntmps4 [.int .i64 size, .slice ao os.length cap] [.int .i64 size, .slice ao os.length cap, undef, undef, undef, undef, undef, undef, undef, undef, undef, undef, undef, undef, undef, undef, undef, undef, undef, undef, undef, undef, undef, undef, undef, undef, undef, undef, undef, undef, undef, undef, undef, undef, undef, undef, undef, undef, undef, undef, undef, undef, undef, undef, undef, undef, undef, undef, undef, undef, undef, undef, undef, undef, undef, undef, undef, undef, undef, undef, undef, undef, undef, undef, undef, undef, undef, undef, undef, undef, undef, undef, undef, undef, undef, undef, undef, undef, undef, undef, undef, undef, undef, undef, undef, undef, undef, undef, undef, undef, undef, undef, undef, undef, undef, undef, undef, undef, undef, undef, undef, undef, undef, undef, undef, undef, undef, undef, undef, undef, undef, undef, undef, undef, undef, undef, undef, undef, undef, undef, undef, undef, undef, undef, undef, undef, undef, undef, undef, undef, undef, undef, undef, undef, undef, undef, undef, undef, undef, undef, undef, undef, undef, undef, undef, undef, undef, undef, undef, undef, undef, undef, undef, undef, undef, undef, undef, undef, undef, undef, undef, undef, undef, undef, undef, undef, undef] rfl ?_
  have GG := Gro.refl w
  obtain ⟨n, hn⟩ : ∃ n, uN size % 40 = n := ⟨_, rfl⟩
  refine wp_seq ?_
  refine wp_region_lit ?_
  refine s_val 4 rfl rfl (.bool false) (rfl) ?_
  refine nr ?_; intro U h; simp only [z0, z1] at h; subst h
  refine wpList_nil ?_
  refine then_n ?_
  refine wp_seq ?_
  refine wp_region_lit ?_
  refine s_val 20 rfl rfl (.int .i64 size) (rfl) ?_
  refine nr ?_; intro U h; simp only [z0, z1] at h; subst h
  refine s_val 21 rfl rfl (.int .u64 ((uN size : Nat) : Int)) (conv345 _ rfl size rfl _) ?_
  refine nr ?_; intro U h; simp only [z0, z1] at h; subst h
  refine s_val 22 rfl rfl (.int .u64 ((n : Nat) : Int)) ((run_remN 45 45 _ _ rfl (uN size) 40 rfl rfl (by decide) _).trans (by rw [hn])) ?_
  refine nr ?_; intro U h; simp only [z0, z1] at h; subst h
  refine s_val 23 rfl rfl (.int .i64 ((n : Nat) : Int)) (conv453 _ rfl n (by omega) rfl _) ?_
  refine nr ?_; intro U h; simp only [z0, z1] at h; subst h
  refine s_val 24 rfl rfl (.int .i64 ((n * 64 : Nat) : Int)) (run_mul64 _ _ _ rfl 64 ((n : Nat) : Int) _ rfl rfl (by omega) (by omega) (by omega) _) ?_
  refine nr ?_; intro U h; simp only [z0, z1] at h; subst h
  refine s_make bT 25 rfl rfl _ _ rfl (n * 64) rfl rfl (by omega) (by simp only [maxLen]; omega) ?_
  intro w1 gz G egz kgz
  clear egz
  replace GG := GG.trans G
  clear G
  refine nr ?_; intro U h; simp only [z0, z1] at h; subst h
  have HX := pair_any _ (some ⟨gz, 0, none⟩) (n * 64) (zs (n * 64)) (by have := nc_all kgz (zs_byte (n * 64)); rwa [zs_len] at this) n (zs_len _) (by omega)
  rw [zs_len] at HX
  have hBw := GG.size
  refine s_callx 26 rfl rfl _ 10 Try.call10 rfl rfl _ rfl [.slice (some ⟨gz, 0, none⟩) (n * 64) (n * 64)] rfl (HX) (fun _ _ ⟨_, _, _, _, _, he, _⟩ => ⟨_, he⟩) ?_
  rintro v w2 ⟨p, sg, rp, ro, rc, he, G, bp, bsg, brp, HD, HR⟩
  cases he
  clear HX kgz
  replace bp := Nat.le_trans hBw bp
  replace bsg := Nat.le_trans hBw bsg
  replace brp := Nat.le_trans hBw brp
  generalize w1.heap.size = B at HR hBw
  replace GG := GG.trans G
  clear G
  refine nr ?_; intro U h; simp only [z0, z1] at h; subst h
  refine s_val 19 rfl rfl (.tuple #[.pointer (some ⟨p, 0, none⟩), .pointer (some ⟨rp, 0, none⟩)]) (rfl) ?_
  refine nr ?_; intro U h; simp only [z0, z1] at h; subst h
  refine s_val 27 rfl rfl (.pointer (some ⟨p, 0, none⟩)) (rfl) ?_
  refine nr ?_; intro U h; simp only [z0, z1] at h; subst h
  refine s_val 28 rfl rfl (.pointer (some ⟨rp, 0, none⟩)) (rfl) ?_
  refine nr ?_; intro U h; simp only [z0, z1] at h; subst h
  refine s_val 5 rfl rfl (.pointer (some ⟨p, 0, none⟩)) (rfl) ?_
  refine nr ?_; intro U h; simp only [z0, z1] at h; subst h
  refine s_val 6 rfl rfl (.pointer (some ⟨rp, 0, none⟩)) (rfl) ?_
  refine nr ?_; intro U h; simp only [z0, z1] at h; subst h
  refine wpList_nil ?_
  refine then_n ?_
  refine wp_seq ?_
  refine wp_seq ?_
  refine wp_region_opq ?_
  intro OPS hY
  have y2 := hY 2 31 rfl
  clear hY
  refine s_val 29 rfl rfl (.pointer (some ⟨p, 0, none⟩)) (rfl) ?_
  refine nr ?_; intro U h; simp only [z0, z1] at h; subst h
  refine s_val 30 rfl rfl (.bool false) (run_eqnp 24 _ _ _ rfl _ rfl rfl Try.underlying24 _) ?_
  refine nr ?_; intro U h; simp only [z0, z1] at h; subst h
  refine s_val 31 rfl rfl (.bool false) (rfl) ?_
  refine nr ?_; intro U h; simp only [z0, z1] at h; subst h
  refine s_gcallvY 32 rfl rfl y2 rfl _ 11 Try.call11 rfl rfl _ rfl [] rfl (fixed_true _) ?_
  intro w3 G
  replace HD := HD.gro G
  replace HR := HR.gro G
  replace GG := GG.trans G
  clear G
  refine nr ?_; intro U h; simp only [z0, z1] at h; subst h
  refine s_gvalY 33 rfl rfl y2 rfl (.bool false) (run_nt _ _ rfl true rfl) ?_
  refine nr ?_; intro U h; simp only [z0, z1] at h; subst h
  refine s_val 34 rfl rfl (.bool false) (rfl) ?_
  refine nr ?_; intro U h; simp only [z0, z1] at h; subst h
  refine wpList_nil ?_
  refine then_n ?_
  refine wp_cond_false rfl ?_
  refine wp_skip ?_
  refine then_n ?_
  refine wp_seq ?_
  refine wp_region_lit ?_
  refine s_val 36 rfl rfl (.pointer (some ⟨p, 0, none⟩)) (rfl) ?_
  refine nr ?_; intro U h; simp only [z0, z1] at h; subst h
  refine s_callv 37 rfl rfl _ 12 Try.call12 rfl rfl _ rfl [.pointer (some ⟨p, 0, none⟩)] rfl (open_small _ p sg n _ _ _ HD (by omega)) ?_
  intro w4 G
  replace HD := HD.gro G
  replace HR := HR.gro G
  replace GG := GG.trans G
  clear G
  refine nr ?_; intro U h; simp only [z0, z1] at h; subst h
  refine s_val 35 rfl rfl (.tuple #[.pointer none, .slice none 0 0, .int .i64 1]) (rfl) ?_
  refine nr ?_; intro U h; simp only [z0, z1] at h; subst h
  refine s_val 38 rfl rfl (.pointer none) (rfl) ?_
  refine nr ?_; intro U h; simp only [z0, z1] at h; subst h
  refine s_val 39 rfl rfl (.slice none 0 0) (rfl) ?_
  refine nr ?_; intro U h; simp only [z0, z1] at h; subst h
  refine s_val 40 rfl rfl (.int .i64 1) (rfl) ?_
  refine nr ?_; intro U h; simp only [z0, z1] at h; subst h
  refine s_val 7 rfl rfl (.pointer none) (rfl) ?_
  refine nr ?_; intro U h; simp only [z0, z1] at h; subst h
  refine s_val 8 rfl rfl (.slice none 0 0) (rfl) ?_
  refine nr ?_; intro U h; simp only [z0, z1] at h; subst h
  refine s_val 9 rfl rfl (.int .i64 1) (rfl) ?_
  refine nr ?_; intro U h; simp only [z0, z1] at h; subst h
  refine wpList_nil ?_
  refine then_n ?_
  refine wp_seq ?_
  refine wp_region_lit ?_
  refine s_val 42 rfl rfl (.pointer (some ⟨rp, 0, none⟩)) (rfl) ?_
  refine nr ?_; intro U h; simp only [z0, z1] at h; subst h
  refine s_callv 43 rfl rfl _ 13 Try.call13 rfl rfl _ rfl [.pointer (some ⟨rp, 0, none⟩)] rfl (ropen_small _ rp _ ro rc n _ _ _ HR (by omega)) ?_
  intro w5 G
  replace HD := HD.gro G
  replace HR := HR.gro G
  replace GG := GG.trans G
  clear G
  refine nr ?_; intro U h; simp only [z0, z1] at h; subst h
  refine s_val 41 rfl rfl (.tuple #[.pointer none, .slice none 0 0, .int .i64 1]) (rfl) ?_
  refine nr ?_; intro U h; simp only [z0, z1] at h; subst h
  refine s_val 44 rfl rfl (.pointer none) (rfl) ?_
  refine nr ?_; intro U h; simp only [z0, z1] at h; subst h
  refine s_val 45 rfl rfl (.slice none 0 0) (rfl) ?_
  refine nr ?_; intro U h; simp only [z0, z1] at h; subst h
  refine s_val 46 rfl rfl (.int .i64 1) (rfl) ?_
  refine nr ?_; intro U h; simp only [z0, z1] at h; subst h
  refine s_val 10 rfl rfl (.pointer none) (rfl) ?_
  refine nr ?_; intro U h; simp only [z0, z1] at h; subst h
  refine s_val 11 rfl rfl (.slice none 0 0) (rfl) ?_
  refine nr ?_; intro U h; simp only [z0, z1] at h; subst h
  refine s_val 12 rfl rfl (.int .i64 1) (rfl) ?_
  refine nr ?_; intro U h; simp only [z0, z1] at h; subst h
  refine wpList_nil ?_
  refine then_n ?_
  refine wp_seq ?_
  refine wp_seq ?_
  refine wp_region_lit ?_
  refine s_val 47 rfl rfl (.int .i64 1) (rfl) ?_
  refine nr ?_; intro U h; simp only [z0, z1] at h; subst h
  refine s_val 48 rfl rfl (.int .i64 1) (rfl) ?_
  refine nr ?_; intro U h; simp only [z0, z1] at h; subst h
  refine s_val 49 rfl rfl (.bool false) (run_neq_k 31 .i64 _ _ _ rfl Try.underlying31 1 1 rfl rfl false rfl _) ?_
  refine nr ?_; intro U h; simp only [z0, z1] at h; subst h
  refine wpList_nil ?_
  refine then_n ?_
  refine wp_cond_false rfl ?_
  refine wp_skip ?_
  refine then_n ?_
  refine wp_seq ?_
  refine wp_seq ?_
  refine wp_region_lit ?_
  refine s_val 50 rfl rfl (.slice ao os.length cap) (rfl) ?_
  refine nr ?_; intro U h; simp only [z0, z1] at h; subst h
  refine s_val 51 rfl rfl (.int .i64 ((os.length : Nat) : Int)) (run_len Try.underlying44 _ rfl _ _ _ rfl _) ?_
  refine nr ?_; intro U h; simp only [z0, z1] at h; subst h
  refine s_val 52 rfl rfl (.int .i64 0) (rfl) ?_
  refine nr ?_; intro U h; simp only [z0, z1] at h; subst h
  refine wpList_nil ?_
  refine then_n ?_
  refine wp_block ?_
  refine wp_loopN (fun mz az wv => ∃ (j : Nat) (us1 : Nat → Value), mz = os.length - j ∧ az = ⟨[.int .i64 size, .slice ao os.length cap, undef, undef, us1 0, .pointer (some ⟨p, 0, none⟩), .pointer (some ⟨rp, 0, none⟩), .pointer none, .slice none 0 0, us1 1, .pointer none, .slice none 0 0, us1 2, us1 3, us1 4, us1 5, us1 6, us1 7, us1 8, .tuple #[.pointer (some ⟨p, 0, none⟩), .pointer (some ⟨rp, 0, none⟩)], .int .i64 size, .int .u64 ((uN size : Nat) : Int), .int .u64 ((n : Nat) : Int), .int .i64 ((n : Nat) : Int), .int .i64 ((n * 64 : Nat) : Int), .slice (some ⟨gz, 0, none⟩) (n * 64) (n * 64), .tuple #[.pointer (some ⟨p, 0, none⟩), .pointer (some ⟨rp, 0, none⟩)], .pointer (some ⟨p, 0, none⟩), .pointer (some ⟨rp, 0, none⟩), .pointer (some ⟨p, 0, none⟩), .bool false, .bool false, .bool true, .bool false, .bool false, .tuple #[.pointer none, .slice none 0 0, .int .i64 1], .pointer (some ⟨p, 0, none⟩), .tuple #[.pointer none, .slice none 0 0, .int .i64 1], .pointer none, .slice none 0 0, .int .i64 1, .tuple #[.pointer none, .slice none 0 0, .int .i64 1], .pointer (some ⟨rp, 0, none⟩), .tuple #[.pointer none, .slice none 0 0, .int .i64 1], .pointer none, .slice none 0 0, .int .i64 1, .int .i64 1, .int .i64 1, .bool false, .slice ao os.length cap, .int .i64 ((os.length : Nat) : Int), .int .i64 ((j : Nat) : Int), us1 9, us1 10, us1 11, us1 12, us1 13, us1 14, us1 15, us1 16, us1 17, us1 18, us1 19, us1 20, us1 21, us1 22, us1 23, us1 24, us1 25, us1 26, us1 27, us1 28, us1 29, us1 30, us1 31, us1 32, us1 33, us1 34, us1 35, us1 36, us1 37, us1 38, us1 39, us1 40, us1 41, us1 42, us1 43, us1 44, us1 45, us1 46, us1 47, us1 48, us1 49, us1 50, us1 51, us1 52, us1 53, us1 54, us1 55, us1 56, us1 57, us1 58, us1 59, us1 60, us1 61, us1 62, us1 63, us1 64, us1 65, us1 66, us1 67, us1 68, us1 69, us1 70, us1 71, us1 72, us1 73, us1 74, us1 75, us1 76, us1 77, us1 78, us1 79, us1 80, us1 81, us1 82, us1 83, us1 84, us1 85, us1 86, us1 87, us1 88, us1 89, us1 90, us1 91, us1 92, us1 93, us1 94, us1 95, us1 96, us1 97, us1 98, us1 99, us1 100, us1 101, us1 102, us1 103, us1 104, us1 105, us1 106, us1 107, us1 108, us1 109, us1 110, us1 111, us1 112, us1 113, us1 114, us1 115, us1 116, us1 117, undef, undef, undef, undef, undef].toArray, []⟩ ∧ j ≤ os.length ∧ Gro w wv) ?_ _ ⟨0, (fun kz => ([.bool false, .int .i64 1, .int .i64 1, undef, undef, undef, undef, undef, undef, undef, undef, undef, undef, undef, undef, undef, undef, undef, undef, undef, undef, undef, undef, undef, undef, undef, undef, undef, undef, undef, undef, undef, undef, undef, undef, undef, undef, undef, undef, undef, undef, undef, undef, undef, undef, undef, undef, undef, undef, undef, undef, undef, undef, undef, undef, undef, undef, undef, undef, undef, undef, undef, undef, undef, undef, undef, undef, undef, undef, undef, undef, undef, undef, undef, undef, undef, undef, undef, undef, undef, undef, undef, undef, undef, undef, undef, undef, undef, undef, undef, undef, undef, undef, undef, undef, undef, undef, undef, undef, undef, undef, undef, undef, undef, undef, undef, undef, undef, undef, undef, undef, undef, undef, undef, undef, undef, undef, undef] : List Value).getD kz undef), rfl, rfl, Nat.zero_le _, GG⟩
  clear GG
  rintro mz az wv ⟨j, us1, rfl, rfl, hj, GG⟩
  refine wp_seq ?_
  refine wp_region_lit ?_
  obtain ⟨p1, hp1⟩ : ∃ p, decide (((j : Nat) : Int) < ((os.length : Nat) : Int)) = p := ⟨_, rfl⟩
  refine s_val 53 rfl rfl (.bool p1) (run_lssT 3 _ _ _ rfl ((j : Nat) : Int) ((os.length : Nat) : Int) rfl rfl p1 hp1 _) ?_
  refine nr ?_; intro U h; simp only [z0, z1] at h; subst h
  cases p1
  · refine wpList_nil ?_
    refine then_n ?_
    refine wp_seq ?_
    refine wp_cond_false rfl ?_
    refine wp_exit ?_
    refine then_x ?_
    refine then_x ?_
    refine blk_x ?_
    refine then_n ?_
    refine wp_seq ?_
    refine wp_region_lit ?_
    refine s_val 162 rfl rfl (.pointer none) (rfl) ?_
    refine nr ?_; intro U h; simp only [z0, z1] at h; subst h
    refine s_val 163 rfl rfl (.bool true) (run_eqnn 29 _ _ _ rfl rfl rfl Try.underlying29 _) ?_
    refine nr ?_; intro U h; simp only [z0, z1] at h; subst h
    refine s_val 164 rfl rfl (.pointer none) (rfl) ?_
    refine nr ?_; intro U h; simp only [z0, z1] at h; subst h
    refine s_val 165 rfl rfl (.bool true) (run_eqnn 34 _ _ _ rfl rfl rfl Try.underlying34 _) ?_
    refine nr ?_; intro U h; simp only [z0, z1] at h; subst h
    refine s_val 166 rfl rfl (.bool true) (run_eqB 4 _ _ _ rfl true true rfl rfl Try.underlying4 true rfl _) ?_
    refine nr ?_; intro U h; simp only [z0, z1] at h; subst h
    refine s_val 4 rfl rfl (.bool true) (rfl) ?_
    refine nr ?_; intro U h; simp only [z0, z1] at h; subst h
    refine wpList_nil ?_
    refine then_n ?_
    refine wp_ret ?_
    refine bodyPost_ret (results_tmp Try.results4 _ _ _) rfl ?_
    exact ⟨rfl, GG⟩
  have hjn : j < os.length := by have := of_decide_eq_true hp1; omega
  obtain ⟨q, hq⟩ : ∃ q, os[j]? = some q := ⟨_, List.getElem?_eq_getElem hjn⟩
  have hqm := List.mem_of_getElem? hq
  have hql := hlens q hqm
  obtain ⟨ad, hao⟩ := HO.xc.some (by omega)
  refine wpList_nil ?_
  refine then_n ?_
  refine wp_seq ?_
  refine wp_cond_true rfl ?_
  refine wp_skip ?_
  refine then_n ?_
  refine wp_seq ?_
  refine wp_block ?_
  refine wp_seq ?_
  refine wp_region_lit ?_
  refine s_val 54 rfl rfl (.int .i64 ((j : Nat) : Int)) (rfl) ?_
  refine nr ?_; intro U h; simp only [z0, z1] at h; subst h
  refine s_val 55 rfl rfl (.pointer (some (ad.add (j * 3)))) (run_idxX wT _ _ rfl ad os.length cap j (by exact congrArg (fun a => Value.slice a os.length cap) hao) rfl hjn _) ?_
  refine nr ?_; intro U h; simp only [z0, z1] at h; subst h
  refine s_val 56 rfl rfl (.agg (c47 q.b q.i ⟨q.ao, q.l.length, q.cap⟩)) (ld_opW _ rfl ad j rfl (by rw [← hao]; exact HO.xc.gro GG) q hq) ?_
  refine nr ?_; intro U h; simp only [z0, z1] at h; subst h
  refine s_alloc 14 rfl rfl 47 rfl _ zv47 _ rfl ?_
  intro w6 g1 G eg1 kg1
  have bg1 := size_base GG eg1
  replace GG := GG.trans G
  clear G eg1
  refine nr ?_; intro U h; simp only [z0, z1] at h; subst h
  refine s_val 13 rfl rfl (.int .i64 ((j : Nat) : Int)) (rfl) ?_
  refine nr ?_; intro U h; simp only [z0, z1] at h; subst h
  refine s_store rfl rfl 47 _ _ rfl g1 0 rfl (.agg (c47 q.b q.i ⟨q.ao, q.l.length, q.cap⟩)) rfl 47 _ kg1 (c47 q.b q.i ⟨q.ao, q.l.length, q.cap⟩) rfl (by kernel_rfl) (Nat.le_of_ble_eq_true rfl) (by kernel_rfl) (c47 q.b q.i ⟨q.ao, q.l.length, q.cap⟩) (by kernel_rfl) ?_
  intro w8 St
  replace GG := GG.store St bg1
  replace kg1 := St.new
  clear St
  refine wpList_nil ?_
  refine then_n ?_
  refine wp_seq ?_
  refine wp_seq ?_
  refine wp_region_opq ?_
  intro OPS hY
  have y2 := hY 2 59 rfl
  have y6 := hY 6 63 rfl
  clear hY
  refine s_val 57 rfl rfl (.pointer none) (rfl) ?_
  refine nr ?_; intro U h; simp only [z0, z1] at h; subst h
  refine s_val 58 rfl rfl (.bool true) (run_eqnn 29 _ _ _ rfl rfl rfl Try.underlying29 _) ?_
  refine nr ?_; intro U h; simp only [z0, z1] at h; subst h
  refine s_val 59 rfl rfl (.bool true) (rfl) ?_
  refine nr ?_; intro U h; simp only [z0, z1] at h; subst h
  refine s_skipY 60 rfl rfl y2 rfl ?_
  refine nr ?_; intro U h; simp only [z0, z1] at h; subst h
  refine s_skipY 61 rfl rfl y2 rfl ?_
  refine nr ?_; intro U h; simp only [z0, z1] at h; subst h
  refine s_val 62 rfl rfl (.bool true) (rfl) ?_
  refine nr ?_; intro U h; simp only [z0, z1] at h; subst h
  refine s_val 63 rfl rfl (.bool true) (rfl) ?_
  refine nr ?_; intro U h; simp only [z0, z1] at h; subst h
  refine s_skipY 64 rfl rfl y6 rfl ?_
  refine nr ?_; intro U h; simp only [z0, z1] at h; subst h
  refine s_skipY 65 rfl rfl y6 rfl ?_
  refine nr ?_; intro U h; simp only [z0, z1] at h; subst h
  refine s_val 66 rfl rfl (.bool true) (rfl) ?_
  refine nr ?_; intro U h; simp only [z0, z1] at h; subst h
  refine wpList_nil ?_
  refine then_n ?_
  refine wp_cond_true rfl ?_
  refine wp_exit ?_
  refine then_x ?_
  refine blk_xn (by decide) ?_
  refine then_x ?_
  refine then_x ?_
  refine blk_x ?_
  refine then_n ?_
  refine wp_seq ?_
  refine wp_region_lit ?_
  refine s_val 162 rfl rfl (.pointer none) (rfl) ?_
  refine nr ?_; intro U h; simp only [z0, z1] at h; subst h
  refine s_val 163 rfl rfl (.bool true) (run_eqnn 29 _ _ _ rfl rfl rfl Try.underlying29 _) ?_
  refine nr ?_; intro U h; simp only [z0, z1] at h; subst h
  refine s_val 164 rfl rfl (.pointer none) (rfl) ?_
  refine nr ?_; intro U h; simp only [z0, z1] at h; subst h
  refine s_val 165 rfl rfl (.bool true) (run_eqnn 34 _ _ _ rfl rfl rfl Try.underlying34 _) ?_
  refine nr ?_; intro U h; simp only [z0, z1] at h; subst h
  refine s_val 166 rfl rfl (.bool true) (run_eqB 4 _ _ _ rfl true true rfl rfl Try.underlying4 true rfl _) ?_
  refine nr ?_; intro U h; simp only [z0, z1] at h; subst h
  refine s_val 4 rfl rfl (.bool true) (rfl) ?_
  refine nr ?_; intro U h; simp only [z0, z1] at h; subst h
  refine wpList_nil ?_
  refine then_n ?_
  refine wp_ret ?_
  refine bodyPost_ret (results_tmp Try.results4 _ _ _) rfl ?_
  exact ⟨rfl, GG⟩
theorem notS {w : World} {k : Nat} {c : Array Value} {t : TypeId} {mp rp B : Nat} {ro : Option Addr} {rc n : Nat} {L : List Nat} {pw dn : Int} {h : Hd} {dw : Bool} (hk : w.heap[k]? = some (.cells c t (0, 0))) (HR : QK w rp B ro rc n L pw dn) (HM : MK w mp rp h dw) (h1 : t ≠ 50) (h2 : t ≠ 42) (h3 : t ≠ 5) : k ∉ rp :: mp :: blk ro := by
  simp only [List.mem_cons, mem_blk, not_or]
  refine ⟨ne_type hk HR.box h1, ne_type hk HM.box h2, fun ⟨a, ha, hb⟩ => ?_⟩
  obtain ⟨cur, hc⟩ := HR.row.blk5 ha
  exact ne_type hc hk (Ne.symm h3) hb
theorem nb4 {w : World} {B : Nat} {ao : Option Addr} {cap : Nat} {l : List Nat} (h : OB w 5 .u8 B ao cap l) {ad : Addr} (ha : ao = some ad) {k : Nat} {c : Array Value} {t : TypeId} (hk : w.heap[k]? = some (.cells c t (0, 0))) (ht : 5 ≠ t) : ad.block ≠ k := by
  obtain ⟨cur, hc⟩ := h.blk5 ha
  exact ne_type hc hk ht
set_option maxRecDepth 100000 in
set_option maxHeartbeats 4000000 in
theorem slatePlays_big (w : World) (size : Int) (ao : Option Addr) (cap : Nat) (os : List OpW) (HO : OW w ao cap os) (hol : os.length ≤ 140737488355000) (hlens : ∀ o ∈ os, o.l.length ≤ 140737488355000) (hs : 3 ≤ uN size % 40) : Calls Try.prog 4 #[.int .i64 size, .slice ao os.length cap] w fun e w' => e = .returned (.bool true) ∧ Gro w w' := by
  refine s_enter Try.func4 rfl Try.ntmps4 [.int .i64 size, .slice ao os.length cap] [.int .i64 size, .slice ao os.length cap, undef, undef, undef, undef, undef, undef, undef, undef, undef, undef, undef, undef, undef, undef, undef, undef, undef, undef, undef, undef, undef, undef, undef, undef, undef, undef, undef, undef, undef, undef, undef, undef, undef, undef, undef, undef, undef, undef, undef, undef, undef, undef, undef, undef, undef, undef, undef, undef, undef, undef, undef, undef, undef, undef, undef, undef, undef, undef, undef, undef, undef, undef, undef, undef, undef, undef, undef, undef, undef, undef, undef, undef, undef, undef, undef, undef, undef, undef, undef, undef, undef, undef, undef, undef, undef, undef, undef, undef, undef, undef, undef, undef, undef, undef, undef, undef, undef, undef, undef, undef, undef, undef, undef, undef, undef, undef, undef, undef, undef, undef, undef, undef, undef, undef, undef, undef, undef, undef, undef, undef, undef, undef, undef, undef, undef, undef, undef, undef, undef, undef, undef, undef, undef, undef, undef, undef, undef, undef, undef, undef, undef, undef, undef, undef, undef, undef, undef, undef, undef, undef, undef, undef, undef, undef, undef, undef, undef, undef, undef, undef, undef, undef, undef, undef, undef] rfl ?_
  have GG := Gro.refl w
  obtain ⟨n, hn⟩ : ∃ n, uN size % 40 = n := ⟨_, rfl⟩
  refine wp_seq ?_
  refine wp_region_lit ?_
  refine s_val 4 rfl rfl (.bool false) (rfl) ?_
  refine nr ?_; intro U h; simp only [z0, z1] at h; subst h
  refine wpList_nil ?_
  refine then_n ?_
  refine wp_seq ?_
  refine wp_region_lit ?_
  refine s_val 20 rfl rfl (.int .i64 size) (rfl) ?_
  refine nr ?_; intro U h; simp only [z0, z1] at h; subst h
  refine s_val 21 rfl rfl (.int .u64 ((uN size : Nat) : Int)) (conv345 _ rfl size rfl _) ?_
  refine nr ?_; intro U h; simp only [z0, z1] at h; subst h
  refine s_val 22 rfl rfl (.int .u64 ((n : Nat) : Int)) ((run_remN 45 45 _ _ rfl (uN size) 40 rfl rfl (by decide) _).trans (by rw [hn])) ?_
  refine nr ?_; intro U h; simp only [z0, z1] at h; subst h
  refine s_val 23 rfl rfl (.int .i64 ((n : Nat) : Int)) (conv453 _ rfl n (by omega) rfl _) ?_
  refine nr ?_; intro U h; simp only [z0, z1] at h; subst h
  refine s_val 24 rfl rfl (.int .i64 ((n * 64 : Nat) : Int)) (run_mul64 _ _ _ rfl 64 ((n : Nat) : Int) _ rfl rfl (by omega) (by omega) (by omega) _) ?_
  refine nr ?_; intro U h; simp only [z0, z1] at h; subst h
  refine s_make bT 25 rfl rfl _ _ rfl (n * 64) rfl rfl (by omega) (by simp only [maxLen]; omega) ?_
  intro w1 gz G egz kgz
  clear egz
  replace GG := GG.trans G
  clear G
  refine nr ?_; intro U h; simp only [z0, z1] at h; subst h
  have HX := pair_any _ (some ⟨gz, 0, none⟩) (n * 64) (zs (n * 64)) (by have := nc_all kgz (zs_byte (n * 64)); rwa [zs_len] at this) n (zs_len _) (by omega)
  rw [zs_len] at HX
  have hBw := GG.size
  refine s_callx 26 rfl rfl _ 10 Try.call10 rfl rfl _ rfl [.slice (some ⟨gz, 0, none⟩) (n * 64) (n * 64)] rfl (HX) (fun _ _ ⟨_, _, _, _, _, he, _⟩ => ⟨_, he⟩) ?_
  rintro v w2 ⟨p, sg, rp, ro, rc, he, G, bp, bsg, brp, HD, HR⟩
  cases he
  clear HX kgz
  replace bp := Nat.le_trans hBw bp
  replace bsg := Nat.le_trans hBw bsg
  replace brp := Nat.le_trans hBw brp
  generalize w1.heap.size = B at HR hBw
  replace GG := GG.trans G
  clear G
  refine nr ?_; intro U h; simp only [z0, z1] at h; subst h
  refine s_val 19 rfl rfl (.tuple #[.pointer (some ⟨p, 0, none⟩), .pointer (some ⟨rp, 0, none⟩)]) (rfl) ?_
  refine nr ?_; intro U h; simp only [z0, z1] at h; subst h
  refine s_val 27 rfl rfl (.pointer (some ⟨p, 0, none⟩)) (rfl) ?_
  refine nr ?_; intro U h; simp only [z0, z1] at h; subst h
  refine s_val 28 rfl rfl (.pointer (some ⟨rp, 0, none⟩)) (rfl) ?_
  refine nr ?_; intro U h; simp only [z0, z1] at h; subst h
  refine s_val 5 rfl rfl (.pointer (some ⟨p, 0, none⟩)) (rfl) ?_
  refine nr ?_; intro U h; simp only [z0, z1] at h; subst h
  refine s_val 6 rfl rfl (.pointer (some ⟨rp, 0, none⟩)) (rfl) ?_
  refine nr ?_; intro U h; simp only [z0, z1] at h; subst h
  refine wpList_nil ?_
  refine then_n ?_
  refine wp_seq ?_
  refine wp_seq ?_
  refine wp_region_opq ?_
  intro OPS hY
  have y2 := hY 2 31 rfl
  clear hY
  refine s_val 29 rfl rfl (.pointer (some ⟨p, 0, none⟩)) (rfl) ?_
  refine nr ?_; intro U h; simp only [z0, z1] at h; subst h
  refine s_val 30 rfl rfl (.bool false) (run_eqnp 24 _ _ _ rfl _ rfl rfl Try.underlying24 _) ?_
  refine nr ?_; intro U h; simp only [z0, z1] at h; subst h
  refine s_val 31 rfl rfl (.bool false) (rfl) ?_
  refine nr ?_; intro U h; simp only [z0, z1] at h; subst h
  refine s_gcallvY 32 rfl rfl y2 rfl _ 11 Try.call11 rfl rfl _ rfl [] rfl (fixed_true _) ?_
  intro w3 G
  replace HD := HD.gro G
  replace HR := HR.gro G
  replace GG := GG.trans G
  clear G
  refine nr ?_; intro U h; simp only [z0, z1] at h; subst h
  refine s_gvalY 33 rfl rfl y2 rfl (.bool false) (run_nt _ _ rfl true rfl) ?_
  refine nr ?_; intro U h; simp only [z0, z1] at h; subst h
  refine s_val 34 rfl rfl (.bool false) (rfl) ?_
  refine nr ?_; intro U h; simp only [z0, z1] at h; subst h
  refine wpList_nil ?_
  refine then_n ?_
  refine wp_cond_false rfl ?_
  refine wp_skip ?_
  refine then_n ?_
  refine wp_seq ?_
  refine wp_region_lit ?_
  refine s_val 36 rfl rfl (.pointer (some ⟨p, 0, none⟩)) (rfl) ?_
  refine nr ?_; intro U h; simp only [z0, z1] at h; subst h
  refine s_callx 37 rfl rfl _ 12 Try.call12 rfl rfl _ rfl [.pointer (some ⟨p, 0, none⟩)] rfl (open_ok _ p sg n _ _ _ HD (by omega) [] ((good_new n (by omega)).opens (by decide))) (fun _ _ ⟨_, _, _, _, he, _⟩ => ⟨_, he⟩) ?_
  rintro v w4 ⟨lp0, aoz, capz, qz, he, hq, G, blp, HK, HL⟩
  cases he
  rw [(good_new n (by omega)).counts] at HK
  replace blp := Nat.le_trans GG.size blp
  clear HL hq
  replace HD := HD.gro G
  replace HR := HR.gro G
  replace GG := GG.trans G
  clear G
  refine nr ?_; intro U h; simp only [z0, z1] at h; subst h
  refine s_val 35 rfl rfl (.tuple #[.pointer (some ⟨lp0, 0, none⟩), .slice aoz qz.length capz, .int .i64 0]) (rfl) ?_
  refine nr ?_; intro U h; simp only [z0, z1] at h; subst h
  refine s_val 38 rfl rfl (.pointer (some ⟨lp0, 0, none⟩)) (rfl) ?_
  refine nr ?_; intro U h; simp only [z0, z1] at h; subst h
  refine s_val 39 rfl rfl (.slice aoz qz.length capz) (rfl) ?_
  refine nr ?_; intro U h; simp only [z0, z1] at h; subst h
  refine s_val 40 rfl rfl (.int .i64 0) (rfl) ?_
  refine nr ?_; intro U h; simp only [z0, z1] at h; subst h
  refine s_val 7 rfl rfl (.pointer (some ⟨lp0, 0, none⟩)) (rfl) ?_
  refine nr ?_; intro U h; simp only [z0, z1] at h; subst h
  refine s_val 8 rfl rfl (.slice aoz qz.length capz) (rfl) ?_
  refine nr ?_; intro U h; simp only [z0, z1] at h; subst h
  refine s_val 9 rfl rfl (.int .i64 0) (rfl) ?_
  refine nr ?_; intro U h; simp only [z0, z1] at h; subst h
  refine wpList_nil ?_
  refine then_n ?_
  refine wp_seq ?_
  refine wp_region_lit ?_
  refine s_val 42 rfl rfl (.pointer (some ⟨rp, 0, none⟩)) (rfl) ?_
  refine nr ?_; intro U h; simp only [z0, z1] at h; subst h
  refine s_callx 43 rfl rfl _ 13 Try.call13 rfl rfl _ rfl [.pointer (some ⟨rp, 0, none⟩)] rfl (ropen_ok _ rp _ ro rc n _ _ _ HR (by omega) [] ((good_new n (by omega)).opens (by decide))) (fun _ _ ⟨_, _, _, _, he, _⟩ => ⟨_, he⟩) ?_
  rintro v w5 ⟨mp0, aoy, capy, qy, he, hq, G, bmp, HM, HQ⟩
  cases he
  rw [(good_new n (by omega)).counts] at HM
  replace bmp := Nat.le_trans GG.size bmp
  clear HQ hq
  replace HD := HD.gro G
  replace HR := HR.gro G
  replace HK := HK.gro G
  replace GG := GG.trans G
  clear G
  refine nr ?_; intro U h; simp only [z0, z1] at h; subst h
  refine s_val 41 rfl rfl (.tuple #[.pointer (some ⟨mp0, 0, none⟩), .slice aoy qy.length capy, .int .i64 0]) (rfl) ?_
  refine nr ?_; intro U h; simp only [z0, z1] at h; subst h
  refine s_val 44 rfl rfl (.pointer (some ⟨mp0, 0, none⟩)) (rfl) ?_
  refine nr ?_; intro U h; simp only [z0, z1] at h; subst h
  refine s_val 45 rfl rfl (.slice aoy qy.length capy) (rfl) ?_
  refine nr ?_; intro U h; simp only [z0, z1] at h; subst h
  refine s_val 46 rfl rfl (.int .i64 0) (rfl) ?_
  refine nr ?_; intro U h; simp only [z0, z1] at h; subst h
  refine s_val 10 rfl rfl (.pointer (some ⟨mp0, 0, none⟩)) (rfl) ?_
  refine nr ?_; intro U h; simp only [z0, z1] at h; subst h
  refine s_val 11 rfl rfl (.slice aoy qy.length capy) (rfl) ?_
  refine nr ?_; intro U h; simp only [z0, z1] at h; subst h
  refine s_val 12 rfl rfl (.int .i64 0) (rfl) ?_
  refine nr ?_; intro U h; simp only [z0, z1] at h; subst h
  refine wpList_nil ?_
  refine then_n ?_
  refine wp_seq ?_
  refine wp_seq ?_
  refine wp_region_lit ?_
  refine s_val 47 rfl rfl (.int .i64 0) (rfl) ?_
  refine nr ?_; intro U h; simp only [z0, z1] at h; subst h
  refine s_val 48 rfl rfl (.int .i64 0) (rfl) ?_
  refine nr ?_; intro U h; simp only [z0, z1] at h; subst h
  refine s_val 49 rfl rfl (.bool false) (run_neq_k 31 .i64 _ _ _ rfl Try.underlying31 0 0 rfl rfl false rfl _) ?_
  refine nr ?_; intro U h; simp only [z0, z1] at h; subst h
  refine wpList_nil ?_
  refine then_n ?_
  refine wp_cond_false rfl ?_
  refine wp_skip ?_
  refine then_n ?_
  refine wp_seq ?_
  refine wp_seq ?_
  refine wp_region_lit ?_
  refine s_val 50 rfl rfl (.slice ao os.length cap) (rfl) ?_
  refine nr ?_; intro U h; simp only [z0, z1] at h; subst h
  refine s_val 51 rfl rfl (.int .i64 ((os.length : Nat) : Int)) (run_len Try.underlying44 _ rfl _ _ _ rfl _) ?_
  refine nr ?_; intro U h; simp only [z0, z1] at h; subst h
  refine s_val 52 rfl rfl (.int .i64 0) (rfl) ?_
  refine nr ?_; intro U h; simp only [z0, z1] at h; subst h
  refine wpList_nil ?_
  refine then_n ?_
  refine wp_block ?_
  refine wp_loopN (fun mz az wv => ∃ (j : Nat) (dn : Int) (dr : Int) (pw : Int) (L : List Nat) (h : Hd) (dw : Bool) (rs : List (List Nat)) (lp : Nat) (mp : Nat) (us1 : Nat → Value), mz = os.length - j ∧ az = ⟨[.int .i64 size, .slice ao os.length cap, undef, undef, us1 0, .pointer (some ⟨p, 0, none⟩), .pointer (some ⟨rp, 0, none⟩), .pointer (some ⟨lp, 0, none⟩), .slice aoz qz.length capz, us1 1, .pointer (some ⟨mp, 0, none⟩), .slice aoy qy.length capy, us1 2, us1 3, us1 4, us1 5, us1 6, us1 7, us1 8, .tuple #[.pointer (some ⟨p, 0, none⟩), .pointer (some ⟨rp, 0, none⟩)], .int .i64 size, .int .u64 ((uN size : Nat) : Int), .int .u64 ((n : Nat) : Int), .int .i64 ((n : Nat) : Int), .int .i64 ((n * 64 : Nat) : Int), .slice (some ⟨gz, 0, none⟩) (n * 64) (n * 64), .tuple #[.pointer (some ⟨p, 0, none⟩), .pointer (some ⟨rp, 0, none⟩)], .pointer (some ⟨p, 0, none⟩), .pointer (some ⟨rp, 0, none⟩), .pointer (some ⟨p, 0, none⟩), .bool false, .bool false, .bool true, .bool false, .bool false, .tuple #[.pointer (some ⟨lp0, 0, none⟩), .slice aoz qz.length capz, .int .i64 0], .pointer (some ⟨p, 0, none⟩), .tuple #[.pointer (some ⟨lp0, 0, none⟩), .slice aoz qz.length capz, .int .i64 0], .pointer (some ⟨lp0, 0, none⟩), .slice aoz qz.length capz, .int .i64 0, .tuple #[.pointer (some ⟨mp0, 0, none⟩), .slice aoy qy.length capy, .int .i64 0], .pointer (some ⟨rp, 0, none⟩), .tuple #[.pointer (some ⟨mp0, 0, none⟩), .slice aoy qy.length capy, .int .i64 0], .pointer (some ⟨mp0, 0, none⟩), .slice aoy qy.length capy, .int .i64 0, .int .i64 0, .int .i64 0, .bool false, .slice ao os.length cap, .int .i64 ((os.length : Nat) : Int), .int .i64 ((j : Nat) : Int), us1 9, us1 10, us1 11, us1 12, us1 13, us1 14, us1 15, us1 16, us1 17, us1 18, us1 19, us1 20, us1 21, us1 22, us1 23, us1 24, us1 25, us1 26, us1 27, us1 28, us1 29, us1 30, us1 31, us1 32, us1 33, us1 34, us1 35, us1 36, us1 37, us1 38, us1 39, us1 40, us1 41, us1 42, us1 43, us1 44, us1 45, us1 46, us1 47, us1 48, us1 49, us1 50, us1 51, us1 52, us1 53, us1 54, us1 55, us1 56, us1 57, us1 58, us1 59, us1 60, us1 61, us1 62, us1 63, us1 64, us1 65, us1 66, us1 67, us1 68, us1 69, us1 70, us1 71, us1 72, us1 73, us1 74, us1 75, us1 76, us1 77, us1 78, us1 79, us1 80, us1 81, us1 82, us1 83, us1 84, us1 85, us1 86, us1 87, us1 88, us1 89, us1 90, us1 91, us1 92, us1 93, us1 94, us1 95, us1 96, us1 97, us1 98, us1 99, us1 100, us1 101, us1 102, us1 103, us1 104, us1 105, us1 106, us1 107, us1 108, us1 109, us1 110, us1 111, us1 112, us1 113, us1 114, us1 115, us1 116, us1 117, undef, undef, undef, undef, undef].toArray, []⟩ ∧ j ≤ os.length ∧ j ≤ 101 ∧ (0 ≤ dn ∧ dn ≤ 20 * (j : Int)) ∧ (0 ≤ dr ∧ dr ≤ 20 * (j : Int)) ∧ okP pw ∧ h.g ≤ j ∧ Good L n h rs ∧ w.heap.size ≤ lp ∧ w.heap.size ≤ mp ∧ Gro w wv ∧ DK wv p sg n L pw dn ∧ QK wv rp B ro rc n L pw dr ∧ LK wv lp p h dw ∧ MK wv mp rp h dw) ?_ _ ⟨0, 0, 0, _, _, ⟨0, 0, 0⟩, _, [], lp0, mp0, (fun kz => ([.bool false, .int .i64 0, .int .i64 0, undef, undef, undef, undef, undef, undef, undef, undef, undef, undef, undef, undef, undef, undef, undef, undef, undef, undef, undef, undef, undef, undef, undef, undef, undef, undef, undef, undef, undef, undef, undef, undef, undef, undef, undef, undef, undef, undef, undef, undef, undef, undef, undef, undef, undef, undef, undef, undef, undef, undef, undef, undef, undef, undef, undef, undef, undef, undef, undef, undef, undef, undef, undef, undef, undef, undef, undef, undef, undef, undef, undef, undef, undef, undef, undef, undef, undef, undef, undef, undef, undef, undef, undef, undef, undef, undef, undef, undef, undef, undef, undef, undef, undef, undef, undef, undef, undef, undef, undef, undef, undef, undef, undef, undef, undef, undef, undef, undef, undef, undef, undef, undef, undef, undef, undef] : List Value).getD kz undef), rfl, rfl, Nat.zero_le _, Nat.zero_le _, ⟨Int.le_refl _, by omega⟩, ⟨Int.le_refl _, by omega⟩, (by unfold okP; omega), Nat.le_refl _, good_new n (by omega), blp, bmp, GG, HD, HR, HK, HM⟩
  clear GG HD HR HK HM
  rintro mz az wv ⟨j, dn, dr, pw, L, h, dw, rs, lp, mp, us1, rfl, rfl, hj, hj2, hd, hdr, hP, hgj, HG, blp, bmp, GG, HD, HR, HK, HM⟩
  refine wp_seq ?_
  refine wp_region_lit ?_
  obtain ⟨p1, hp1⟩ : ∃ p, decide (((j : Nat) : Int) < ((os.length : Nat) : Int)) = p := ⟨_, rfl⟩
  refine s_val 53 rfl rfl (.bool p1) (run_lssT 3 _ _ _ rfl ((j : Nat) : Int) ((os.length : Nat) : Int) rfl rfl p1 hp1 _) ?_
  refine nr ?_; intro U h; simp only [z0, z1] at h; subst h
  cases p1
  · refine wpList_nil ?_
    refine then_n ?_
    refine wp_seq ?_
    refine wp_cond_false rfl ?_
    refine wp_exit ?_
    refine then_x ?_
    refine then_x ?_
    refine blk_x ?_
    refine then_n ?_
    refine wp_seq ?_
    refine wp_region_lit ?_
    refine s_val 162 rfl rfl (.pointer (some ⟨lp, 0, none⟩)) (rfl) ?_
    refine nr ?_; intro U h; simp only [z0, z1] at h; subst h
    refine s_val 163 rfl rfl (.bool false) (run_eqnp 29 _ _ _ rfl _ rfl rfl Try.underlying29 _) ?_
    refine nr ?_; intro U h; simp only [z0, z1] at h; subst h
    refine s_val 164 rfl rfl (.pointer (some ⟨mp, 0, none⟩)) (rfl) ?_
    refine nr ?_; intro U h; simp only [z0, z1] at h; subst h
    refine s_val 165 rfl rfl (.bool false) (run_eqnp 34 _ _ _ rfl _ rfl rfl Try.underlying34 _) ?_
    refine nr ?_; intro U h; simp only [z0, z1] at h; subst h
    refine s_val 166 rfl rfl (.bool true) (run_eqB 4 _ _ _ rfl false false rfl rfl Try.underlying4 true rfl _) ?_
    refine nr ?_; intro U h; simp only [z0, z1] at h; subst h
    refine s_val 4 rfl rfl (.bool true) (rfl) ?_
    refine nr ?_; intro U h; simp only [z0, z1] at h; subst h
    refine wpList_nil ?_
    refine then_n ?_
    refine wp_ret ?_
    refine bodyPost_ret (results_tmp Try.results4 _ _ _) rfl ?_
    exact ⟨rfl, GG⟩
  have hjn : j < os.length := by have := of_decide_eq_true hp1; omega
  obtain ⟨q, hq⟩ : ∃ q, os[j]? = some q := ⟨_, List.getElem?_eq_getElem hjn⟩
  have hqm := List.mem_of_getElem? hq
  have hql := hlens q hqm
  obtain ⟨ad, hao⟩ := HO.xc.some (by omega)
  have lt_ro : ∀ ad, ro = some ad → ad.block < wv.heap.size := fun ad ha => (HR.row.ge ad ha).2
  refine wpList_nil ?_
  refine then_n ?_
  refine wp_seq ?_
  refine wp_cond_true rfl ?_
  refine wp_skip ?_
  refine then_n ?_
  refine wp_seq ?_
  refine wp_block ?_
  refine wp_seq ?_
  refine wp_region_lit ?_
  refine s_val 54 rfl rfl (.int .i64 ((j : Nat) : Int)) (rfl) ?_
  refine nr ?_; intro U h; simp only [z0, z1] at h; subst h
  refine s_val 55 rfl rfl (.pointer (some (ad.add (j * 3)))) (run_idxX wT _ _ rfl ad os.length cap j (by exact congrArg (fun a => Value.slice a os.length cap) hao) rfl hjn _) ?_
  refine nr ?_; intro U h; simp only [z0, z1] at h; subst h
  refine s_val 56 rfl rfl (.agg (c47 q.b q.i ⟨q.ao, q.l.length, q.cap⟩)) (ld_opW _ rfl ad j rfl (by rw [← hao]; exact HO.xc.gro GG) q hq) ?_
  refine nr ?_; intro U h; simp only [z0, z1] at h; subst h
  refine s_alloc 14 rfl rfl 47 rfl _ zv47 _ rfl ?_
  intro w6 g1 G eg1 kg1
  have bg1 := size_base GG eg1
  have dn0g1 := lt_new HD.box eg1
  have dn1g1 := lt_new HD.sec eg1
  have dn2g1 := lt_new HR.box eg1
  have dn3g1 := lt_new HK.box eg1
  have dn4g1 := lt_new HM.box eg1
  replace HD := HD.gro G
  replace HR := HR.gro G
  replace HK := HK.gro G
  replace HM := HM.gro G
  replace GG := GG.trans G
  clear G eg1
  refine nr ?_; intro U h; simp only [z0, z1] at h; subst h
  refine s_val 13 rfl rfl (.int .i64 ((j : Nat) : Int)) (rfl) ?_
  refine nr ?_; intro U h; simp only [z0, z1] at h; subst h
  refine s_store rfl rfl 47 _ _ rfl g1 0 rfl (.agg (c47 q.b q.i ⟨q.ao, q.l.length, q.cap⟩)) rfl 47 _ kg1 (c47 q.b q.i ⟨q.ao, q.l.length, q.cap⟩) rfl (by kernel_rfl) (Nat.le_of_ble_eq_true rfl) (by kernel_rfl) (c47 q.b q.i ⟨q.ao, q.l.length, q.cap⟩) (by kernel_rfl) ?_
  intro w8 St
  replace HD := HD.st St (by omega) (by omega)
  replace HR := HR.stq St (by omega) (fun ad ha => by obtain ⟨cur, hc⟩ := HR.row.blk5 ha; exact ne_type hc kg1 (by decide))
  replace HK := HK.st St (by omega)
  replace HM := HM.st St (by omega)
  replace GG := GG.store St bg1
  replace kg1 := St.new
  clear St
  refine wpList_nil ?_
  refine then_n ?_
  refine wp_seq ?_
  refine wp_seq ?_
  refine wp_region_opq ?_
  intro OPS hY
  have y2 := hY 2 59 rfl
  have y6 := hY 6 63 rfl
  clear hY
  refine s_val 57 rfl rfl (.pointer (some ⟨lp, 0, none⟩)) (rfl) ?_
  refine nr ?_; intro U h; simp only [z0, z1] at h; subst h
  refine s_val 58 rfl rfl (.bool false) (run_eqnp 29 _ _ _ rfl _ rfl rfl Try.underlying29 _) ?_
  refine nr ?_; intro U h; simp only [z0, z1] at h; subst h
  refine s_val 59 rfl rfl (.bool false) (rfl) ?_
  refine nr ?_; intro U h; simp only [z0, z1] at h; subst h
  refine s_gvalY 60 rfl rfl y2 rfl (.pointer (some ⟨mp, 0, none⟩)) (rfl) ?_
  refine nr ?_; intro U h; simp only [z0, z1] at h; subst h
  refine s_gvalY 61 rfl rfl y2 rfl (.bool false) (run_eqnp 34 _ _ _ rfl _ rfl rfl Try.underlying34 _) ?_
  refine nr ?_; intro U h; simp only [z0, z1] at h; subst h
  refine s_val 62 rfl rfl (.bool false) (rfl) ?_
  refine nr ?_; intro U h; simp only [z0, z1] at h; subst h
  refine s_val 63 rfl rfl (.bool false) (rfl) ?_
  refine nr ?_; intro U h; simp only [z0, z1] at h; subst h
  refine s_gvalY 64 rfl rfl y6 rfl (.int .i64 ((j : Nat) : Int)) (rfl) ?_
  refine nr ?_; intro U h; simp only [z0, z1] at h; subst h
  obtain ⟨p2, hp2⟩ : ∃ p, decide (100 < ((j : Nat) : Int)) = p := ⟨_, rfl⟩
  refine s_gvalY 65 rfl rfl y6 rfl (.bool p2) (run_gtrT 3 _ _ _ rfl ((j : Nat) : Int) 100 rfl rfl p2 hp2 _) ?_
  refine nr ?_; intro U h; simp only [z0, z1] at h; subst h
  cases p2
  · have hj100 : j ≤ 100 := by have := of_decide_eq_false hp2; omega
    refine s_val _ rfl rfl (.bool false) rfl ?_
    refine nr ?_; intro U h; simp only [z0, z1] at h; subst h
    refine wpList_nil ?_
    refine then_n ?_
    refine wp_cond_false rfl ?_
    refine wp_skip ?_
    refine then_n ?_
    refine wp_seq ?_
    refine wp_seq ?_
    refine wp_region_lit ?_
    refine s_val 67 rfl rfl (.pointer (some ⟨g1, 0, none⟩)) (run_fld 47 _ 0 rfl _ _ rfl _ (by kernel_rfl)) ?_
    refine nr ?_; intro U h; simp only [z0, z1] at h; subst h
    refine s_val 68 rfl rfl (.bool q.b) (run_ldc 4 _ rfl g1 0 rfl 47 _ kg1 (na4 _) _ rfl) ?_
    refine nr ?_; intro U h; simp only [z0, z1] at h; subst h
    cases hqb : q.b
    · rw [hqb] at kg1
      refine wpList_nil ?_
      refine then_n ?_
      refine wp_cond_false rfl ?_
      refine wp_skip ?_
      refine then_n ?_
      refine wp_seq ?_
      refine wp_region_lit ?_
      obtain ⟨err, L2, pw2, h2, dw2, rs2, hP2, hg2, HG2, CA, CB⟩ := append_both n L pw h dw rs q.l HG hP (by omega) HD.le
      refine s_bsl 104 rfl rfl 22 0 _ rfl [] rfl #[] 5 (by kernel_rfl) ?_
      intro w9 gb G1 egb kgb
      refine nr ?_; intro U h; simp only [z0, z1] at h; subst h
      refine s_val 105 rfl rfl (.pointer (some ⟨g1, 2, none⟩)) (run_fld 47 _ 2 rfl _ _ rfl _ (by kernel_rfl)) ?_
      refine nr ?_; intro U h; simp only [z0, z1] at h; subst h
      refine s_val 106 rfl rfl (.slice q.ao q.l.length q.cap) (run_ldc 22 _ rfl g1 2 rfl 47 _ (G1.has kg1) (na22 _) _ rfl) ?_
      refine nr ?_; intro U h; simp only [z0, z1] at h; subst h
      have HO1 : OB _ 5 .u8 gb (some ⟨gb, 0, none⟩) 0 [] := OB.made kgb (Nat.le_refl _) (Nat.le_refl _) (Nat.zero_le _) rfl rfl (fun x hx => by cases hx)
      refine s_app bT 107 rfl rfl _ _ rfl rfl HO1 (l' := q.l) rfl ((HO.row q hqm).gro (GG.trans G1)) (by simp only [List.length_nil]; omega) (by decide) (Nat.le_of_lt (lt_of_heap kgb)) ?_
      intro ao4 cap4 w10 HO2 BB
      rw [List.nil_append] at HO2
      simp only [List.nil_append]
      have G := below_gro G1 BB (Nat.le_of_eq egb)
      have bgb := size_base GG egb
      have HW := HO2.mono bgb
      have HN4 : ∀ ad, ao4 = some ad → ∀ a, ro = some a → ad.block ≠ a.block := fun ad ha a h3 => by have h1 := (HO2.ge ad ha).1; have h2 := (HR.row.ge a h3).2; omega
      have HA4 : ∀ ad, ao4 = some ad → ad.block ≠ p ∧ ad.block ≠ sg ∧ ad.block ≠ lp := fun ad ha => by have h1 := (HO2.ge ad ha).1; have h2 := lt_of_heap HD.box; have h3 := lt_of_heap HD.sec; have h4 := lt_of_heap HK.box; omega
      clear HO1 HO2 BB G1 egb kgb
      replace kg1 := G.has kg1
      replace HD := HD.gro G
      replace HR := HR.gro G
      replace HK := HK.gro G
      replace HM := HM.gro G
      replace GG := GG.trans G
      clear G
      refine nr ?_; intro U h; simp only [z0, z1] at h; subst h
      refine s_val 17 rfl rfl (.slice ao4 q.l.length cap4) (rfl) ?_
      refine nr ?_; intro U h; simp only [z0, z1] at h; subst h
      refine wpList_nil ?_
      refine then_n ?_
      refine wp_seq ?_
      refine wp_region_lit ?_
      refine s_val 108 rfl rfl (.pointer (some ⟨lp, 0, none⟩)) (rfl) ?_
      refine nr ?_; intro U h; simp only [z0, z1] at h; subst h
      refine s_val 109 rfl rfl (.slice ao4 q.l.length cap4) (rfl) ?_
      refine nr ?_; intro U h; simp only [z0, z1] at h; subst h
      have HX := CA _ lp p sg dn ao4 cap4 HK HD ⟨HW.nc, fun ad ha _ => by have := HA4 ad ha; simp; omega⟩ (ne_type HK.box HD.box (by decide)) (ne_type HK.box HD.sec (by decide)) (by omega) (by omega)
      refine s_callx 110 rfl rfl _ 21 Try.call21 rfl rfl _ rfl [.pointer (some ⟨lp, 0, none⟩), .slice ao4 q.l.length cap4] rfl (HX) (fun _ _ ⟨_, he, _⟩ => ⟨_, he⟩) ?_
      rintro v w11 ⟨dn2, he, G, hd1, hd2, HD2, HK2⟩
      cases he
      replace kg1 := G.has kg1 (by have e1 := ne_type kg1 HD.box (by decide); have e2 := ne_type kg1 HD.sec (by decide); have e3 := ne_type kg1 HK.box (by decide); simp; omega)
      replace HR := HR.gros G (by have e1 := ne_type HR.box HD.box (by decide); have e2 := ne_type HR.box HD.sec (by decide); have e3 := ne_type HR.box HK.box (by decide); simp; omega) (fun ad ha => by obtain ⟨cur, hc⟩ := HR.row.blk5 ha; have e1 := ne_type hc HD.box (by decide); have e2 := ne_type hc HD.sec (by decide); have e3 := ne_type hc HK.box (by decide); simp; omega)
      replace HM := HM.gros G (by have e1 := ne_type HM.box HD.box (by decide); have e2 := ne_type HM.box HD.sec (by decide); have e3 := ne_type HM.box HK.box (by decide); simp; omega)
      replace HW := HW.gros G (fun ad ha => by have := HA4 ad ha; simp; omega)
      replace GG := G.gro GG (by simp; omega)
      clear G HX HD HK
      have HD := HD2
      have HK := HK2
      clear HD2 HK2
      refine nr ?_; intro U h; simp only [z0, z1] at h; subst h
      refine s_val 18 rfl rfl (.int .i64 err) (rfl) ?_
      refine nr ?_; intro U h; simp only [z0, z1] at h; subst h
      refine wpList_nil ?_
      refine then_n ?_
      refine wp_seq ?_
      have HB4 : ∀ ad, ao4 = some ad → ad.block ≠ rp ∧ ad.block ≠ mp ∧ ∀ a, ro = some a → ad.block ≠ a.block := fun ad ha => ⟨nb4 HW ha HR.box (by decide), nb4 HW ha HM.box (by decide), fun a h3 => HN4 ad ha a h3⟩
      have hcf := HG2.cnt
      have hff := HG2.fit
      have hn4 := HD.le
      refine wp_region_phG (A := ?Ay) (fun x => PX w x p sg lp rp mp B g1 ro rc n L2 pw2 dn2 dr h2 dw2 ao4 cap4 q) 48 [(0, 111), (1, 112), (2, 113), (3, 114), (4, 115), (5, 116), (6, 117), (7, 118), (8, 119), (9, 120), (10, 121), (11, 122), (12, 123), (13, 124), (14, 125), (15, 126), (16, 127), (17, 128), (18, 129), (19, 130), (20, 131), (21, 132), (22, 133), (23, 134), (24, 135), (25, 136), (26, 137), (27, 138), (28, 139), (29, 140), (30, 141), (31, 142), (32, 143), (33, 144), (34, 145), (35, 146), (36, 147), (37, 148), (38, 149), (39, 150), (40, 151), (41, 152), (42, 153), (43, 154), (44, 155), (45, 156), (46, 157), (47, 158)] [.val (.int .i64 err), .val (.pointer (some ⟨mp, 0, none⟩)), .val (.pointer (some ⟨g1, 2, none⟩)), .val (.slice q.ao q.l.length q.cap), .val (.int .i64 err), .val (.bool false), .val (.bool false), .val (.slice ao4 q.l.length cap4), .val (.string (bas q.l)), .val (.pointer (some ⟨g1, 2, none⟩)), .val (.slice q.ao q.l.length q.cap), .val (.string (bas q.l)), .val (.bool false), .val (.bool false), .val (.bool false), .val (.pointer (some ⟨lp, 0, none⟩)), .val (.int .i64 ((h2.c : Nat) : Int)), .val (.pointer (some ⟨mp, 0, none⟩)), .val (.pointer (some ⟨mp, 0, none⟩)), .val (.pointer (some ⟨mp, 3, none⟩)), .val (.int .i64 ((h2.c : Nat) : Int)), .val (.bool false), .val (.bool false), .val (.bool false), .val (.pointer (some ⟨lp, 0, none⟩)), .val (.int .i64 ((n - 2 - h2.u : Nat) : Int)), .val (.pointer (some ⟨mp, 0, none⟩)), .val (.int .i64 ((n - 2 - h2.u : Nat) : Int)), .val (.bool false), .val (.bool false), .val (.bool false), .val (.pointer (some ⟨lp, 0, none⟩)), .val (.bool dw2), .val (.pointer (some ⟨mp, 0, none⟩)), .val (.pointer (some ⟨mp, 0, none⟩)), .val (.pointer (some ⟨mp, 4, none⟩)), .val (.bool dw2), .val (.bool false), .val (.bool false), .val (.bool false), .val (.pointer (some ⟨p, 0, none⟩)), browE L2, .val (.string (bas L2)), .val (.pointer (some ⟨rp, 0, none⟩)), .val (.pointer (some ⟨rp, 0, none⟩)), .val (.pointer (some ⟨rp, 0, none⟩)), .val (.slice ro (n * 64) rc), .val (.string (bas L2))] 4 follows (by kernel_rfl) rfl (by decide) av4 (by kernel_rfl) (fun _ _ h g => h.gro g) ?hAy (opsP_a (by decide) ?o0y (opsP_a (by decide) ?o1y (opsP_a (by decide) ?o2y (opsP_a (by decide) ?o3y (opsP_e ?o4y (opsP_b (by decide) ?o5y (opsP_b (by decide) ?o6y (opsP_b (by decide) ?o7y (opsP_b (by decide) ?o8y (opsP_b (by decide) ?o9y (opsP_b (by decide) ?o10y (opsP_b (by decide) ?o11y (opsP_b (by decide) ?o12y (opsP_b (by decide) ?o13y (opsP_b (by decide) ?o14y (opsP_b (by decide) ?o15y (opsP_b (by decide) ?o16y (opsP_b (by decide) ?o17y (opsP_b (by decide) ?o18y (opsP_b (by decide) ?o19y (opsP_b (by decide) ?o20y (opsP_b (by decide) ?o21y (opsP_b (by decide) ?o22y (opsP_b (by decide) ?o23y (opsP_b (by decide) ?o24y (opsP_b (by decide) ?o25y (opsP_b (by decide) ?o26y (opsP_b (by decide) ?o27y (opsP_b (by decide) ?o28y (opsP_b (by decide) ?o29y (opsP_b (by decide) ?o30y (opsP_b (by decide) ?o31y (opsP_b (by decide) ?o32y (opsP_b (by decide) ?o33y (opsP_b (by decide) ?o34y (opsP_b (by decide) ?o35y (opsP_b (by decide) ?o36y (opsP_b (by decide) ?o37y (opsP_b (by decide) ?o38y (opsP_b (by decide) ?o39y (opsP_b (by decide) ?o40y (opsP_b (by decide) ?o41y (opsP_b (by decide) ?o42y (opsP_b (by decide) ?o43y (opsP_b (by decide) ?o44y (opsP_b (by decide) ?o45y (opsP_b (by decide) ?o46y (opsP_b (by decide) ?o47y opsP_nil)))))))))))))))))))))))))))))))))))))))))))))))) ?resty
      case hAy =>
        intro ptrs
        simp only [full, foldSlots, filledE, postE, List.foldl_cons, List.foldl_nil, List.getD_cons_zero, List.getD_cons_succ, fill_val, fill_brow, List.set_cons_zero, List.set_cons_succ]
        exact rfl
      case o0y => exact fun _ _ _ _ => opE_move (v := .int .i64 err) _ rfl rfl rfl
      case o1y => exact fun _ _ _ _ => opE_move (v := .pointer (some ⟨mp, 0, none⟩)) _ rfl rfl rfl
      case o2y => exact fun _ _ hw _ => opE_value (v := .pointer (some ⟨g1, 2, none⟩)) rfl (run_fld 47 _ 2 rfl _ _ rfl _ (by kernel_rfl))
      case o3y => exact fun _ _ hw _ => opE_value (v := .slice q.ao q.l.length q.cap) rfl (run_ldc 22 _ rfl g1 2 rfl 47 _ (hw.elim (fun h => (((Gro.refl _).drew.trans h).has kg1)) (fun h => h.blk)) (na22 _) _ rfl)
      case o4y =>
        intro ptrs w9 hw hE
        have G := (Gro.refl _).drew.trans hw
        have HR9 := HR.gro G
        have HM9 := HM.gro G
        refine opX_call (.val (.int .i64 err)) rfl _ 22 Try.call22 rfl rfl _ rfl [.pointer (some ⟨mp, 0, none⟩), .slice q.ao q.l.length q.cap] rfl ((CB _ mp rp B ro rc dr q.ao q.cap HM9 HR9 ⟨(HO.row q hqm).gro (GG.trans G), fun ad ha h0 => ?_⟩ (by omega) (by omega)).mono fun e w2 ⟨d, he, G2, hd3, hd4, HR2, HM2⟩ => ⟨_, he, ⟨?_, ?_, ?_, HM2, ⟨d, hd3, hd4, HR2⟩, ?_, ?_⟩, rfl⟩)
        · have h1 := (HO.row q hqm).lt ad ha h0
          simp only [List.mem_cons, mem_blk, not_or]
          exact ⟨by omega, by omega, fun ⟨a, h3, h4⟩ => by have := (HR9.row.ge a h3).1; omega⟩
        · refine G2.gro (GG.trans G) (fun x hx => ?_)
          rcases List.mem_cons.1 hx with e | hx
          · omega
          · rcases List.mem_cons.1 hx with e | hx
            · omega
            · exact Nat.le_trans hBw (HR9.row.ox.base x hx)
        · refine (HD.gro G).gros G2 ?_ ?_
          · exact notS (HD.gro G).box HR9 HM9 (by decide) (by decide) (by decide)
          · exact notS (HD.gro G).sec HR9 HM9 (by decide) (by decide) (by decide)
        · exact (HK.gro G).gros G2 (notS (HK.gro G).box HR9 HM9 (by decide) (by decide) (by decide))
        · refine (HW.gro G).gros G2 (fun ad ha => ?_)
          have h5 := HB4 ad ha
          simp only [List.mem_cons, mem_blk, not_or]
          exact ⟨h5.1, h5.2.1, fun ⟨a, h3, h4⟩ => h5.2.2 a h3 h4.symm⟩
        · exact G2.has (G.has kg1) (notS (G.has kg1) HR9 HM9 (by decide) (by decide) (by decide))
      case o5y => exact fun _ _ hw _ => opE_value (v := .bool false) rfl (run_neq_k 31 .i64 _ _ _ rfl Try.underlying31 err err rfl rfl false (decide_eq_true rfl) _)
      case o6y => exact fun _ _ _ _ => opE_move (v := .bool false) _ rfl rfl rfl
      case o7y => exact fun _ _ _ _ => opE_move (v := .slice ao4 q.l.length cap4) _ rfl rfl rfl
      case o8y => exact fun _ _ hw _ => opE_value (v := .string (bas q.l)) rfl (run_text_op bT 9 Try.underlying9 _ rfl rfl hw.ob.nc)
      case o9y => exact fun _ _ hw _ => opE_value (v := .pointer (some ⟨g1, 2, none⟩)) rfl (run_fld 47 _ 2 rfl _ _ rfl _ (by kernel_rfl))
      case o10y => exact fun _ _ hw _ => opE_value (v := .slice q.ao q.l.length q.cap) rfl (run_ldc 22 _ rfl g1 2 rfl 47 _ hw.blk (na22 _) _ rfl)
      case o11y => exact fun _ _ hw _ => opE_value (v := .string (bas q.l)) rfl (run_text_op bT 9 Try.underlying9 _ rfl rfl ((HO.row q hqm).gro hw.gg))
      case o12y => exact fun _ _ hw _ => opE_value (v := .bool false) rfl (run_nes_op _ _ _ rfl _ _ rfl rfl false (decide_eq_true rfl) _)
      case o13y => exact fun _ _ _ _ => opE_pick (v := .bool false) _ _ _ rfl rfl false rfl rfl
      case o14y => exact fun _ _ _ _ => opE_move (v := .bool false) _ rfl rfl rfl
      case o15y => exact fun _ _ _ _ => opE_move (v := .pointer (some ⟨lp, 0, none⟩)) _ rfl rfl rfl
      case o16y => exact fun _ _ hw _ => opE_call (.val (.int .i64 ((h2.c : Nat) : Int))) rfl _ 16 Try.call16 rfl rfl _ rfl [.pointer (some ⟨lp, 0, none⟩)] rfl ((len_any _ lp p h2 dw2 hw.lk (by omega)).mono fun e w' ⟨he, hg⟩ => ⟨_, he, hg, rfl⟩)
      case o17y => exact fun _ _ _ _ => opE_move (v := .pointer (some ⟨mp, 0, none⟩)) _ rfl rfl rfl
      case o18y => exact fun _ _ hw _ => opE_value (v := .pointer (some ⟨mp, 0, none⟩)) rfl (run_nc _ rfl _ rfl)
      case o19y => exact fun _ _ hw _ => opE_value (v := .pointer (some ⟨mp, 3, none⟩)) rfl (run_fld 42 _ 3 rfl _ _ rfl _ (by kernel_rfl))
      case o20y => exact fun _ _ hw _ => opE_value (v := .int .i64 ((h2.c : Nat) : Int)) rfl (run_ldc 3 _ rfl mp 3 rfl 42 _ hw.mq.box (na3 _) _ rfl)
      case o21y => exact fun _ _ hw _ => opE_value (v := .bool false) rfl (run_neq_k 3 .i64 _ _ _ rfl Try.underlying3 ((h2.c : Nat) : Int) ((h2.c : Nat) : Int) rfl rfl false (decide_eq_true rfl) _)
      case o22y => exact fun _ _ _ _ => opE_pick (v := .bool false) _ _ _ rfl rfl false rfl rfl
      case o23y => exact fun _ _ _ _ => opE_move (v := .bool false) _ rfl rfl rfl
      case o24y => exact fun _ _ _ _ => opE_move (v := .pointer (some ⟨lp, 0, none⟩)) _ rfl rfl rfl
      case o25y => exact fun _ _ hw _ => opE_call (.val (.int .i64 ((n - 2 - h2.u : Nat) : Int))) rfl _ 17 Try.call17 rfl rfl _ rfl [.pointer (some ⟨lp, 0, none⟩)] rfl ((room_any _ lp p h2 dw2 hw.lk sg n _ _ _ hw.dk (by omega)).mono fun e w' ⟨he, hg⟩ => ⟨_, he, hg, rfl⟩)
      case o26y => exact fun _ _ _ _ => opE_move (v := .pointer (some ⟨mp, 0, none⟩)) _ rfl rfl rfl
      case o27y =>
        intro ptrs w' hw hE
        obtain ⟨d9, _, _, hq9⟩ := hw.rk
        exact opE_call (.val (.int .i64 ((n - 2 - h2.u : Nat) : Int))) rfl _ 18 Try.call18 rfl rfl _ rfl [.pointer (some ⟨mp, 0, none⟩)] rfl ((rroom_any _ mp rp h2 dw2 hw.mq B ro rc n _ _ _ hq9 (by omega)).mono fun e w' ⟨he, hg⟩ => ⟨_, he, hg, rfl⟩)
      case o28y => exact fun _ _ hw _ => opE_value (v := .bool false) rfl (run_neq_k 3 .i64 _ _ _ rfl Try.underlying3 ((n - 2 - h2.u : Nat) : Int) ((n - 2 - h2.u : Nat) : Int) rfl rfl false (decide_eq_true rfl) _)
      case o29y => exact fun _ _ _ _ => opE_pick (v := .bool false) _ _ _ rfl rfl false rfl rfl
      case o30y => exact fun _ _ _ _ => opE_move (v := .bool false) _ rfl rfl rfl
      case o31y => exact fun _ _ _ _ => opE_move (v := .pointer (some ⟨lp, 0, none⟩)) _ rfl rfl rfl
      case o32y => exact fun _ _ hw _ => opE_call (.val (.bool dw2)) rfl _ 19 Try.call19 rfl rfl _ rfl [.pointer (some ⟨lp, 0, none⟩)] rfl ((down_any _ lp p h2 dw2 hw.lk).mono fun e w' ⟨he, hg⟩ => ⟨_, he, hg, rfl⟩)
      case o33y => exact fun _ _ _ _ => opE_move (v := .pointer (some ⟨mp, 0, none⟩)) _ rfl rfl rfl
      case o34y => exact fun _ _ hw _ => opE_value (v := .pointer (some ⟨mp, 0, none⟩)) rfl (run_nc _ rfl _ rfl)
      case o35y => exact fun _ _ hw _ => opE_value (v := .pointer (some ⟨mp, 4, none⟩)) rfl (run_fld 42 _ 4 rfl _ _ rfl _ (by kernel_rfl))
      case o36y => exact fun _ _ hw _ => opE_value (v := .bool dw2) rfl (run_ldc 4 _ rfl mp 4 rfl 42 _ hw.mq.box (na4 _) _ rfl)
      case o37y => exact fun _ _ hw _ => opE_value (v := .bool false) rfl (run_neB 4 _ _ _ rfl dw2 dw2 rfl rfl Try.underlying4 false (decide_eq_true rfl) _)
      case o38y => exact fun _ _ _ _ => opE_pick (v := .bool false) _ _ _ rfl rfl false rfl rfl
      case o39y => exact fun _ _ _ _ => opE_move (v := .bool false) _ rfl rfl rfl
      case o40y => exact fun _ _ _ _ => opE_move (v := .pointer (some ⟨p, 0, none⟩)) _ rfl rfl rfl
      case o41y => exact fun _ _ hw _ => opE_call (browE L2) rfl _ 15 Try.call15 rfl rfl _ rfl [.pointer (some ⟨p, 0, none⟩)] rfl ((bytes_len _ p sg n L2 _ _ hw.dk).mono fun e w' ⟨g, he, hg, _, hk⟩ => ⟨_, he, hg, g, rfl, hk⟩)
      case o42y =>
        intro ptrs w' hw hE
        obtain ⟨⟨gz2, hz2, oz2⟩, _⟩ := hE
        exact opE_value (v := .string (bas L2)) rfl (run_text_op bT 9 Try.underlying9 _ rfl (l := L2) (by exact hz2) (nc_all oz2 hw.dk.byte))
      case o43y => exact fun _ _ _ _ => opE_move (v := .pointer (some ⟨rp, 0, none⟩)) _ rfl rfl rfl
      case o44y => exact fun _ _ hw _ => opE_value (v := .pointer (some ⟨rp, 0, none⟩)) rfl (run_nc _ rfl _ rfl)
      case o45y => exact fun _ _ hw _ => opE_value (v := .pointer (some ⟨rp, 0, none⟩)) rfl (run_fld 50 _ 0 rfl _ _ rfl _ (by kernel_rfl))
      case o46y =>
        intro ptrs w' hw hE
        obtain ⟨d9, _, _, hq9⟩ := hw.rk
        exact opE_value (v := .slice ro (n * 64) rc) rfl (run_ldc 22 _ rfl rp 0 rfl 50 _ hq9.box (na22 _) _ rfl)
      case o47y =>
        intro ptrs w' hw hE
        obtain ⟨d9, _, _, hq9⟩ := hw.rk
        exact opE_value (v := .string (bas L2)) rfl (run_text_op bT 9 Try.underlying9 _ rfl (l := L2) (by rw [hq9.len]; rfl) hq9.row.nc)
      intro ptrs w12 PXh hxE
      simp only [List.drop_succ_cons, List.drop_zero]
      clear GG HD HK HM HR HW
      have GG := PXh.gg
      have HD := PXh.dk
      have HK := PXh.lk
      have HM := PXh.mq
      obtain ⟨dr2, hdr1, hdr2, HR⟩ := PXh.rk
      clear PXh hxE
      refine s_gval 159 rfl rfl (.bool false) (run_nes_op _ _ _ rfl _ _ rfl rfl false (decide_eq_true rfl) _) ?_
      refine nr ?_; intro U h; simp only [z0, z1] at h; subst h
      refine s_val 160 rfl rfl (.bool false) (rfl) ?_
      refine nr ?_; intro U h; simp only [z0, z1] at h; subst h
      refine wpList_nil ?_
      refine then_n ?_
      refine wp_cond_false rfl ?_
      refine wp_skip ?_
      refine blk_n ?_
      refine then_n ?_
      refine wp_region_lit ?_
      refine s_val 161 rfl rfl (.int .i64 ((j + 1 : Nat) : Int)) (run_add64 _ _ _ rfl ((j : Nat) : Int) 1 _ rfl rfl (by omega) (by omega) (by omega) _) ?_
      refine nr ?_; intro U h; simp only [z0, z1] at h; subst h
      refine s_val 52 rfl rfl (.int .i64 ((j + 1 : Nat) : Int)) (rfl) ?_
      refine nr ?_; intro U h; simp only [z0, z1] at h; subst h
      refine wpList_nil ?_
      refine then_n ?_
      exact ⟨_, (by omega : os.length - (j + 1) < os.length - j), j + 1, dn2, dr2, pw2, L2, h2, dw2, rs2, lp, mp, (fun kz => ([us1 0, us1 1, us1 2, .int .i64 ((j : Nat) : Int), .pointer (some ⟨g1, 0, none⟩), us1 5, us1 6, .slice ao4 q.l.length cap4, .int .i64 err, .bool true, .int .i64 ((j : Nat) : Int), .pointer (some (ad.add (j * 3))), .agg (c47 false q.i ⟨q.ao, q.l.length, q.cap⟩), .pointer (some ⟨lp, 0, none⟩), .bool false, .bool false, .pointer (some ⟨mp, 0, none⟩), .bool false, .bool false, .bool false, .int .i64 ((j : Nat) : Int), .bool false, .bool false, .pointer (some ⟨g1, 0, none⟩), .bool false, us1 25, us1 26, us1 27, us1 28, us1 29, us1 30, us1 31, us1 32, us1 33, us1 34, us1 35, us1 36, us1 37, us1 38, us1 39, us1 40, us1 41, us1 42, us1 43, us1 44, us1 45, us1 46, us1 47, us1 48, us1 49, us1 50, us1 51, us1 52, us1 53, us1 54, us1 55, us1 56, us1 57, us1 58, us1 59, .slice (some ⟨gb, 0, none⟩) (([] : List Nat).length) 0, .pointer (some ⟨g1, 2, none⟩), .slice q.ao q.l.length q.cap, .slice ao4 q.l.length cap4, .pointer (some ⟨lp, 0, none⟩), .slice ao4 q.l.length cap4, .int .i64 err, .int .i64 err, .pointer (some ⟨mp, 0, none⟩), .pointer (some ⟨g1, 2, none⟩), .slice q.ao q.l.length q.cap, .int .i64 err, .bool false, .bool false, .slice ao4 q.l.length cap4, .string (bas q.l), .pointer (some ⟨g1, 2, none⟩), .slice q.ao q.l.length q.cap, .string (bas q.l), .bool false, .bool false, .bool false, .pointer (some ⟨lp, 0, none⟩), .int .i64 ((h2.c : Nat) : Int), .pointer (some ⟨mp, 0, none⟩), .pointer (some ⟨mp, 0, none⟩), .pointer (some ⟨mp, 3, none⟩), .int .i64 ((h2.c : Nat) : Int), .bool false, .bool false, .bool false, .pointer (some ⟨lp, 0, none⟩), .int .i64 ((n - 2 - h2.u : Nat) : Int), .pointer (some ⟨mp, 0, none⟩), .int .i64 ((n - 2 - h2.u : Nat) : Int), .bool false, .bool false, .bool false, .pointer (some ⟨lp, 0, none⟩), .bool dw2, .pointer (some ⟨mp, 0, none⟩), .pointer (some ⟨mp, 0, none⟩), .pointer (some ⟨mp, 4, none⟩), .bool dw2, .bool false, .bool false, .bool false, .pointer (some ⟨p, 0, none⟩), ptrs 41, .string (bas L2), .pointer (some ⟨rp, 0, none⟩), .pointer (some ⟨rp, 0, none⟩), .pointer (some ⟨rp, 0, none⟩), .slice ro (n * 64) rc, .string (bas L2), .bool false, .bool false, .int .i64 ((j + 1 : Nat) : Int)] : List Value).getD kz undef), rfl, rfl, hjn, (by omega), ⟨by omega, by omega⟩, ⟨by omega, by omega⟩, hP2, (by omega), HG2, blp, bmp, GG, HD, HR, HK, HM⟩
    rw [hqb] at kg1
    refine wpList_nil ?_
    refine then_n ?_
    refine wp_cond_true rfl ?_
    refine wp_seq ?_
    refine wp_region_lit ?_
    refine s_val 69 rfl rfl (.pointer (some ⟨p, 0, none⟩)) (rfl) ?_
    refine nr ?_; intro U h; simp only [z0, z1] at h; subst h
    refine s_val 70 rfl rfl (.pointer (some ⟨g1, 1, none⟩)) (run_fld 47 _ 1 rfl _ _ rfl _ (by kernel_rfl)) ?_
    refine nr ?_; intro U h; simp only [z0, z1] at h; subst h
    refine s_val 71 rfl rfl (.int .i64 q.i) (run_ldc 3 _ rfl g1 1 rfl 47 _ kg1 (na3 _) _ rfl) ?_
    refine nr ?_; intro U h; simp only [z0, z1] at h; subst h
    refine s_callx 72 rfl rfl _ 20 Try.call20 rfl rfl _ rfl [.pointer (some ⟨p, 0, none⟩), .int .i64 q.i] rfl (power_any _ p sg n _ _ _ HD q.i) (fun _ _ ⟨he, _⟩ => ⟨_, he⟩) ?_
    rintro v w9 ⟨he, G, HD2⟩
    cases he
    have np1 := ne_type HD.box HR.box (by decide)
    have np2 := ne_type HD.box HK.box (by decide)
    have np3 := ne_type HD.box HM.box (by decide)
    have np4 := ne_type HD.box kg1 (by decide)
    replace kg1 := G.has kg1 (by simpa using np4.symm)
    replace HR := HR.gros G (by simpa using np1.symm) (fun ad ha => by obtain ⟨cur, hc⟩ := HR.row.blk5 ha; simpa using (ne_type hc HD.box (by decide)))
    replace HK := HK.gros G (by simpa using np2.symm)
    replace HM := HM.gros G (by simpa using np3.symm)
    replace GG := G.gro GG (by simpa using bp)
    clear G HD np1 np2 np3 np4
    have HD := HD2
    clear HD2
    refine nr ?_; intro U h; simp only [z0, z1] at h; subst h
    refine wpList_nil ?_
    refine then_n ?_
    refine wp_seq ?_
    refine wp_region_lit ?_
    refine s_val 73 rfl rfl (.pointer (some ⟨rp, 0, none⟩)) (rfl) ?_
    refine nr ?_; intro U h; simp only [z0, z1] at h; subst h
    refine s_val 74 rfl rfl (.pointer (some ⟨g1, 1, none⟩)) (run_fld 47 _ 1 rfl _ _ rfl _ (by kernel_rfl)) ?_
    refine nr ?_; intro U h; simp only [z0, z1] at h; subst h
    refine s_val 75 rfl rfl (.int .i64 q.i) (run_ldc 3 _ rfl g1 1 rfl 47 _ kg1 (na3 _) _ rfl) ?_
    refine nr ?_; intro U h; simp only [z0, z1] at h; subst h
    refine s_val 76 rfl rfl (.int .i64 (max q.i (-1))) (run_max64 _ _ _ rfl q.i (-1) _ rfl rfl rfl _) ?_
    refine nr ?_; intro U h; simp only [z0, z1] at h; subst h
    refine s_val 77 rfl rfl (.pointer (some ⟨rp, 0, none⟩)) (run_nc _ rfl _ rfl) ?_
    refine nr ?_; intro U h; simp only [z0, z1] at h; subst h
    refine s_val 78 rfl rfl (.pointer (some ⟨rp, 1, none⟩)) (run_fld 50 _ 1 rfl _ _ rfl _ (by kernel_rfl)) ?_
    refine nr ?_; intro U h; simp only [z0, z1] at h; subst h
    refine s_store rfl rfl 3 _ _ rfl rp 1 rfl (.int .i64 (max q.i (-1))) rfl 50 _ HR.box #[.int .i64 (max q.i (-1))] rfl si3 (Nat.le_of_ble_eq_true rfl) (by kernel_rfl) (c50 ⟨ro, n * 64, rc⟩ (max q.i (-1)) dr) (by kernel_rfl) ?_
    intro w10 St
    replace kg1 := St.has (ne_type kg1 HR.box (by decide)) kg1
    replace HD := HD.st St (Ne.symm (ne_type HD.box HR.box (by decide))) (Ne.symm (ne_type HD.sec HR.box (by decide)))
    replace HK := HK.st St (Ne.symm (ne_type HK.box HR.box (by decide)))
    replace HM : MK _ mp rp h _ := ⟨St.has (ne_type HM.box HR.box (by decide)) HM.box⟩
    replace GG := GG.store St brp
    replace HR : QK _ rp B ro rc n L (max q.i (-1)) dr := ⟨St.new, HR.row.apart St (fun ad ha => HR.ne ha), HR.len, HR.le⟩
    clear St
    refine wpList_nil ?_
    refine then_n ?_
    refine wp_seq ?_
    refine wp_seq ?_
    refine wp_region_lit ?_
    refine s_val 79 rfl rfl (.pointer (some ⟨mp, 0, none⟩)) (rfl) ?_
    refine nr ?_; intro U h; simp only [z0, z1] at h; subst h
    refine s_val 80 rfl rfl (.pointer (some ⟨mp, 0, none⟩)) (run_nc _ rfl _ rfl) ?_
    refine nr ?_; intro U h; simp only [z0, z1] at h; subst h
    refine s_val 81 rfl rfl (.pointer (some ⟨mp, 4, none⟩)) (run_fld 42 _ 4 rfl _ _ rfl _ (by kernel_rfl)) ?_
    refine nr ?_; intro U h; simp only [z0, z1] at h; subst h
    refine s_val 82 rfl rfl (.bool dw) (run_ldc 4 _ rfl mp 4 rfl 42 _ HM.box (na4 _) _ rfl) ?_
    refine nr ?_; intro U h; simp only [z0, z1] at h; subst h
    cases dw
    · refine wpList_nil ?_
      refine then_n ?_
      refine wp_cond_false rfl ?_
      refine wp_skip ?_
      refine then_n ?_
      refine wp_exit ?_
      refine then_x ?_
      refine blk_x ?_
      refine then_n ?_
      refine wp_region_lit ?_
      refine s_val 161 rfl rfl (.int .i64 ((j + 1 : Nat) : Int)) (run_add64 _ _ _ rfl ((j : Nat) : Int) 1 _ rfl rfl (by omega) (by omega) (by omega) _) ?_
      refine nr ?_; intro U h; simp only [z0, z1] at h; subst h
      refine s_val 52 rfl rfl (.int .i64 ((j + 1 : Nat) : Int)) (rfl) ?_
      refine nr ?_; intro U h; simp only [z0, z1] at h; subst h
      refine wpList_nil ?_
      refine then_n ?_
      exact ⟨_, (by omega : os.length - (j + 1) < os.length - j), j + 1, dn, dr, _, L, h, false, rs, lp, mp, (fun kz => ([us1 0, us1 1, us1 2, .int .i64 ((j : Nat) : Int), .pointer (some ⟨g1, 0, none⟩), us1 5, us1 6, us1 7, us1 8, .bool true, .int .i64 ((j : Nat) : Int), .pointer (some (ad.add (j * 3))), .agg (c47 true q.i ⟨q.ao, q.l.length, q.cap⟩), .pointer (some ⟨lp, 0, none⟩), .bool false, .bool false, .pointer (some ⟨mp, 0, none⟩), .bool false, .bool false, .bool false, .int .i64 ((j : Nat) : Int), .bool false, .bool false, .pointer (some ⟨g1, 0, none⟩), .bool true, .pointer (some ⟨p, 0, none⟩), .pointer (some ⟨g1, 1, none⟩), .int .i64 q.i, .tuple #[], .pointer (some ⟨rp, 0, none⟩), .pointer (some ⟨g1, 1, none⟩), .int .i64 q.i, .int .i64 (max q.i (-1)), .pointer (some ⟨rp, 0, none⟩), .pointer (some ⟨rp, 1, none⟩), .pointer (some ⟨mp, 0, none⟩), .pointer (some ⟨mp, 0, none⟩), .pointer (some ⟨mp, 4, none⟩), .bool false, us1 39, us1 40, us1 41, us1 42, us1 43, us1 44, us1 45, us1 46, us1 47, us1 48, us1 49, us1 50, us1 51, us1 52, us1 53, us1 54, us1 55, us1 56, us1 57, us1 58, us1 59, us1 60, us1 61, us1 62, us1 63, us1 64, us1 65, us1 66, us1 67, us1 68, us1 69, us1 70, us1 71, us1 72, us1 73, us1 74, us1 75, us1 76, us1 77, us1 78, us1 79, us1 80, us1 81, us1 82, us1 83, us1 84, us1 85, us1 86, us1 87, us1 88, us1 89, us1 90, us1 91, us1 92, us1 93, us1 94, us1 95, us1 96, us1 97, us1 98, us1 99, us1 100, us1 101, us1 102, us1 103, us1 104, us1 105, us1 106, us1 107, us1 108, us1 109, us1 110, us1 111, us1 112, us1 113, us1 114, us1 115, us1 116, .int .i64 ((j + 1 : Nat) : Int)] : List Value).getD kz undef), rfl, rfl, hjn, (by omega), ⟨by omega, by omega⟩, ⟨by omega, by omega⟩, okP.set (HO.num q hqm).2, (by omega), HG, blp, bmp, GG, HD, HR, HK, HM⟩
    refine wpList_nil ?_
    refine then_n ?_
    refine wp_cond_true rfl ?_
    refine wp_seq ?_
    refine wp_region_lit ?_
    refine s_val 15 rfl rfl (.slice none 0 0) (rfl) ?_
    refine nr ?_; intro U h; simp only [z0, z1] at h; subst h
    refine s_val 16 rfl rfl (.slice none 0 0) (rfl) ?_
    refine nr ?_; intro U h; simp only [z0, z1] at h; subst h
    refine wpList_nil ?_
    refine then_n ?_
    refine wp_seq ?_
    refine wp_region_lit ?_
    refine s_val 84 rfl rfl (.pointer (some ⟨p, 0, none⟩)) (rfl) ?_
    refine nr ?_; intro U h; simp only [z0, z1] at h; subst h
    refine s_callx 85 rfl rfl _ 12 Try.call12 rfl rfl _ rfl [.pointer (some ⟨p, 0, none⟩)] rfl (open_ok _ p sg n _ _ _ HD (by omega) _ (HG.opens (by omega))) (fun _ _ ⟨_, _, _, _, he, _⟩ => ⟨_, he⟩) ?_
    rintro v w11 ⟨lp2, ao5, cap5, q5, he, hq5, G, blp2, HK2, HL⟩
    cases he
    rw [HG.counts] at HK2
    replace blp2 := Nat.le_trans GG.size blp2
    replace kg1 := G.has kg1
    replace HD := HD.gro G
    replace HR := HR.gro G
    replace HK := HK.gro G
    replace HM := HM.gro G
    replace GG := GG.trans G
    clear G
    refine nr ?_; intro U h; simp only [z0, z1] at h; subst h
    refine s_val 83 rfl rfl (.tuple #[.pointer (some ⟨lp2, 0, none⟩), .slice ao5 q5.length cap5, .int .i64 0]) (rfl) ?_
    refine nr ?_; intro U h; simp only [z0, z1] at h; subst h
    refine s_val 86 rfl rfl (.pointer (some ⟨lp2, 0, none⟩)) (rfl) ?_
    refine nr ?_; intro U h; simp only [z0, z1] at h; subst h
    refine s_val 87 rfl rfl (.slice ao5 q5.length cap5) (rfl) ?_
    refine nr ?_; intro U h; simp only [z0, z1] at h; subst h
    refine s_val 88 rfl rfl (.int .i64 0) (rfl) ?_
    refine nr ?_; intro U h; simp only [z0, z1] at h; subst h
    refine s_val 7 rfl rfl (.pointer (some ⟨lp2, 0, none⟩)) (rfl) ?_
    refine nr ?_; intro U h; simp only [z0, z1] at h; subst h
    refine s_val 15 rfl rfl (.slice ao5 q5.length cap5) (rfl) ?_
    refine nr ?_; intro U h; simp only [z0, z1] at h; subst h
    refine s_val 9 rfl rfl (.int .i64 0) (rfl) ?_
    refine nr ?_; intro U h; simp only [z0, z1] at h; subst h
    refine wpList_nil ?_
    refine then_n ?_
    refine wp_seq ?_
    refine wp_region_lit ?_
    refine s_val 90 rfl rfl (.pointer (some ⟨rp, 0, none⟩)) (rfl) ?_
    refine nr ?_; intro U h; simp only [z0, z1] at h; subst h
    refine s_callx 91 rfl rfl _ 13 Try.call13 rfl rfl _ rfl [.pointer (some ⟨rp, 0, none⟩)] rfl (ropen_ok _ rp _ ro rc n _ _ _ HR (by omega) _ (HG.opens (by omega))) (fun _ _ ⟨_, _, _, _, he, _⟩ => ⟨_, he⟩) ?_
    rintro v w12 ⟨mp2, ao6, cap6, q6, he, hq6, G, bmp2, HM2, HQ⟩
    cases he
    rw [HG.counts] at HM2
    replace bmp2 := Nat.le_trans GG.size bmp2
    replace kg1 := G.has kg1
    replace HD := HD.gro G
    replace HR := HR.gro G
    replace HK := HK.gro G
    replace HM := HM.gro G
    replace HK2 := HK2.gro G
    replace HL := HL.gro G
    replace GG := GG.trans G
    clear G
    refine nr ?_; intro U h; simp only [z0, z1] at h; subst h
    have hq5l : q5.length < 9223372036854775807 := by have h1 := congrArg List.length hq5; rw [List.length_map] at h1; have := HG.num; have := HG.cnt; have := HG.fit; omega
    refine s_val 89 rfl rfl (.tuple #[.pointer (some ⟨mp2, 0, none⟩), .slice ao6 q6.length cap6, .int .i64 0]) (rfl) ?_
    refine nr ?_; intro U h; simp only [z0, z1] at h; subst h
    refine s_val 92 rfl rfl (.pointer (some ⟨mp2, 0, none⟩)) (rfl) ?_
    refine nr ?_; intro U h; simp only [z0, z1] at h; subst h
    refine s_val 93 rfl rfl (.slice ao6 q6.length cap6) (rfl) ?_
    refine nr ?_; intro U h; simp only [z0, z1] at h; subst h
    refine s_val 94 rfl rfl (.int .i64 0) (rfl) ?_
    refine nr ?_; intro U h; simp only [z0, z1] at h; subst h
    refine s_val 10 rfl rfl (.pointer (some ⟨mp2, 0, none⟩)) (rfl) ?_
    refine nr ?_; intro U h; simp only [z0, z1] at h; subst h
    refine s_val 16 rfl rfl (.slice ao6 q6.length cap6) (rfl) ?_
    refine nr ?_; intro U h; simp only [z0, z1] at h; subst h
    refine s_val 12 rfl rfl (.int .i64 0) (rfl) ?_
    refine nr ?_; intro U h; simp only [z0, z1] at h; subst h
    refine wpList_nil ?_
    refine then_n ?_
    refine wp_seq ?_
    refine wp_region_opq ?_
    intro OPS hY
    have y3 := hY 3 98 rfl
    clear hY
    refine s_val 95 rfl rfl (.int .i64 0) (rfl) ?_
    refine nr ?_; intro U h; simp only [z0, z1] at h; subst h
    refine s_val 96 rfl rfl (.int .i64 0) (rfl) ?_
    refine nr ?_; intro U h; simp only [z0, z1] at h; subst h
    refine s_val 97 rfl rfl (.bool false) (run_neq_k 31 .i64 _ _ _ rfl Try.underlying31 0 0 rfl rfl false rfl _) ?_
    refine nr ?_; intro U h; simp only [z0, z1] at h; subst h
    refine s_val 98 rfl rfl (.bool false) (rfl) ?_
    refine nr ?_; intro U h; simp only [z0, z1] at h; subst h
    refine s_gvalY 99 rfl rfl y3 rfl (.slice ao5 q5.length cap5) (rfl) ?_
    refine nr ?_; intro U h; simp only [z0, z1] at h; subst h
    refine s_gvalY 100 rfl rfl y3 rfl (.slice ao6 q6.length cap6) (rfl) ?_
    refine nr ?_; intro U h; simp only [z0, z1] at h; subst h
    refine s_gcallvY 101 rfl rfl y3 rfl _ 14 Try.call14 rfl rfl _ rfl [.slice ao5 q5.length cap5, .slice ao6 q6.length cap6] rfl (sameAll_t _ ao5 cap5 _ HL.lc ao6 cap6 _ HQ.lc q5.length q6.length (List.length_map _) (List.length_map _) hq5l (hq5.symm.trans hq6)) ?_
    intro w13 G
    replace kg1 := G.has kg1
    replace HD := HD.gro G
    replace HR := HR.gro G
    replace HK := HK.gro G
    replace HM := HM.gro G
    replace HK2 := HK2.gro G
    replace HL := HL.gro G
    replace HM2 := HM2.gro G
    replace HQ := HQ.gro G
    replace GG := GG.trans G
    clear G
    refine nr ?_; intro U h; simp only [z0, z1] at h; subst h
    refine s_gvalY 102 rfl rfl y3 rfl (.bool false) (run_nt _ _ rfl true rfl) ?_
    refine nr ?_; intro U h; simp only [z0, z1] at h; subst h
    refine s_val 103 rfl rfl (.bool false) (rfl) ?_
    refine nr ?_; intro U h; simp only [z0, z1] at h; subst h
    refine wpList_nil ?_
    refine then_n ?_
    refine wp_cond_false rfl ?_
    refine wp_skip ?_
    refine then_n ?_
    refine wp_exit ?_
    refine then_x ?_
    refine blk_x ?_
    refine then_n ?_
    refine wp_region_lit ?_
    refine s_val 161 rfl rfl (.int .i64 ((j + 1 : Nat) : Int)) (run_add64 _ _ _ rfl ((j : Nat) : Int) 1 _ rfl rfl (by omega) (by omega) (by omega) _) ?_
    refine nr ?_; intro U h; simp only [z0, z1] at h; subst h
    refine s_val 52 rfl rfl (.int .i64 ((j + 1 : Nat) : Int)) (rfl) ?_
    refine nr ?_; intro U h; simp only [z0, z1] at h; subst h
    refine wpList_nil ?_
    refine then_n ?_
    exact ⟨_, (by omega : os.length - (j + 1) < os.length - j), j + 1, dn, dr, _, L, h, false, rs, lp2, mp2, (fun kz => ([us1 0, .int .i64 0, .int .i64 0, .int .i64 ((j : Nat) : Int), .pointer (some ⟨g1, 0, none⟩), .slice ao5 q5.length cap5, .slice ao6 q6.length cap6, us1 7, us1 8, .bool true, .int .i64 ((j : Nat) : Int), .pointer (some (ad.add (j * 3))), .agg (c47 true q.i ⟨q.ao, q.l.length, q.cap⟩), .pointer (some ⟨lp, 0, none⟩), .bool false, .bool false, .pointer (some ⟨mp, 0, none⟩), .bool false, .bool false, .bool false, .int .i64 ((j : Nat) : Int), .bool false, .bool false, .pointer (some ⟨g1, 0, none⟩), .bool true, .pointer (some ⟨p, 0, none⟩), .pointer (some ⟨g1, 1, none⟩), .int .i64 q.i, .tuple #[], .pointer (some ⟨rp, 0, none⟩), .pointer (some ⟨g1, 1, none⟩), .int .i64 q.i, .int .i64 (max q.i (-1)), .pointer (some ⟨rp, 0, none⟩), .pointer (some ⟨rp, 1, none⟩), .pointer (some ⟨mp, 0, none⟩), .pointer (some ⟨mp, 0, none⟩), .pointer (some ⟨mp, 4, none⟩), .bool true, .tuple #[.pointer (some ⟨lp2, 0, none⟩), .slice ao5 q5.length cap5, .int .i64 0], .pointer (some ⟨p, 0, none⟩), .tuple #[.pointer (some ⟨lp2, 0, none⟩), .slice ao5 q5.length cap5, .int .i64 0], .pointer (some ⟨lp2, 0, none⟩), .slice ao5 q5.length cap5, .int .i64 0, .tuple #[.pointer (some ⟨mp2, 0, none⟩), .slice ao6 q6.length cap6, .int .i64 0], .pointer (some ⟨rp, 0, none⟩), .tuple #[.pointer (some ⟨mp2, 0, none⟩), .slice ao6 q6.length cap6, .int .i64 0], .pointer (some ⟨mp2, 0, none⟩), .slice ao6 q6.length cap6, .int .i64 0, .int .i64 0, .int .i64 0, .bool false, .bool false, .slice ao5 q5.length cap5, .slice ao6 q6.length cap6, .bool true, .bool false, .bool false, us1 60, us1 61, us1 62, us1 63, us1 64, us1 65, us1 66, us1 67, us1 68, us1 69, us1 70, us1 71, us1 72, us1 73, us1 74, us1 75, us1 76, us1 77, us1 78, us1 79, us1 80, us1 81, us1 82, us1 83, us1 84, us1 85, us1 86, us1 87, us1 88, us1 89, us1 90, us1 91, us1 92, us1 93, us1 94, us1 95, us1 96, us1 97, us1 98, us1 99, us1 100, us1 101, us1 102, us1 103, us1 104, us1 105, us1 106, us1 107, us1 108, us1 109, us1 110, us1 111, us1 112, us1 113, us1 114, us1 115, us1 116, .int .i64 ((j + 1 : Nat) : Int)] : List Value).getD kz undef), rfl, rfl, hjn, (by omega), ⟨by omega, by omega⟩, ⟨by omega, by omega⟩, okP.set (HO.num q hqm).2, (by omega), HG, blp2, bmp2, GG, HD, HR, HK2, HM2⟩
  refine s_val 66 rfl rfl (.bool true) (rfl) ?_
  refine nr ?_; intro U h; simp only [z0, z1] at h; subst h
  refine wpList_nil ?_
  refine then_n ?_
  refine wp_cond_true rfl ?_
  refine wp_exit ?_
  refine then_x ?_
  refine blk_xn (by decide) ?_
  refine then_x ?_
  refine then_x ?_
  refine blk_x ?_
  refine then_n ?_
  refine wp_seq ?_
  refine wp_region_lit ?_
  refine s_val 162 rfl rfl (.pointer (some ⟨lp, 0, none⟩)) (rfl) ?_
  refine nr ?_; intro U h; simp only [z0, z1] at h; subst h
  refine s_val 163 rfl rfl (.bool false) (run_eqnp 29 _ _ _ rfl _ rfl rfl Try.underlying29 _) ?_
  refine nr ?_; intro U h; simp only [z0, z1] at h; subst h
  refine s_val 164 rfl rfl (.pointer (some ⟨mp, 0, none⟩)) (rfl) ?_
  refine nr ?_; intro U h; simp only [z0, z1] at h; subst h
  refine s_val 165 rfl rfl (.bool false) (run_eqnp 34 _ _ _ rfl _ rfl rfl Try.underlying34 _) ?_
  refine nr ?_; intro U h; simp only [z0, z1] at h; subst h
  refine s_val 166 rfl rfl (.bool true) (run_eqB 4 _ _ _ rfl false false rfl rfl Try.underlying4 true rfl _) ?_
  refine nr ?_; intro U h; simp only [z0, z1] at h; subst h
  refine s_val 4 rfl rfl (.bool true) (rfl) ?_
  refine nr ?_; intro U h; simp only [z0, z1] at h; subst h
  refine wpList_nil ?_
  refine then_n ?_
  refine wp_ret ?_
  refine bodyPost_ret (results_tmp Try.results4 _ _ _) rfl ?_
  exact ⟨rfl, GG⟩
theorem slatePlays_any (w : World) (size : Int) (ao : Option Addr) (cap : Nat) (os : List OpW) (HO : OW w ao cap os) (hol : os.length ≤ 140737488355000) (hlens : ∀ o ∈ os, o.l.length ≤ 140737488355000) : Calls Try.prog 4 #[.int .i64 size, .slice ao os.length cap] w fun e w' => e = .returned (.bool true) ∧ Gro w w' := by
  by_cases hs : uN size % 40 < 3
  · exact slatePlays_small w size ao cap os HO hol hlens hs
  · exact slatePlays_big w size ao cap os HO hol hlens (by omega)
end Go.Proofs.Ytaejjmoocnpdaaa
