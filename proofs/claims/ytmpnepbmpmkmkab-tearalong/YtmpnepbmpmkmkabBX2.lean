/- The program's calls: what is taken away, and who is told. -/
import Derived.Test.YtmpnepbmpmkmkabBY0
import Derived.Test.YtmpnepbmpmkmkabBP11
namespace Go.Proofs.Ytmpnepbmpmkmkab
open Go.RowKit Go.Maps
/-- The sides of a path, one behind the other. -/
def sidesZ (l : List Int) (p : Pa) : Tn := l.foldl (fun a n => appT a (sideT n p)) tn0
theorem sidesZ_0 (T : Tn) (l : List Int) (p : Pa) : appT T (sidesZ (l.take 0) p) = T := by rw [List.take_zero]; exact appT_0 T
theorem sidesZ_s (T : Tn) {l : List Int} {i : Nat} (p : Pa) (hi : i < l.length) : appT T (sidesZ (l.take (i + 1)) p) = appT (appT T (sidesZ (l.take i) p)) (sideT (l.getD i 0) p) := by
  have e : l.take (i + 1) = l.take i ++ [l.getD i 0] := by
    rw [List.take_add_one, List.getElem?_eq_getElem hi, List.getD_eq_getElem?_getD, List.getElem?_eq_getElem hi]
    rfl
  rw [e, appT_assoc]
  simp [sidesZ]
theorem appT_lost {t : Tn} {n : Int} {p : Pa} (h : n < 0) : appT t (sideT n p) = ⟨t.out, t.lost ++ [p]⟩ := by rw [sideT_lost h]; simp [appT]
theorem appT_out {t : Tn} {n : Int} {p : Pa} (h : ¬ n < 0) : appT t (sideT n p) = ⟨t.out ++ [(n, p)], t.lost⟩ := by rw [sideT_out h]; simp [appT]
theorem sideT_len (n : Int) (p : Pa) : (sideT n p).out.length ≤ 1 ∧ (sideT n p).lost.length ≤ 1 := by
  unfold sideT
  split <;> simp
theorem sidesF_len (p : Pa) : ∀ (l : List Int) (a : Tn), (l.foldl (fun a n => appT a (sideT n p)) a).out.length ≤ a.out.length + l.length ∧ (l.foldl (fun a n => appT a (sideT n p)) a).lost.length ≤ a.lost.length + l.length
  | [], a => by simp
  | n :: r, a => by
    have h := sidesF_len p r (appT a (sideT n p))
    have h2 := sideT_len n p
    rw [List.foldl_cons]
    have e1 : (appT a (sideT n p)).out.length = a.out.length + (sideT n p).out.length := by simp [appT]
    have e2 : (appT a (sideT n p)).lost.length = a.lost.length + (sideT n p).lost.length := by simp [appT]
    rw [List.length_cons]
    omega
theorem sidesZ_len (T : Tn) (l : List Int) (p : Pa) : (appT T (sidesZ l p)).out.length ≤ T.out.length + l.length ∧ (appT T (sidesZ l p)).lost.length ≤ T.lost.length + l.length := by
  have h := sidesF_len p l tn0
  have e0 : tn0.out.length = 0 ∧ tn0.lost.length = 0 := ⟨rfl, rfl⟩
  have e1 : (appT T (sidesZ l p)).out.length = T.out.length + (sidesZ l p).out.length := by simp [appT]
  have e2 : (appT T (sidesZ l p)).lost.length = T.lost.length + (sidesZ l p).lost.length := by simp [appT]
  rw [e1, e2]
  unfold sidesZ
  omega
theorem sidesZ_1 (n : Int) (p : Pa) : sidesZ [n] p = sideT n p := by simp [sidesZ, appT, tn0]
theorem appT_nil (t : Tn) : appT tn0 t = t := by simp [appT, tn0]
section
variable {w w' : World} {B : Nat} {t : Tn} {ao : Option Addr} {c : Nat} {H : List Hp} {bo : Option Addr} {d : Nat}
theorem TnP.appL (h : TnP w B t ao c H bo d) {p : Pa} {bo2 : Option Addr} {d2 : Nat} (HO : OW kP 26 w' B bo2 d2 (t.lost ++ [p])) (G : GroS (Go.Proofs.Ytmpnepbmpmkmkab.blk bo) w w') : TnP w' B ⟨t.out, t.lost ++ [p]⟩ ao c H bo2 d2 :=
  ⟨h.out.gros G fun k hk hm => by
    obtain ⟨_, c9, hc⟩ := h.out.own.at k hk
    exact h.lost.own.ne hc (by decide) hm, HO, h.eq⟩
theorem TnP.appO (h : TnP w B t ao c H bo d) {x : Hp} {n : Int} {p : Pa} (hx : x.key = (n, p)) {ao2 : Option Addr} {c2 : Nat} (HO : OW kH 53 w' B ao2 c2 (H ++ [x])) (G : GroS (Go.Proofs.Ytmpnepbmpmkmkab.blk ao) w w') : TnP w' B ⟨t.out ++ [(n, p)], t.lost⟩ ao2 c2 (H ++ [x]) bo d :=
  ⟨HO, h.lost.gros G fun k hk hm => by
    obtain ⟨_, c9, hc⟩ := h.lost.own.at k hk
    exact h.out.own.ne hc (by decide) hm, by rw [List.map_append, h.eq]; simp [hx]⟩
end
/-- Onto one's own row, as the writer of a region. -/
theorem opX_appK {α : Type} {K : Kd α} {e t : TypeId} {s : Nat} {z : Value} {ops : Array Oper} {o : Oper} {A : Act} {w : World} {B : Nat} {ao ao' : Option Addr} {cap cap' : Nat} {l l' : List α} (R : RowT Try.prog t e K.sz s z) (kk : PostE) (hw : Region.wanted o (yielded ops A.tmps) = true) (a x : Operand)
    (ho : o.op = .call { callee := .builtin .append, args := #[a, x], argTypes := #[t, t] }) (hs : A.eval a = .slice ao l.length cap) (hown : OW K e w B ao cap l) (hx : A.eval x = .slice ao' l'.length cap') (hsrc : RK K w ao' cap' l') (hb : (l.length + l'.length) * s ≤ 140737488355328) (hs1 : 0 < s) (hB : B ≤ w.heap.size)
    (H : ∀ ao2 cap2 w', OW K e w' B ao2 cap2 (l ++ l') → GroS (Go.Proofs.Ytmpnepbmpmkmkab.blk ao) w w' → Kept w.heap.size ao ao2 → kk.p (.slice ao2 (l ++ l').length cap2) w') : OpX Try.prog ops (fun y => GroS (Go.Proofs.Ytmpnepbmpmkmkab.blk ao) w y) kk o A w := by
  refine opX_appY R kk hw a x ho hs hown.own hx hsrc.xc hb hs1 hB ?_
  intro ao2 cap2 w' h1 h2 h3
  rw [← List.flatMap_append, ← List.length_append] at h1
  have := H ao2 cap2 w' ⟨h1, fun x hx => (List.mem_append.1 hx).elim (hown.all x) (hsrc.all x)⟩ h2 h3
  rw [List.length_append] at this
  exact this
/-- What operations of such regions leave. -/
def dropE (p : Pa) : PostE := PostE.ex (fun v _ => ∃ a2 c2 s2 s3 s4, v = .agg (frA (frY (mDrop p) a2 c2 (gz s2 s3 s4))) ∧ (⟨0, p, ⟨a2, 0, c2⟩, s2, s3, s4⟩ : Hp).ok) (fun _ _ _ _ h => h)
def hopE (n : Int) (p : Pa) : PostE := PostE.ex (fun v _ => ∃ h : Hp, v = .agg (hopA h.n h.fr) ∧ h.ok ∧ h.key = (n, p)) (fun _ _ _ _ h => h)
def hrowE (SZ : Nat) (n : Int) (p : Pa) : PostE := PostE.ex (fun v x => ∃ (h : Hp) (q : Nat), v = .slice (some ⟨q, 0, none⟩) 1 1 ∧ SZ ≤ q ∧ x.heap[q]? = some (.cells ([h].flatMap kH.E).toArray 53 (0, 0)) ∧ h.ok ∧ h.key = (n, p)) (fun _ _ _ G ⟨h, q, h1, h2, h3, h4⟩ => ⟨h, q, h1, h2, G.has h3, h4⟩)
def appE (B : Nat) (H : List Hp) (n : Int) (p : Pa) : PostE := PostE.ex (fun v x => ∃ (h : Hp) (ao2 : Option Addr) (c2 : Nat), v = .slice ao2 (H ++ [h]).length c2 ∧ OW kH 53 x B ao2 c2 (H ++ [h]) ∧ h.key = (n, p)) (fun _ _ _ G ⟨h, a, c, h1, h2, h3⟩ => ⟨h, a, c, h1, h2.gro G, h3⟩)
def blkE (SZ : Nat) (cs : Array Value) (t : TypeId) (n : Nat) : PostE := PostE.ex (fun v x => ∃ q : Nat, v = .slice (some ⟨q, 0, none⟩) n n ∧ SZ ≤ q ∧ x.heap[q]? = some (.cells cs t (0, 0))) (fun _ _ _ G ⟨q, h1, h2, h3⟩ => ⟨q, h1, h2, G.has h3⟩)
theorem fill_dropE (p : Pa) (v : Value) : (dropE p).fill v = v := rfl
theorem fill_hopE (n : Int) (p : Pa) (v : Value) : (hopE n p).fill v = v := rfl
theorem fill_hrowE (SZ : Nat) (n : Int) (p : Pa) (v : Value) : (hrowE SZ n p).fill v = v := rfl
theorem fill_appE (B : Nat) (H : List Hp) (n : Int) (p : Pa) (v : Value) : (appE B H n p).fill v = v := rfl
theorem fill_blkE (SZ : Nat) (cs : Array Value) (t : TypeId) (n : Nat) (v : Value) : (blkE SZ cs t n).fill v = v := rfl
theorem bsHp (h : Hp) (w : World) : (Instr.buildSlice 32 1 #[(0, .agg (hopA h.n h.fr))]).run Try.prog w = .ok (.slice (some ⟨w.heap.size, 0, none⟩) 1 1) (w.alloc (.cells ([h].flatMap kH.E).toArray 53)) := by kernel_rfl
theorem bsZ1 (n : Int) (w : World) : (Instr.buildSlice 22 1 #[(0, .int .i64 n)]).run Try.prog w = .ok (.slice (some ⟨w.heap.size, 0, none⟩) 1 1) (w.alloc (.cells (([n] : List Int).flatMap kZ.E).toArray 3)) := by kernel_rfl
theorem I64.of_mem {l : List Int} (h : ∀ x ∈ l, I64 x) {i : Nat} (hi : i < l.length) : I64 (l.getD i 0) := by
  have : l.getD i 0 = l[i] := by simp [List.getD_eq_getElem?_getD, hi]
  rw [this]
  exact h _ (List.getElem_mem hi)
theorem ge_of_mem {l : List Int} (h : ∀ x ∈ l, -1 ≤ x) {i : Nat} (hi : i < l.length) : -1 ≤ l.getD i 0 := by
  have : l.getD i 0 = l[i] := by simp [List.getD_eq_getElem?_getD, hi]
  rw [this]
  exact h _ (List.getElem_mem hi)
set_option maxRecDepth 100000 in
set_option maxHeartbeats 4000000 in
theorem othS_any (w : World) (x : En) (n : Int) : Calls Try.prog 15 #[.agg (enA x), .int .i64 n] w (fun e w' => e = .returned (.int .i64 (othS x n)) ∧ Gro w w') := by
  refine s_enter Try.func15 rfl Try.ntmps15 [.agg (enA x), .int .i64 n] [.agg (enA x), .int .i64 n, undef, undef, undef, undef, undef, undef, undef, undef, undef, undef, undef] rfl ?_
  have GG := Gro.refl w
  refine wp_seq ?_
  refine wp_region_lit ?_
  refine s_box 2 rfl rfl 39 _ rfl _ rfl (enA x) rfl ?_
  intro w1 g1 G eg1 kg1
  have bg1 := size_base GG eg1
  replace GG := GG.trans G
  clear G
  clear eg1
  refine nr ?_; intro U h; simp only [z0, z1] at h; subst h
  refine s_val 4 rfl rfl (.int .i64 0) (rfl) ?_
  refine nr ?_; intro U h; simp only [z0, z1] at h; subst h
  refine wpList_nil ?_
  refine then_n ?_
  refine wp_seq ?_
  refine wp_seq ?_
  refine wp_region_lit ?_
  refine s_val 5 rfl rfl (.int .i64 n) (rfl) ?_
  refine nr ?_; intro U h; simp only [z0, z1] at h; subst h
  refine s_val 6 rfl rfl (.pointer (some ⟨g1, 49, none⟩)) (run_fld 39 _ 3 rfl g1 0 rfl 49 (by kernel_rfl)) ?_
  refine nr ?_; intro U h; simp only [z0, z1] at h; subst h
  refine s_val 7 rfl rfl (.int .i64 x.na) (ldEna _ rfl g1 rfl (kg1)) ?_
  refine nr ?_; intro U h; simp only [z0, z1] at h; subst h
  cases hq : decide (n = x.na)
  · refine s_val 8 rfl rfl (.bool false) (run_eq_k 3 .i64 _ _ _ rfl Try.underlying3 n x.na rfl rfl false hq _) ?_
    refine nr ?_; intro U h; simp only [z0, z1] at h; subst h
    refine wpList_nil ?_
    refine then_n ?_
    refine wp_cond_false rfl ?_
    refine wp_skip ?_
    refine then_n ?_
    refine wp_seq ?_
    refine wp_region_lit ?_
    refine s_val 11 rfl rfl (.pointer (some ⟨g1, 49, none⟩)) (run_fld 39 _ 3 rfl g1 0 rfl 49 (by kernel_rfl)) ?_
    refine nr ?_; intro U h; simp only [z0, z1] at h; subst h
    refine s_val 12 rfl rfl (.int .i64 x.na) (ldEna _ rfl g1 rfl (kg1)) ?_
    refine nr ?_; intro U h; simp only [z0, z1] at h; subst h
    refine s_val 4 rfl rfl (.int .i64 x.na) (rfl) ?_
    refine nr ?_; intro U h; simp only [z0, z1] at h; subst h
    refine wpList_nil ?_
    refine then_n ?_
    refine wp_ret ?_
    refine bodyPost_ret (results_tmp Try.results15 _ _ _) rfl ?_
    exact ⟨by rw [show othS x n = x.na from if_neg (fun e => of_decide_eq_false hq e.symm)]; rfl, GG⟩
  · refine s_val 8 rfl rfl (.bool true) (run_eq_k 3 .i64 _ _ _ rfl Try.underlying3 n x.na rfl rfl true hq _) ?_
    refine nr ?_; intro U h; simp only [z0, z1] at h; subst h
    refine wpList_nil ?_
    refine then_n ?_
    refine wp_cond_true rfl ?_
    refine wp_seq ?_
    refine wp_region_lit ?_
    refine s_val 9 rfl rfl (.pointer (some ⟨g1, 50, none⟩)) (run_fld 39 _ 4 rfl g1 0 rfl 50 (by kernel_rfl)) ?_
    refine nr ?_; intro U h; simp only [z0, z1] at h; subst h
    refine s_val 10 rfl rfl (.int .i64 x.nb) (ldEnb _ rfl g1 rfl (kg1)) ?_
    refine nr ?_; intro U h; simp only [z0, z1] at h; subst h
    refine s_val 4 rfl rfl (.int .i64 x.nb) (rfl) ?_
    refine nr ?_; intro U h; simp only [z0, z1] at h; subst h
    refine wpList_nil ?_
    refine then_n ?_
    refine wp_ret ?_
    refine then_r ?_
    refine bodyPost_ret (results_tmp Try.results15 _ _ _) rfl ?_
    exact ⟨by rw [show othS x n = x.nb from if_pos (of_decide_eq_true hq).symm]; rfl, GG⟩
def TakeP (w : World) (B b : Nat) (T : Tn) (L2 : List En) (e : Ending) (w' : World) : Prop := ∃ ao c H bo d, e = .returned (.agg (tnA ao H.length c bo T.lost.length d)) ∧ TnP w' B T ao c H bo d ∧ TM w' b L2 ∧ BelB B b w w'
set_option maxRecDepth 100000 in
set_option maxHeartbeats 4000000 in
theorem take_any (w : World) (t b room : Nat) (L : List En) (kt : w.heap[t]? = some (.cells (tbA room b) 69 (0, 0))) (HT : TM w b L) (p : Pa) (hp : p.ok) (T0 : Tn) (B : Nat) (hB : B ≤ w.heap.size) (ao0 : Option Addr) (c0 : Nat) (H0 : List Hp) (bo0 : Option Addr) (d0 : Nat) (HO : TnP w B T0 ao0 c0 H0 bo0 d0) (q : Nat) (sides : List Int) (kq : w.heap[q]? = some (.cells (sides.flatMap kZ.E).toArray 3 (0, 0))) (hsI : ∀ x ∈ sides, I64 x) (hsG : ∀ x ∈ sides, -1 ≤ x) (hlo : T0.out.length + sides.length ≤ 100000) (hll : T0.lost.length + sides.length ≤ 100000) : Calls Try.prog 14 #[.agg (tnA ao0 H0.length c0 bo0 (T0.lost).length d0), .pointer (some ⟨t, 0, none⟩), .agg (paA p), .slice (some ⟨q, 0, none⟩) sides.length sides.length] w (TakeP w B b (appT T0 (sidesZ sides p)) (delL p L)) := by
  refine s_enter Try.func14 rfl Try.ntmps14 [.agg (tnA ao0 H0.length c0 bo0 (T0.lost).length d0), .pointer (some ⟨t, 0, none⟩), .agg (paA p), .slice (some ⟨q, 0, none⟩) sides.length sides.length] [.agg (tnA ao0 H0.length c0 bo0 (T0.lost).length d0), .pointer (some ⟨t, 0, none⟩), .agg (paA p), .slice (some ⟨q, 0, none⟩) sides.length sides.length, undef, undef, undef, undef, undef, undef, undef, undef, undef, undef, undef, undef, undef, undef, undef, undef, undef, undef, undef, undef, undef, undef, undef, undef, undef, undef, undef, undef, undef, undef, undef, undef, undef, undef, undef, undef, undef] rfl ?_
  have GG := BelB.refl (b := b) hB
  refine wp_seq ?_
  refine wp_region_lit ?_
  refine s_box 4 rfl rfl 35 _ rfl _ rfl (tnA ao0 H0.length c0 bo0 (T0.lost).length d0) rfl ?_
  intro w1 g1 G eg1 kg1
  have bg1 := size_basB GG eg1
  have dtg1 := lt_new kt eg1
  have dqg1 := lt_new kq eg1
  have dHTg1 := HT.ne eg1
  replace kt := G.has kt
  replace kq := G.has kq
  replace HT := HT.gro G
  replace HO := HO.gro G
  replace GG := GG.tg G
  clear G
  clear eg1
  refine nr ?_; intro U h; simp only [z0, z1] at h; subst h
  refine s_box 6 rfl rfl 26 _ rfl _ rfl (paA p) rfl ?_
  intro w2 g2 G eg2 kg2
  have hn2 : g2 ∉ Go.Proofs.Ytmpnepbmpmkmkab.blk bo0 := fun hm9 => by have := HO.lost.own.lt g2 hm9; omega
  have bg2 := size_basB GG eg2
  have dtg2 := lt_new kt eg2
  have dqg2 := lt_new kq eg2
  have dg1g2 := lt_new kg1 eg2
  have dHTg2 := HT.ne eg2
  replace kt := G.has kt
  replace kq := G.has kq
  replace kg1 := G.has kg1
  replace HT := HT.gro G
  replace HO := HO.gro G
  replace GG := GG.tg G
  clear G
  clear eg2
  refine nr ?_; intro U h; simp only [z0, z1] at h; subst h
  refine s_alloc 8 rfl rfl 35 rfl _ zvT (tnA none 0 0 none 0 0) rfl ?_
  intro w3 g3 G eg3 kg3
  have bg3 := size_basB GG eg3
  have dtg3 := lt_new kt eg3
  have dqg3 := lt_new kq eg3
  have dg1g3 := lt_new kg1 eg3
  have dg2g3 := lt_new kg2 eg3
  have dHTg3 := HT.ne eg3
  replace kt := G.has kt
  replace kq := G.has kq
  replace kg1 := G.has kg1
  replace kg2 := G.has kg2
  replace HT := HT.gro G
  replace HO := HO.gro G
  replace GG := GG.tg G
  clear G
  clear eg3
  refine nr ?_; intro U h; simp only [z0, z1] at h; subst h
  refine wpList_nil ?_
  refine then_n ?_
  refine wp_seq ?_
  refine wp_region_lit ?_
  refine s_val 11 rfl rfl (.pointer (some ⟨t, 0, none⟩)) (rfl) ?_
  refine nr ?_; intro U h; simp only [z0, z1] at h; subst h
  refine s_val 12 rfl rfl (.agg (paA p)) (ldP0 _ rfl g2 rfl (kg2)) ?_
  refine nr ?_; intro U h; simp only [z0, z1] at h; subst h
  refine s_callx 13 rfl rfl _ 21 Try.call21 rfl rfl _ rfl [.pointer (some ⟨t, 0, none⟩), .agg (paA p)] rfl (rem_any _ t b room L (kt) (HT) p hp) (by rintro _ _ ⟨he, _⟩; exact ⟨_, he⟩) ?_
  rintro v w4 ⟨he, HT2, G2⟩
  cases he
  replace kt := G2.has kt (by simpa using HT.nec kt)
  replace kq := G2.has kq (by simpa using HT.nec kq)
  replace kg1 := G2.has kg1 (by simpa using HT.nec kg1)
  replace kg2 := G2.has kg2 (by simpa using HT.nec kg2)
  replace kg3 := G2.has kg3 (by simpa using HT.nec kg3)
  replace HO := HO.mapw HT G2
  replace GG := GG.gs G2 (fun k hk => .inr (by simpa using hk))
  clear HT G2
  have HT := HT2
  clear HT2
  refine nr ?_; intro U h; simp only [z0, z1] at h; subst h
  refine wpList_nil ?_
  refine then_n ?_
  refine wp_seq ?_
  refine wp_seq ?_
  refine wp_region_lit ?_
  refine s_val 14 rfl rfl (.slice (some ⟨q, 0, none⟩) sides.length sides.length) (rfl) ?_
  refine nr ?_; intro U h; simp only [z0, z1] at h; subst h
  refine s_val 15 rfl rfl (.int .i64 ((sides.length : Nat) : Int)) (run_len Try.underlying22 _ rfl _ _ _ rfl _) ?_
  refine nr ?_; intro U h; simp only [z0, z1] at h; subst h
  refine s_val 16 rfl rfl (.int .i64 0) (rfl) ?_
  refine nr ?_; intro U h; simp only [z0, z1] at h; subst h
  refine wpList_nil ?_
  refine then_n ?_
  refine wp_block ?_
  refine wp_loopN (fun mz az wv => ∃ (i : Nat) (ao : Option Addr) (c : Nat) (H : List Hp) (bo : Option Addr) (d : Nat) (us1 : Nat → Value), mz = sides.length + 1 - i ∧ az = ⟨[.agg (tnA ao0 H0.length c0 bo0 (T0.lost).length d0), .pointer (some ⟨t, 0, none⟩), .agg (paA p), .slice (some ⟨q, 0, none⟩) sides.length sides.length, .pointer (some ⟨g1, 0, none⟩), undef, .pointer (some ⟨g2, 0, none⟩), undef, .pointer (some ⟨g3, 0, none⟩), undef, us1 0, .pointer (some ⟨t, 0, none⟩), .agg (paA p), .tuple #[.agg (enA (getV L p)), .bool (hasL L p)], .slice (some ⟨q, 0, none⟩) sides.length sides.length, .int .i64 ((sides.length : Nat) : Int), .int .i64 ((i : Nat) : Int), us1 1, us1 2, us1 3, us1 4, us1 5, us1 6, us1 7, us1 8, us1 9, us1 10, us1 11, us1 12, us1 13, us1 14, us1 15, us1 16, us1 17, us1 18, us1 19, us1 20, us1 21, us1 22, us1 23, undef].toArray, []⟩ ∧ i ≤ sides.length ∧ BelB B b w wv ∧ wv.heap[t]? = some (.cells (tbA room b) 69 (0, 0)) ∧ wv.heap[q]? = some (.cells (sides.flatMap kZ.E).toArray 3 (0, 0)) ∧ wv.heap[g1]? = some (.cells (tnA ao H.length c bo (appT T0 (sidesZ (sides.take i) p)).lost.length d) 35 (0, 0)) ∧ wv.heap[g2]? = some (.cells (paA p) 26 (0, 0)) ∧ wv.heap[g3]? = some (.cells (tnA none 0 0 none 0 0) 35 (0, 0)) ∧ TM wv b (delL p L) ∧ TnP wv B (appT T0 (sidesZ (sides.take i) p)) ao c H bo d ∧ g2 ∉ Go.Proofs.Ytmpnepbmpmkmkab.blk bo) ?_ _ ⟨0, ao0, c0, H0, bo0, d0, (fun kz => ([undef, undef, undef, undef, undef, undef, undef, undef, undef, undef, undef, undef, undef, undef, undef, undef, undef, undef, undef, undef, undef, undef, undef, undef] : List Value).getD kz undef), rfl, rfl, Nat.zero_le _, GG, kt, kq, by rw [sidesZ_0]; exact kg1, kg2, kg3, HT, by rw [sidesZ_0]; exact HO, hn2⟩
  clear GG kt kq kg1 kg2 kg3 HT HO
  rintro mz az wv ⟨i, ao, c, H, bo, d, us1, rfl, rfl, hi, GG, kt, kq, kg1, kg2, kg3, HT, HO, hn2⟩
  have hlen := sidesZ_len T0 (sides.take i) p
  have htk : (sides.take i).length ≤ sides.length := by rw [List.length_take]; omega
  have hHl := HO.len
  refine wp_seq ?_
  refine wp_region_lit ?_
  cases hi1 : decide (((i : Nat) : Int) < ((sides.length : Nat) : Int))
  · have hie : i = sides.length := by have := of_decide_eq_false hi1; omega
    refine s_val 17 rfl rfl (.bool false) (run_lssT 3 _ _ _ rfl ((i : Nat) : Int) ((sides.length : Nat) : Int) rfl rfl false hi1 _) ?_
    refine nr ?_; intro U h; simp only [z0, z1] at h; subst h
    refine wpList_nil ?_
    refine then_n ?_
    refine wp_seq ?_
    refine wp_cond_false rfl ?_
    refine wp_exit ?_
    refine then_x ?_
    refine then_x ?_
    refine blk_x ?_
    refine then_n ?_
    refine wp_seq ?_
    refine wp_region_lit ?_
    refine s_val 40 rfl rfl (.agg (tnA ao H.length c bo (appT T0 (sidesZ (sides.take i) p)).lost.length d)) (ldT_0 _ rfl g1 rfl (kg1)) ?_
    refine nr ?_; intro U h; simp only [z0, z1] at h; subst h
    refine s_store rfl rfl 35 _ _ rfl g3 0 rfl (.agg (tnA ao H.length c bo (appT T0 (sidesZ (sides.take i) p)).lost.length d)) rfl 35 _ kg3 (tnA ao H.length c bo (appT T0 (sidesZ (sides.take i) p)).lost.length d) rfl (siT) (Nat.le_refl _) (oneT _ _ _ _ _ _) (tnA ao H.length c bo (appT T0 (sidesZ (sides.take i) p)).lost.length d) (splice_whole _ _ (rfl)) ?_
    intro w5 St
    have kS := kg3
    replace kt := St.has (by omega) kt
    replace kq := St.has (by omega) kq
    replace kg1 := St.has (by omega) kg1
    replace kg2 := St.has (by omega) kg2
    replace HT := HT.st St dHTg3
    replace HO := HO.st St kS (by decide) (by decide)
    replace GG := GG.st St (.inl bg3)
    replace kg3 := St.new
    clear St
    refine wpList_nil ?_
    refine then_n ?_
    refine wp_ret ?_
    refine bodyPost_ret (results_cell_row Try.results14 _ _ g3 35 _ (0, 0) _ rfl kg3 Try.underlying35 rfl (siT)) rfl ?_
    subst hie
    rw [List.take_length] at *
    exact ⟨ao, c, H, bo, d, rfl, HO, HT, GG⟩
  · have hil : i < sides.length := by have := of_decide_eq_true hi1; omega
    refine s_val 17 rfl rfl (.bool true) (run_lssT 3 _ _ _ rfl ((i : Nat) : Int) ((sides.length : Nat) : Int) rfl rfl true hi1 _) ?_
    refine nr ?_; intro U h; simp only [z0, z1] at h; subst h
    refine wpList_nil ?_
    refine then_n ?_
    refine wp_seq ?_
    refine wp_cond_true rfl ?_
    refine wp_skip ?_
    refine then_n ?_
    refine wp_seq ?_
    refine wp_block ?_
    refine wp_seq ?_
    refine wp_region_lit ?_
    refine s_val 18 rfl rfl (.pointer (pK kZ (some ⟨q, 0, none⟩) i 0)) (run_ixK rZ ((RK.blk (K := kZ) kq hsI (Nat.le_refl _))) _ _ rfl rfl i rfl (by omega)) ?_
    refine nr ?_; intro U h; simp only [z0, z1] at h; subst h
    refine s_val 19 rfl rfl (.int .i64 (sides.getD i 0)) (run_ldZ ((RK.blk (K := kZ) kq hsI (Nat.le_refl _))) _ rfl i rfl (by omega)) ?_
    refine nr ?_; intro U h; simp only [z0, z1] at h; subst h
    refine s_val 10 rfl rfl (.int .i64 (sides.getD i 0)) (rfl) ?_
    refine nr ?_; intro U h; simp only [z0, z1] at h; subst h
    refine wpList_nil ?_
    refine then_n ?_
    refine wp_seq ?_
    refine wp_region_lit ?_
    refine s_val 20 rfl rfl (.int .i64 (sides.getD i 0)) (rfl) ?_
    refine nr ?_; intro U h; simp only [z0, z1] at h; subst h
    cases hm : decide ((sides.getD i 0) = -1)
    · have hneg : ¬ (sides.getD i 0) < 0 := by have h1 := ge_of_mem hsG hil; have h2 := of_decide_eq_false hm; omega
      refine s_val 21 rfl rfl (.bool false) (run_eq_k 3 .i64 _ _ _ rfl Try.underlying3 (sides.getD i 0) (-1) rfl rfl false hm _) ?_
      refine nr ?_; intro U h; simp only [z0, z1] at h; subst h
      refine wpList_nil ?_
      refine then_n ?_
      refine wp_cond_false rfl ?_
      obtain ⟨SZ, hSZ⟩ : ∃ m, wv.heap.size = m := ⟨_, rfl⟩
      have hni := I64.of_mem hsI hil
      refine wp_region_pg (A := ?Ax1) (Go.Proofs.Ytmpnepbmpmkmkab.blk ao) 11 [(0, 28), (1, 29), (2, 30), (3, 31), (4, 32), (5, 33), (6, 34), (7, 35), (8, 36), (9, 37), (10, 38)] [.val (.pointer (some ⟨g1, 0, none⟩)), .val (.slice ao H.length c), .val (.int .i64 (sides.getD i 0)), .val (.agg (paA p)), .val (.agg (drA p)), .val (.iface 75 (.agg (drA p))), dropE p, hopE (sides.getD i 0) p, hrowE SZ (sides.getD i 0) p, appE B H (sides.getD i 0) p, .val (.pointer (some ⟨g1, 0, none⟩))] 9 follows (by kernel_rfl) rfl (by decide) (hav_mix [0, 1, 2, 3, 4, 5, 10] [6, 7, 8] (by decide) ⟨⟨_, rfl⟩, ⟨_, rfl⟩, ⟨_, rfl⟩, ⟨_, rfl⟩, ⟨_, rfl⟩, ⟨_, rfl⟩, ⟨_, rfl⟩, trivial⟩ ?hvx1) ?hAx1 (opsG_a (by decide) ?o0x1 (opsG_a (by decide) ?o1x1 (opsG_a (by decide) ?o2x1 (opsG_a (by decide) ?o3x1 (opsG_a (by decide) ?o4x1 (opsG_a (by decide) ?o5x1 (opsG_a (by decide) ?o6x1 (opsG_a (by decide) ?o7x1 (opsG_a (by decide) ?o8x1 (opsG_e ?o9x1 (opsG_a (by decide) ?o10x1 opsG_nil))))))))))) ?restx1
      case hvx1 =>
        intro j hj v a b9 ha hb9 hp9
        simp only [List.mem_cons, List.not_mem_nil, or_false] at hj
        rcases hj with rfl | rfl | rfl
        · exact hp9
        · exact hp9
        · obtain ⟨h, q9, h1, h2, h3, h4⟩ := hp9
          exact ⟨h, q9, h1, h2, hb9.has h3 (fun hm9 => by have := HO.out.own.lt q9 hm9; omega), h4⟩
      case hAx1 =>
        intro ptrs
        simp only [full, foldSlots, filledE, postE, List.foldl_cons, List.foldl_nil, List.getD_cons_zero, List.getD_cons_succ, fill_val, fill_dropE, fill_hopE, fill_hrowE, fill_appE, List.set_cons_zero, List.set_cons_succ]
        exact rfl
      case o0x1 => exact fun _ _ _ _ => opE_value (v := .pointer (some ⟨g1, 0, none⟩)) rfl (run_fld 35 _ 0 rfl g1 0 rfl 0 (by kernel_rfl))
      case o1x1 => exact fun _ _ hw _ => opE_value (v := .slice ao H.length c) rfl (ldT_o _ rfl g1 rfl (hw.has kg1 (HO.out.own.ne kg1 (by decide))))
      case o2x1 => exact fun _ _ _ _ => opE_move (v := .int .i64 (sides.getD i 0)) _ rfl rfl rfl
      case o3x1 => exact fun _ _ hw _ => opE_value (v := .agg (paA p)) rfl (ldP0 _ rfl g2 rfl (hw.has kg2 (HO.out.own.ne kg2 (by decide))))
      case o4x1 => exact fun _ _ _ _ => opE_value (v := .agg (drA p)) rfl (run_bd 75 _ rfl [(0, .agg (paA p))] rfl _ (bdR1 _ _))
      case o5x1 => exact fun _ _ _ _ => opE_value (v := .iface 75 (.agg (drA p))) rfl (run_mk 75 _ rfl _ rfl (by kernel_rfl))
      case o6x1 => exact fun _ _ _ _ => opE_call (dropE p) rfl _ 22 Try.call22 rfl rfl _ rfl [.iface 75 (.agg (drA p))] rfl ((plain5 _ p).mono fun e w' ⟨a2, c2, s2, s3, s4, he, hg, HF⟩ => ⟨_, he, hg, a2, c2, s2, s3, s4, rfl, hp_of hp I64.z HF⟩)
      case o7x1 =>
        intro ptrs x hw hE
        obtain ⟨⟨a2, c2, s2, s3, s4, h6, hok⟩, _⟩ := hE
        exact opE_new (hopE (sides.getD i 0) p) rfl (run_bd 53 _ rfl [(0, .int .i64 (sides.getD i 0)), (1, .agg (frA (frY (mDrop p) a2 c2 (gz s2 s3 s4))))] (by show [(0, Value.int .i64 (sides.getD i 0)), (1, ptrs 6)] = _; rw [h6]) _ (bdH2 _ _ _)) (Gro.refl _) ⟨⟨(sides.getD i 0), p, ⟨a2, 0, c2⟩, s2, s3, s4⟩, rfl, ⟨hni, hp, hok.s1, hok.s2, hok.s3, hok.s4⟩, rfl⟩
      case o8x1 =>
        intro ptrs x hw hE
        obtain ⟨⟨h, h7, hok, hkey⟩, _⟩ := hE
        exact opE_new (hrowE SZ (sides.getD i 0) p) rfl (run_bsl 32 1 _ rfl [(0, .agg (hopA h.n h.fr))] (by show [(0, ptrs 7)] = _; rw [h7]) (bsHp h _)) (gro_alloc _ _) ⟨h, _, rfl, Nat.le_trans (Nat.le_of_eq hSZ.symm) hw.size, heap_alloc_new _ _, hok, hkey⟩
      case o9x1 =>
        intro ptrs x hw hE
        obtain ⟨⟨h, q9, h8, _, k9, hok, hkey⟩, _⟩ := hE
        refine opX_appK rH (appE B H (sides.getD i 0) p) rfl _ _ rfl rfl (HO.out.gro ((Gro.refl _).drew.trans hw)) (l' := [h]) (by exact h8) (RK.blk (K := kH) k9 (one_all hok) (Nat.le_refl _)) (by show (_ + 1) * 272 ≤ _; omega) (by decide) (Nat.le_trans (Nat.le_trans GG.hB GG.size) hw.size) ?_
        intro ao2 c2 w9 HO2 _ _
        exact ⟨h, ao2, c2, rfl, HO2, hkey⟩
      case o10x1 => exact fun _ _ _ _ => opE_value (v := .pointer (some ⟨g1, 0, none⟩)) rfl (run_fld 35 _ 0 rfl g1 0 rfl 0 (by kernel_rfl))
      intro ptrs w5 GD hxE
      simp only [List.drop_succ_cons, List.drop_zero]
      obtain ⟨_, _, _, ⟨h9, ao9, c9, hx9, HO2, hkey⟩, _⟩ := hxE
      simp only [hx9]
      replace kt := GD.has kt (HO.out.own.ne kt (by decide))
      replace kq := GD.has kq (HO.out.own.ne kq (by decide))
      replace kg1 := GD.has kg1 (HO.out.own.ne kg1 (by decide))
      replace kg2 := GD.has kg2 (HO.out.own.ne kg2 (by decide))
      replace kg3 := GD.has kg3 (HO.out.own.ne kg3 (by decide))
      replace HT := (HT.gro (Gro.refl _).drew).gros GD (fun hm9 => by obtain ⟨_, c8, hc9⟩ := HO.out.own.at b hm9; exact HT.nec hc9 rfl)
      replace GG := GG.drew.gs GD (fun k hk => .inl (HO.out.own.base k hk))
      replace HO := (HO.gro (Gro.refl _).drew).appO hkey HO2 GD
      clear hx9 HO2 GD hSZ
      refine s_store rfl rfl 32 _ _ rfl g1 0 rfl (.slice ao9 (H ++ [h9]).length c9) rfl 35 _ kg1 #[.slice ao9 (H ++ [h9]).length c9] rfl (siRH) (by show 0 + 1 ≤ 2; omega) (sl_one _ _ _) (tnA ao9 (H ++ [h9]).length c9 bo (appT T0 (sidesZ (sides.take i) p)).lost.length d) (spT_0 _ _ _ _ _ _ _ _ _) ?_
      intro w6 St
      have kS := kg1
      replace kt := St.has (by omega) kt
      replace kq := St.has (by omega) kq
      replace kg2 := St.has (by omega) kg2
      replace kg3 := St.has (by omega) kg3
      replace HT := HT.st St dHTg1
      replace HO := HO.st St kS (by decide) (by decide)
      replace GG := GG.st St (.inl bg1)
      replace kg1 := St.new
      clear St
      refine wpList_nil ?_
      refine blk_n ?_
      refine then_n ?_
      refine wp_region_lit ?_
      refine s_val 39 rfl rfl (.int .i64 ((i + 1 : Nat) : Int)) (run_addI 3 _ _ _ rfl ((i : Nat) : Int) 1 ((i + 1 : Nat) : Int) rfl rfl (by omega) (by omega) (by omega) _) ?_
      refine nr ?_; intro U h; simp only [z0, z1] at h; subst h
      refine s_val 16 rfl rfl (.int .i64 ((i + 1 : Nat) : Int)) (rfl) ?_
      refine nr ?_; intro U h; simp only [z0, z1] at h; subst h
      refine wpList_nil ?_
      refine then_n ?_
      exact ⟨sides.length + 1 - (i + 1), by omega, i + 1, ao9, c9, (H ++ [h9]), bo, d, (fun kz => ([.int .i64 (sides.getD i 0), .bool true, .pointer (pK kZ (some ⟨q, 0, none⟩) i 0), .int .i64 (sides.getD i 0), .int .i64 (sides.getD i 0), .bool false, us1 6, us1 7, us1 8, us1 9, us1 10, us1 11, .pointer (some ⟨g1, 0, none⟩), .slice ao H.length c, .int .i64 (sides.getD i 0), .agg (paA p), .agg (drA p), .iface 75 (.agg (drA p)), ptrs 6, ptrs 7, ptrs 8, .slice ao9 (H ++ [h9]).length c9, .pointer (some ⟨g1, 0, none⟩), .int .i64 ((i + 1 : Nat) : Int)] : List Value).getD kz undef), rfl, rfl, by omega, GG, kt, kq, by rw [sidesZ_s T0 p hil, appT_out hneg]; exact kg1, kg2, kg3, HT, by rw [sidesZ_s T0 p hil, appT_out hneg]; exact HO, hn2⟩
    · have hneg : (sides.getD i 0) < 0 := by have h2 := of_decide_eq_true hm; omega
      refine s_val 21 rfl rfl (.bool true) (run_eq_k 3 .i64 _ _ _ rfl Try.underlying3 (sides.getD i 0) (-1) rfl rfl true hm _) ?_
      refine nr ?_; intro U h; simp only [z0, z1] at h; subst h
      refine wpList_nil ?_
      refine then_n ?_
      refine wp_cond_true rfl ?_
      refine wp_region_lit ?_
      refine s_val 22 rfl rfl (.pointer (some ⟨g1, 1, none⟩)) (run_fld 35 _ 1 rfl g1 0 rfl 1 (by kernel_rfl)) ?_
      refine nr ?_; intro U h; simp only [z0, z1] at h; subst h
      refine s_val 23 rfl rfl (.slice bo (appT T0 (sidesZ (sides.take i) p)).lost.length d) (ldT_l _ rfl g1 rfl (kg1)) ?_
      refine nr ?_; intro U h; simp only [z0, z1] at h; subst h
      refine s_val 24 rfl rfl (.agg (paA p)) (ldP0 _ rfl g2 rfl (kg2)) ?_
      refine nr ?_; intro U h; simp only [z0, z1] at h; subst h
      refine s_bsl 25 rfl rfl 33 1 _ rfl [(0, .agg (paA p))] rfl (([p] : List Pa).flatMap kP.E).toArray 26 (by kernel_rfl) ?_
      intro w5 q2 G eq2 kq2
      have bq2 := size_basB GG eq2
      have dtq2 := lt_new kt eq2
      have dqq2 := lt_new kq eq2
      have dg1q2 := lt_new kg1 eq2
      have dg2q2 := lt_new kg2 eq2
      have dg3q2 := lt_new kg3 eq2
      have dHTq2 := HT.ne eq2
      replace kt := G.has kt
      replace kq := G.has kq
      replace kg1 := G.has kg1
      replace kg2 := G.has kg2
      replace kg3 := G.has kg3
      replace HT := HT.gro G
      replace HO := HO.gro G
      replace GG := GG.tg G
      clear G
      clear eq2
      refine nr ?_; intro U h; simp only [z0, z1] at h; subst h
      refine s_appK rP (by decide) (by decide) 26 rfl rfl _ _ rfl rfl HO.lost (l' := [p]) rfl (RK.blk (K := kP) kq2 (one_all hp) (Nat.le_refl _)) (by show _ + 1 ≤ _; omega) (Nat.le_trans GG.hB GG.size) ?_
      intro bo9 d9 w6 HO2 G2 hK
      have hn3 : g2 ∉ Go.Proofs.Ytmpnepbmpmkmkab.blk bo9 := fun hm9 => (hK g2 hm9).elim hn2 (fun h => by have := lt_of_heap kg2; omega)
      replace kg2 := G2.has kg2 hn2
      replace kt := G2.has kt (HO.lost.own.ne kt (by decide))
      replace kq := G2.has kq (HO.lost.own.ne kq (by decide))
      replace kg1 := G2.has kg1 (HO.lost.own.ne kg1 (by decide))
      replace kg3 := G2.has kg3 (HO.lost.own.ne kg3 (by decide))
      replace HT := HT.gros G2 (fun hm9 => by obtain ⟨_, c9, hc9⟩ := HO.lost.own.at b hm9; exact HT.nec hc9 rfl)
      replace GG := GG.gs G2 (fun k hk => .inl (HO.lost.own.base k hk))
      replace HO := HO.appL HO2 G2
      clear G2 hK hn2 kq2
      have hn2 := hn3
      clear hn3 HO2
      refine nr ?_; intro U h; simp only [z0, z1] at h; subst h
      refine s_val 27 rfl rfl (.pointer (some ⟨g1, 1, none⟩)) (run_fld 35 _ 1 rfl g1 0 rfl 1 (by kernel_rfl)) ?_
      refine nr ?_; intro U h; simp only [z0, z1] at h; subst h
      refine s_store rfl rfl 33 _ _ rfl g1 1 rfl (.slice bo9 ((appT T0 (sidesZ (sides.take i) p)).lost ++ [p]).length d9) rfl 35 _ kg1 #[.slice bo9 ((appT T0 (sidesZ (sides.take i) p)).lost ++ [p]).length d9] rfl (siRP) (by show 1 + 1 ≤ 2; omega) (sl_one _ _ _) (tnA ao H.length c bo9 ((appT T0 (sidesZ (sides.take i) p)).lost ++ [p]).length d9) (spT_1 _ _ _ _ _ _ _ _ _) ?_
      intro w7 St
      have kS := kg1
      replace kt := St.has (by omega) kt
      replace kq := St.has (by omega) kq
      replace kg2 := St.has (by omega) kg2
      replace kg3 := St.has (by omega) kg3
      replace HT := HT.st St dHTg1
      replace HO := HO.st St kS (by decide) (by decide)
      replace GG := GG.st St (.inl bg1)
      replace kg1 := St.new
      clear St
      refine wpList_nil ?_
      refine blk_n ?_
      refine then_n ?_
      refine wp_region_lit ?_
      refine s_val 39 rfl rfl (.int .i64 ((i + 1 : Nat) : Int)) (run_addI 3 _ _ _ rfl ((i : Nat) : Int) 1 ((i + 1 : Nat) : Int) rfl rfl (by omega) (by omega) (by omega) _) ?_
      refine nr ?_; intro U h; simp only [z0, z1] at h; subst h
      refine s_val 16 rfl rfl (.int .i64 ((i + 1 : Nat) : Int)) (rfl) ?_
      refine nr ?_; intro U h; simp only [z0, z1] at h; subst h
      refine wpList_nil ?_
      refine then_n ?_
      exact ⟨sides.length + 1 - (i + 1), by omega, i + 1, ao, c, H, bo9, d9, (fun kz => ([.int .i64 (sides.getD i 0), .bool true, .pointer (pK kZ (some ⟨q, 0, none⟩) i 0), .int .i64 (sides.getD i 0), .int .i64 (sides.getD i 0), .bool true, .pointer (some ⟨g1, 1, none⟩), .slice bo (appT T0 (sidesZ (sides.take i) p)).lost.length d, .agg (paA p), .slice (some ⟨q2, 0, none⟩) 1 1, .slice bo9 ((appT T0 (sidesZ (sides.take i) p)).lost ++ [p]).length d9, .pointer (some ⟨g1, 1, none⟩), us1 12, us1 13, us1 14, us1 15, us1 16, us1 17, us1 18, us1 19, us1 20, us1 21, us1 22, .int .i64 ((i + 1 : Nat) : Int)] : List Value).getD kz undef), rfl, rfl, by omega, GG, kt, kq, by rw [sidesZ_s T0 p hil, appT_lost hneg]; exact kg1, kg2, kg3, HT, by rw [sidesZ_s T0 p hil, appT_lost hneg]; exact HO, hn2⟩
end Go.Proofs.Ytmpnepbmpmkmkab
