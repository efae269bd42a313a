/- An end that is down, or nil (HelloDown). -/
import Derived.Test.YtlfanecaglbomaaBH8
import Derived.Test.YtlfanecaglbomaaBGB1
namespace Go.Proofs.Ytlfanecaglbomaa
open Go.RowKit
/-- An end that is down. -/
def DownE (w : World) (p : Nat) (id : Nat → Nat) : Prop := ∃ wp B, EW w p wp B id false false 0 0 0 0 zF none 0 [] 0 0
theorem DownE.gro {w w' : World} {p : Nat} {id : Nat → Nat} (h : DownE w p id) (G : Gro w w') : DownE w' p id := by
  obtain ⟨wp, B, h⟩ := h
  exact ⟨wp, B, h.gro G⟩
theorem DownE.stT {w w' : World} {p : Nat} {id : Nat → Nat} (H : DownE w p id) {g : Nat} {t' : TypeId} (h98 : (98 : TypeId) ≠ t') (h121 : (121 : TypeId) ≠ t') (h36 : t' ≠ 36) (h5 : t' ≠ 5) {cs : Array Value} {x : Obj} (hg : w.heap[g]? = some (.cells cs t' (0, 0))) (St : Stored w w' g x) : DownE w' p id := by
  obtain ⟨wp, B, h⟩ := H
  exact ⟨wp, B, h.stT h98 h121 h36 h5 hg St⟩
set_option maxRecDepth 100000 in
set_option maxHeartbeats 4000000 in
theorem tick_down0 (w : World) (p wp B : Nat) (id : Nat → Nat) (op : Bool) (mi mn pi pn : Int) (oth : Nat → Nat) (ro : Option Addr) (rc : Nat) (q : List RV) (k c : Nat) (H : EW w p wp B id false op mi mn pi pn oth ro rc q k c) : Calls Try.prog 14 #[.pointer (some ⟨p, 0, none⟩)] w fun e w' => e = .returned (.slice none 0 0) ∧ Gro w w' := by
  refine s_enter Try.func14 rfl Try.ntmps14 [.pointer (some ⟨p, 0, none⟩)] [.pointer (some ⟨p, 0, none⟩), undef, undef, undef, undef, undef, undef, undef, undef, undef, undef, undef, undef, undef, undef, undef, undef, undef, undef, undef, undef, undef, undef, undef, undef, undef, undef, undef, undef, undef, undef, undef, undef, undef, undef, undef, undef, undef, undef, undef, undef, undef, undef, undef, undef, undef, undef, undef] rfl ?_
  have GG := Gro.refl w
  have kp := H.box
  have HW := H.win
  have hpl := lt_of_heap kp
  refine wp_seq ?_
  refine wp_region_lit ?_
  refine s_val 2 rfl rfl (.slice none 0 0) (rfl) ?_
  refine nr ?_; intro U h; simp only [z0, z1] at h; subst h
  refine wpList_nil ?_
  refine then_n ?_
  refine wp_seq ?_
  refine wp_seq ?_
  refine wp_region_lit ?_
  refine s_val 8 rfl rfl (.pointer (some ⟨p, 0, none⟩)) (rfl) ?_
  refine nr ?_; intro U h; simp only [z0, z1] at h; subst h
  refine s_callv 9 rfl rfl _ 28 Try.call28 rfl rfl _ rfl [.pointer (some ⟨p, 0, none⟩)] rfl (up_any _ p wp B id false op mi mn pi pn oth ro rc q k c ⟨kp, HW⟩) ?_
  intro w1 G
  replace kp := G.has kp
  replace HW := HW.gro G
  replace GG := GG.trans G
  clear G
  refine nr ?_; intro U h; simp only [z0, z1] at h; subst h
  refine s_val 10 rfl rfl (.bool true) (run_nt _ _ rfl false rfl) ?_
  refine nr ?_; intro U h; simp only [z0, z1] at h; subst h
  refine wpList_nil ?_
  refine then_n ?_
  refine wp_cond_true rfl ?_
  refine wp_seq ?_
  refine wp_region_lit ?_
  refine s_val 2 rfl rfl (.slice none 0 0) (rfl) ?_
  refine nr ?_; intro U h; simp only [z0, z1] at h; subst h
  refine wpList_nil ?_
  refine then_n ?_
  refine wp_ret ?_
  refine then_r ?_
  refine bodyPost_ret (results_tmp Try.results14 _ _ _) rfl ?_
  exact ⟨rfl, GG⟩
set_option maxRecDepth 100000 in
set_option maxHeartbeats 4000000 in
theorem hear_down0 (w : World) (p wp B : Nat) (id : Nat → Nat) (op : Bool) (mi mn pi pn : Int) (oth : Nat → Nat) (ro : Option Addr) (rc : Nat) (q : List RV) (k c : Nat) (H : EW w p wp B id false op mi mn pi pn oth ro rc q k c) (f : Fr) (ni nn : Int) : Calls Try.prog 20 #[.pointer (some ⟨p, 0, none⟩), .agg (c46 f.kind f.pw f.pn f.toA f.a f.b f.n f.fi f.fn f.ti f.tn f.tr f.ids f.key f.vn f.vw f.val f.op f.ttl f.tx), .agg (c29 ni nn)] w fun e w' => e = .returned (.agg (c59 false false Sl.nil false Sl.nil)) ∧ Gro w w' := by
  refine s_enter Try.func20 rfl Try.ntmps20 [.pointer (some ⟨p, 0, none⟩), .agg (c46 f.kind f.pw f.pn f.toA f.a f.b f.n f.fi f.fn f.ti f.tn f.tr f.ids f.key f.vn f.vw f.val f.op f.ttl f.tx), .agg (c29 ni nn)] [.pointer (some ⟨p, 0, none⟩), .agg (c46 f.kind f.pw f.pn f.toA f.a f.b f.n f.fi f.fn f.ti f.tn f.tr f.ids f.key f.vn f.vw f.val f.op f.ttl f.tx), .agg (c29 ni nn), undef, undef, undef, undef, undef, undef, undef, undef, undef, undef, undef, undef, undef, undef, undef, undef, undef, undef, undef, undef, undef, undef, undef, undef, undef, undef, undef, undef, undef, undef] rfl ?_
  have GG := Gro.refl w
  have kp := H.box
  have HW := H.win
  have hpl := lt_of_heap kp
  refine wp_seq ?_
  refine wp_region_lit ?_
  refine s_box 4 rfl rfl 46 _ rfl _ rfl (c46 f.kind f.pw f.pn f.toA f.a f.b f.n f.fi f.fn f.ti f.tn f.tr f.ids f.key f.vn f.vw f.val f.op f.ttl f.tx) rfl ?_
  intro w1 g1 G eg1 kg1
  have bg1 := size_base GG eg1
  have dpg1 := lt_new kp eg1
  replace kp := G.has kp
  replace HW := HW.gro G
  replace GG := GG.trans G
  clear G eg1
  refine nr ?_; intro U h; simp only [z0, z1] at h; subst h
  refine s_box 5 rfl rfl 29 _ rfl _ rfl (c29 ni nn) rfl ?_
  intro w2 g2 G eg2 kg2
  have bg2 := size_base GG eg2
  have dpg2 := lt_new kp eg2
  have dg1g2 := lt_new kg1 eg2
  replace kp := G.has kp
  replace kg1 := G.has kg1
  replace HW := HW.gro G
  replace GG := GG.trans G
  clear G eg2
  refine nr ?_; intro U h; simp only [z0, z1] at h; subst h
  refine s_alloc 6 rfl rfl 59 rfl _ zv59 _ rfl ?_
  intro w3 g3 G eg3 kg3
  have bg3 := size_base GG eg3
  have dpg3 := lt_new kp eg3
  have dg1g3 := lt_new kg1 eg3
  have dg2g3 := lt_new kg2 eg3
  replace kp := G.has kp
  replace kg1 := G.has kg1
  replace kg2 := G.has kg2
  replace HW := HW.gro G
  replace GG := GG.trans G
  clear G eg3
  refine nr ?_; intro U h; simp only [z0, z1] at h; subst h
  refine wpList_nil ?_
  refine then_n ?_
  refine wp_seq ?_
  refine wp_seq ?_
  refine wp_region_lit ?_
  refine s_val 11 rfl rfl (.pointer (some ⟨p, 0, none⟩)) (rfl) ?_
  refine nr ?_; intro U h; simp only [z0, z1] at h; subst h
  refine s_callv 12 rfl rfl _ 28 Try.call28 rfl rfl _ rfl [.pointer (some ⟨p, 0, none⟩)] rfl (up_any _ p wp B id false op mi mn pi pn oth ro rc q k c ⟨kp, HW⟩) ?_
  intro w4 G
  replace kp := G.has kp
  replace kg1 := G.has kg1
  replace kg2 := G.has kg2
  replace kg3 := G.has kg3
  replace HW := HW.gro G
  replace GG := GG.trans G
  clear G
  refine nr ?_; intro U h; simp only [z0, z1] at h; subst h
  refine s_val 13 rfl rfl (.bool true) (run_nt _ _ rfl false rfl) ?_
  refine nr ?_; intro U h; simp only [z0, z1] at h; subst h
  refine wpList_nil ?_
  refine then_n ?_
  refine wp_cond_true rfl ?_
  refine wp_seq ?_
  refine wp_region_lit ?_
  refine s_val 14 rfl rfl (.agg (c59 false false Sl.nil false Sl.nil)) (run_bd 59 _ rfl [] rfl _ (by kernel_rfl)) ?_
  refine nr ?_; intro U h; simp only [z0, z1] at h; subst h
  refine s_store rfl rfl 59 _ _ rfl g3 0 rfl (.agg (c59 false false Sl.nil false Sl.nil)) rfl 59 _ kg3 (c59 false false Sl.nil false Sl.nil) rfl (by kernel_rfl) (Nat.le_of_ble_eq_true rfl) (by kernel_rfl) (c59 false false Sl.nil false Sl.nil) (by kernel_rfl) ?_
  intro w6 St
  replace kp := St.has (by omega) kp
  replace kg1 := St.has (by omega) kg1
  replace kg2 := St.has (by omega) kg2
  replace HW := HW.stT (by decide) (by decide) (by decide) kg3 St
  replace GG := GG.store St bg3
  replace kg3 := St.new
  clear St
  refine wpList_nil ?_
  refine then_n ?_
  refine wp_ret ?_
  refine then_r ?_
  refine bodyPost_ret (results_cell_row Try.results20 _ _ g3 59 _ (0, 0) _ rfl kg3 Try.underlying59 rfl (by kernel_rfl)) rfl ?_
  exact ⟨rfl, GG⟩
section
variable (w : World) (p : Nat) (id : Nat → Nat)
theorem up_d (H : DownE w p id) : Calls Try.prog 28 #[.pointer (some ⟨p, 0, none⟩)] w fun e w' => e = .returned (.bool false) ∧ Gro w w' := by
  obtain ⟨wp, B, h⟩ := H
  exact up_any w p wp B id false false 0 0 0 0 zF none 0 [] 0 0 h
theorem tick_d (H : DownE w p id) : Calls Try.prog 14 #[.pointer (some ⟨p, 0, none⟩)] w fun e w' => e = .returned (.slice none 0 0) ∧ Gro w w' := by
  obtain ⟨wp, B, h⟩ := H
  exact tick_down0 w p wp B id false 0 0 0 0 zF none 0 [] 0 0 h
theorem hear_d (H : DownE w p id) (f : Fr) (ni nn : Int) : Calls Try.prog 20 #[.pointer (some ⟨p, 0, none⟩), .agg (c46 f.kind f.pw f.pn f.toA f.a f.b f.n f.fi f.fn f.ti f.tn f.tr f.ids f.key f.vn f.vw f.val f.op f.ttl f.tx), .agg (c29 ni nn)] w fun e w' => e = .returned (.agg (c59 false false Sl.nil false Sl.nil)) ∧ Gro w w' := by
  obtain ⟨wp, B, h⟩ := H
  exact hear_down0 w p wp B id false 0 0 0 0 zF none 0 [] 0 0 h f ni nn
theorem send_d (H : DownE w p id) (ao : Option Addr) (cap : Nat) (l : List Nat) : Calls Try.prog 16 #[.pointer (some ⟨p, 0, none⟩), .slice ao l.length cap] w fun e w' => e = .returned (.tuple #[.agg (c46 0 zF 0 false zF zF 0 0 0 0 0 Sl.nil Sl.nil zF 0 zF Sl.nil 0 0 Sl.nil), .int .i64 10]) ∧ Gro w w' := by
  obtain ⟨wp, B, h⟩ := H
  exact hsend_shut w p wp B id false 0 0 0 0 zF none 0 [] 0 0 h ao cap l
theorem fall_d (H : DownE w p id) : Calls Try.prog 12 #[.pointer (some ⟨p, 0, none⟩)] w fun e w' => e = .returned (.bool false) ∧ GroS [p] w w' ∧ DownE w' p id := by
  obtain ⟨wp, B, h⟩ := H
  exact (fall_false w p wp B id false 0 0 0 0 zF none 0 [] 0 0 h).mono fun e w' ⟨he, G, wp2, B2, _, h2⟩ => ⟨he, G, wp2, B2, h2⟩
end
theorem DownE.not {w : World} {p : Nat} {id : Nat → Nat} (H : DownE w p id) {g : Nat} {t' : TypeId} {cs : Array Value} (hg : w.heap[g]? = some (.cells cs t' (0, 0))) (h98 : t' ≠ 98) : g ∉ [p] := by
  obtain ⟨wp, B, h⟩ := H
  exact not_ty hg h.box h98
theorem same00 (w : World) : Calls Try.prog 18 #[.agg (c46 0 zF 0 false zF zF 0 0 0 0 0 Sl.nil Sl.nil zF 0 zF Sl.nil 0 0 Sl.nil), .agg (c46 0 zF 0 false zF zF 0 0 0 0 0 Sl.nil Sl.nil zF 0 zF Sl.nil 0 0 Sl.nil)] w fun e w' => e = .returned (.bool true) ∧ Gro w w' := by
  have h := same_d (pfr PF.zero Sl.nil Sl.nil Sl.nil Sl.nil) (pfr PF.zero Sl.nil Sl.nil Sl.nil Sl.nil) (pfd PF.zero) (pfd PF.zero) w (FV.zero w).frw (FV.zero w).frw ⟨Nat.zero_le _, Nat.zero_le _⟩
  rw [show sameK (pfr PF.zero Sl.nil Sl.nil Sl.nil Sl.nil) (pfr PF.zero Sl.nil Sl.nil Sl.nil Sl.nil) (pfd PF.zero) (pfd PF.zero) = true by simp [sameK, sameB]] at h
  exact h
theorem two_at (p j : Nat) (h : j < 2) : (#[Value.pointer none, Value.pointer (some ⟨p, 0, none⟩)] : Array Value)[j]? = some (if j = 0 then .pointer none else .pointer (some ⟨p, 0, none⟩)) := by
  rcases j with _ | _ | j
  · rfl
  · rfl
  · omega
theorem pT : RowT Try.prog 93 25 1 8 (.pointer none) := ⟨Try.underlying93, info_of (by kernel_rfl), rfl, by decide⟩
set_option maxRecDepth 100000 in
set_option maxHeartbeats 4000000 in
theorem helloDown_any (w : World) (id : Nat → Nat) (okd oi on : Int) (to : Option Addr) (tl : List Nat) (tc : Nat) (f : Fr) : Calls Try.prog 6 #[.agg (c23 id), .agg (c48 okd oi on ⟨to, tl.length, tc⟩ f.kind f.pw f.pn f.toA f.a f.b f.n f.fi f.fn f.ti f.tn f.tr f.ids f.key f.vn f.vw f.val f.op f.ttl f.tx)] w fun e w' => e = .returned (.bool true) ∧ Gro w w' := by
  refine s_enter Try.func6 rfl Try.ntmps6 [.agg (c23 id), .agg (c48 okd oi on ⟨to, tl.length, tc⟩ f.kind f.pw f.pn f.toA f.a f.b f.n f.fi f.fn f.ti f.tn f.tr f.ids f.key f.vn f.vw f.val f.op f.ttl f.tx)] [.agg (c23 id), .agg (c48 okd oi on ⟨to, tl.length, tc⟩ f.kind f.pw f.pn f.toA f.a f.b f.n f.fi f.fn f.ti f.tn f.tr f.ids f.key f.vn f.vw f.val f.op f.ttl f.tx), undef, undef, undef, undef, undef, undef, undef, undef, undef, undef, undef, undef, undef, undef, undef, undef, undef, undef, undef, undef, undef, undef, undef, undef, undef, undef, undef, undef, undef, undef, undef, undef, undef, undef, undef, undef, undef, undef, undef, undef, undef, undef, undef, undef, undef, undef, undef, undef, undef, undef, undef, undef, undef, undef, undef, undef, undef, undef, undef, undef, undef, undef, undef, undef, undef, undef, undef, undef, undef, undef, undef, undef, undef, undef, undef, undef, undef, undef, undef, undef, undef, undef, undef, undef, undef, undef, undef, undef, undef, undef, undef, undef, undef, undef, undef, undef, undef, undef, undef, undef, undef, undef, undef, undef, undef, undef, undef, undef, undef, undef, undef, undef, undef, undef, undef, undef, undef, undef, undef, undef, undef, undef, undef, undef, undef, undef, undef, undef, undef, undef, undef, undef] rfl ?_
  have GG := Gro.refl w
  refine wp_seq ?_
  refine wp_region_lit ?_
  refine s_box 2 rfl rfl 23 _ rfl _ rfl (c23 id) rfl ?_
  intro w1 g1 G eg1 kg1
  have bg1 := size_base GG eg1
  replace GG := GG.trans G
  clear G eg1
  refine nr ?_; intro U h; simp only [z0, z1] at h; subst h
  refine s_box 3 rfl rfl 48 _ rfl _ rfl (c48 okd oi on ⟨to, tl.length, tc⟩ f.kind f.pw f.pn f.toA f.a f.b f.n f.fi f.fn f.ti f.tn f.tr f.ids f.key f.vn f.vw f.val f.op f.ttl f.tx) rfl ?_
  intro w2 g2 G eg2 kg2
  have bg2 := size_base GG eg2
  have dg1g2 := lt_new kg1 eg2
  replace kg1 := G.has kg1
  replace GG := GG.trans G
  clear G eg2
  refine nr ?_; intro U h; simp only [z0, z1] at h; subst h
  refine s_val 4 rfl rfl (.bool false) (rfl) ?_
  refine nr ?_; intro U h; simp only [z0, z1] at h; subst h
  refine wpList_nil ?_
  refine then_n ?_
  refine wp_seq ?_
  refine wp_region_grow2B (A := ?Aq1) 11 [(0, 19), (1, 20), (2, 21), (3, 22), (4, 23), (5, 24), (6, 5), (7, 7), (9, 6)] [.val (.pointer (some ⟨g2, 4, none⟩)), .val (.agg (c46 f.kind f.pw f.pn f.toA f.a f.b f.n f.fi f.fn f.ti f.tn f.tr f.ids f.key f.vn f.vw f.val f.op f.ttl f.tx)), .val (.pointer (some ⟨g2, 3, none⟩)), .val (.slice to tl.length tc), .val (.pointer (some ⟨g2, 1, none⟩)), .val (.agg (c29 oi on)), .new 46 (c46 0 zF 0 false zF zF 0 0 0 0 0 Sl.nil Sl.nil zF 0 zF Sl.nil 0 0 Sl.nil) (c46 f.kind f.pw f.pn f.toA f.a f.b f.n f.fi f.fn f.ti f.tn f.tr f.ids f.key f.vn f.vw f.val f.op f.ttl f.tx) 8, .new 29 (c29 0 0) (c29 oi on) 10, .put 6, .val (.slice to tl.length tc), .put 7] follows (by kernel_rfl) (by kernel_rfl) rfl ?hAq1 (opsB_cons ?o0q1 (opsB_cons ?o1q1 (opsB_cons ?o2q1 (opsB_cons ?o3q1 (opsB_cons ?o4q1 (opsB_cons ?o5q1 (opsB_cons ?o6q1 (opsB_cons ?o7q1 (opsB_cons ?o8q1 (opsB_cons ?o9q1 (opsB_cons ?o10q1 opsB_nil))))))))))) ?restq1
  case hAq1 =>
    intro ptrs
    simp only [full, foldSlots, filled2, postAt2, List.foldl_cons, List.foldl_nil, List.getD_cons_zero, List.getD_cons_succ, fillS_val, fillS_new, List.set_cons_zero, List.set_cons_succ]
    exact rfl
  case o0q1 => exact fun _ _ _ hw _ _ => OpOK2.of_val (ok_value rfl (run_fld 48 _ 3 rfl _ _ rfl _ (by kernel_rfl)))
  case o1q1 => exact fun _ _ _ hw _ _ => OpOK2.of_val (ok_value rfl (run_lda 46 _ rfl g2 4 95 rfl 48 _ (hw.has kg2) _ Try.underlying46 rfl si46 (Nat.le_of_ble_eq_true rfl) _ (by kernel_rfl)))
  case o2q1 => exact fun _ _ _ hw _ _ => OpOK2.of_val (ok_value rfl (run_fld 48 _ 2 rfl _ _ rfl _ (by kernel_rfl)))
  case o3q1 => exact fun _ _ _ hw _ _ => OpOK2.of_val (ok_value rfl (run_ldc 36 _ rfl g2 3 rfl 48 _ (hw.has kg2) (na36 _) _ rfl))
  case o4q1 => exact fun _ _ _ hw _ _ => OpOK2.of_val (ok_value rfl (run_fld 48 _ 1 rfl _ _ rfl _ (by kernel_rfl)))
  case o5q1 => exact fun _ _ _ hw _ _ => OpOK2.of_val (ok_value rfl (run_lda 29 _ rfl g2 1 2 rfl 48 _ (hw.has kg2) _ Try.underlying29 rfl si29 (Nat.le_of_ble_eq_true rfl) _ (by kernel_rfl)))
  case o6q1 => exact fun _ _ _ hw _ _ => OpOK2.of_new (ok_alloc rfl 46 rfl _ zv46)
  case o7q1 => exact fun _ _ _ hw _ _ => OpOK2.of_new (ok_alloc rfl 29 rfl _ zv29)
  case o8q1 =>
    intro ptrs L w hw hn hL
    obtain ⟨⟨g, p, k, cz⟩, _, _, _⟩ := hn
    have hL' : L 8 = false := hL
    have p' : ptrs 6 = .pointer (some ⟨g, 0, none⟩) := p
    have k' : w.heap[g]? = some (.cells (if L 8 = true then (c46 f.kind f.pw f.pn f.toA f.a f.b f.n f.fi f.fn f.ti f.tn f.tr f.ids f.key f.vn f.vw f.val f.op f.ttl f.tx) else (c46 0 zF 0 false zF zF 0 0 0 0 0 Sl.nil Sl.nil zF 0 zF Sl.nil 0 0 Sl.nil)) 46 (0, 0)) := k
    rw [hL'] at k'
    refine ok2_store rfl 46 _ _ rfl g ?_ (c46 f.kind f.pw f.pn f.toA f.a f.b f.n f.fi f.fn f.ti f.tn f.tr f.ids f.key f.vn f.vw f.val f.op f.ttl f.tx) rfl (c46 0 zF 0 false zF zF 0 0 0 0 0 Sl.nil Sl.nil zF 0 zF Sl.nil 0 0 Sl.nil) k' (by kernel_rfl) rfl (by kernel_rfl) rfl p' _
    show ptrs 6 = _
    exact p'
  case o9q1 => exact fun _ _ _ hw _ _ => OpOK2.of_val (ok_value rfl (rfl))
  case o10q1 =>
    intro ptrs L w hw hn hL
    obtain ⟨⟨g, p, k, cz⟩, _, _, _⟩ := hn
    have hL' : L 10 = false := hL
    have p' : ptrs 7 = .pointer (some ⟨g, 0, none⟩) := p
    have k' : w.heap[g]? = some (.cells (if L 10 = true then (c29 oi on) else (c29 0 0)) 29 (0, 0)) := k
    rw [hL'] at k'
    refine ok2_store rfl 29 _ _ rfl g ?_ (c29 oi on) rfl (c29 0 0) k' (by kernel_rfl) rfl (by kernel_rfl) rfl p' _
    show ptrs 7 = _
    exact p'
  intro ptrs L w3 GD hL hn hap
  obtain ⟨⟨gf, pxgf, kxgf, bgf⟩, ⟨gn, pxgn, kxgn, bgn⟩, hz⟩ := hn
  simp only [List.drop_succ_cons, List.drop_zero, pxgf, pxgn]
  have kgf : w3.heap[gf]? = some (.cells (c46 f.kind f.pw f.pn f.toA f.a f.b f.n f.fi f.fn f.ti f.tn f.tr f.ids f.key f.vn f.vw f.val f.op f.ttl f.tx) 46 (0, 0)) := by
    have hL' : L 8 = true := by rw [hL]; rfl
    have kk : w3.heap[gf]? = some (.cells (if L 8 = true then (c46 f.kind f.pw f.pn f.toA f.a f.b f.n f.fi f.fn f.ti f.tn f.tr f.ids f.key f.vn f.vw f.val f.op f.ttl f.tx) else (c46 0 zF 0 false zF zF 0 0 0 0 0 Sl.nil Sl.nil zF 0 zF Sl.nil 0 0 Sl.nil)) 46 (0, 0)) := kxgf
    rw [hL'] at kk
    exact kk
  have dg1gf : g1 < gf := Nat.lt_of_lt_of_le (lt_of_heap kg1) bgf
  have dg2gf : g2 < gf := Nat.lt_of_lt_of_le (lt_of_heap kg2) bgf
  replace bgf : w.heap.size ≤ gf := Nat.le_trans GG.size bgf
  have kgn : w3.heap[gn]? = some (.cells (c29 oi on) 29 (0, 0)) := by
    have hL' : L 10 = true := by rw [hL]; rfl
    have kk : w3.heap[gn]? = some (.cells (if L 10 = true then (c29 oi on) else (c29 0 0)) 29 (0, 0)) := kxgn
    rw [hL'] at kk
    exact kk
  have dg1gn : g1 < gn := Nat.lt_of_lt_of_le (lt_of_heap kg1) bgn
  have dg2gn : g2 < gn := Nat.lt_of_lt_of_le (lt_of_heap kg2) bgn
  replace bgn : w.heap.size ≤ gn := Nat.le_trans GG.size bgn
  replace kg1 := GD.has kg1
  replace kg2 := GD.has kg2
  replace GG := GG.trans ((Gro.refl _).drew.trans GD)
  clear GD hL hap hz kxgf pxgf kxgn pxgn ptrs
  refine wpList_nil ?_
  refine then_n ?_
  refine wp_seq ?_
  refine wp_region_lit ?_
  refine s_val 8 rfl rfl (.pointer none) (rfl) ?_
  refine nr ?_; intro U h; simp only [z0, z1] at h; subst h
  refine wpList_nil ?_
  refine then_n ?_
  refine wp_seq ?_
  refine wp_seq ?_
  refine wp_region_lit ?_
  refine s_val 25 rfl rfl (.pointer none) (rfl) ?_
  refine nr ?_; intro U h; simp only [z0, z1] at h; subst h
  refine s_val 26 rfl rfl (.agg (c23 id)) (run_lda 23 _ rfl g1 0 16 rfl 23 _ kg1 _ Try.underlying23 rfl si23 (Nat.le_of_ble_eq_true rfl) _ (by kernel_rfl)) ?_
  refine nr ?_; intro U h; simp only [z0, z1] at h; subst h
  refine s_callx 27 rfl rfl _ 7 Try.call7 rfl rfl _ rfl [.agg (c23 id)] rfl (hnew_any _ id) (fun _ _ ⟨_, _, he, _⟩ => ⟨_, he⟩) ?_
  rintro v w4 ⟨p, wp, he, G, hp, _, HE⟩
  cases he
  replace hp := Nat.le_trans GG.size hp
  have HD : DownE _ p id := ⟨wp, _, HE⟩
  clear HE
  replace kg1 := G.has kg1
  replace kg2 := G.has kg2
  replace kgf := G.has kgf
  replace kgn := G.has kgn
  replace GG := GG.trans G
  clear G
  refine nr ?_; intro U h; simp only [z0, z1] at h; subst h
  refine s_bsl 28 rfl rfl 93 2 _ rfl [(0, .pointer none), (1, .pointer (some ⟨p, 0, none⟩))] rfl #[.pointer none, .pointer (some ⟨p, 0, none⟩)] 25 (by kernel_rfl) ?_
  intro w5 gs G egs kgs
  have bgs := size_base GG egs
  have dg1gs := lt_new kg1 egs
  have dg2gs := lt_new kg2 egs
  have dgfgs := lt_new kgf egs
  have dgngs := lt_new kgn egs
  replace kg1 := G.has kg1
  replace kg2 := G.has kg2
  replace kgf := G.has kgf
  replace kgn := G.has kgn
  replace HD := HD.gro G
  replace GG := GG.trans G
  clear G egs
  refine nr ?_; intro U h; simp only [z0, z1] at h; subst h
  refine s_val 29 rfl rfl (.int .i64 ((2 : Nat) : Int)) (run_len Try.underlying93 _ rfl _ _ _ rfl _) ?_
  refine nr ?_; intro U h; simp only [z0, z1] at h; subst h
  refine s_val 30 rfl rfl (.int .i64 0) (rfl) ?_
  refine nr ?_; intro U h; simp only [z0, z1] at h; subst h
  refine wpList_nil ?_
  refine then_n ?_
  refine wp_block ?_
  refine wp_loopN (fun mz az wv => ∃ (j : Nat) (us1 : Nat → Value), mz = 2 - j ∧ az = ⟨[.agg (c23 id), .agg (c48 okd oi on ⟨to, tl.length, tc⟩ f.kind f.pw f.pn f.toA f.a f.b f.n f.fi f.fn f.ti f.tn f.tr f.ids f.key f.vn f.vw f.val f.op f.ttl f.tx), .pointer (some ⟨g1, 0, none⟩), .pointer (some ⟨g2, 0, none⟩), us1 0, .pointer (some ⟨gf, 0, none⟩), .slice to tl.length tc, .pointer (some ⟨gn, 0, none⟩), .pointer none, undef, us1 1, us1 2, us1 3, us1 4, undef, undef, undef, undef, undef, .pointer (some ⟨g2, 4, none⟩), .agg (c46 f.kind f.pw f.pn f.toA f.a f.b f.n f.fi f.fn f.ti f.tn f.tr f.ids f.key f.vn f.vw f.val f.op f.ttl f.tx), .pointer (some ⟨g2, 3, none⟩), .slice to tl.length tc, .pointer (some ⟨g2, 1, none⟩), .agg (c29 oi on), .pointer none, .agg (c23 id), .pointer (some ⟨p, 0, none⟩), .slice (some ⟨gs, 0, none⟩) 2 2, .int .i64 ((2 : Nat) : Int), .int .i64 ((j : Nat) : Int), us1 5, us1 6, us1 7, us1 8, us1 9, us1 10, us1 11, us1 12, us1 13, us1 14, us1 15, us1 16, us1 17, us1 18, us1 19, us1 20, us1 21, us1 22, us1 23, us1 24, us1 25, us1 26, us1 27, us1 28, us1 29, us1 30, us1 31, us1 32, us1 33, us1 34, us1 35, us1 36, us1 37, us1 38, us1 39, us1 40, us1 41, us1 42, us1 43, us1 44, us1 45, us1 46, us1 47, us1 48, us1 49, us1 50, us1 51, us1 52, us1 53, us1 54, us1 55, us1 56, us1 57, us1 58, us1 59, us1 60, undef, undef, undef, undef, undef, undef, undef, undef, undef, undef, undef, undef, undef, undef, undef, undef, undef, undef, undef, undef, undef, undef, undef, undef, undef, undef, undef, undef, undef, undef, undef, undef, undef, undef, undef, undef, undef, undef, undef, undef, undef, undef, undef, undef, undef, undef, undef].toArray, []⟩ ∧ j ≤ 2 ∧ Gro w wv ∧ wv.heap[gf]? = some (.cells (c46 f.kind f.pw f.pn f.toA f.a f.b f.n f.fi f.fn f.ti f.tn f.tr f.ids f.key f.vn f.vw f.val f.op f.ttl f.tx) 46 (0, 0)) ∧ wv.heap[gn]? = some (.cells (c29 oi on) 29 (0, 0)) ∧ wv.heap[gs]? = some (.cells #[Value.pointer none, Value.pointer (some ⟨p, 0, none⟩)] 25 (0, 0)) ∧ DownE wv p id) ?_ _ ⟨0, (fun kz => ([.bool false, undef, undef, undef, undef, undef, undef, undef, undef, undef, undef, undef, undef, undef, undef, undef, undef, undef, undef, undef, undef, undef, undef, undef, undef, undef, undef, undef, undef, undef, undef, undef, undef, undef, undef, undef, undef, undef, undef, undef, undef, undef, undef, undef, undef, undef, undef, undef, undef, undef, undef, undef, undef, undef, undef, undef, undef, undef, undef, undef, undef] : List Value).getD kz undef), rfl, rfl, Nat.zero_le _, GG, kgf, kgn, kgs, HD⟩
  clear kgf kgn kgs GG HD
  rintro mz az wv ⟨j, us1, rfl, rfl, hj, GG, kgf, kgn, kgs, HD⟩
  clear kg1 kg2
  refine wp_seq ?_
  refine wp_region_lit ?_
  obtain ⟨p1, hp1⟩ : ∃ p, decide (((j : Nat) : Int) < ((2 : Nat) : Int)) = p := ⟨_, rfl⟩
  refine s_val 31 rfl rfl (.bool p1) (run_lssT 3 _ _ _ rfl ((j : Nat) : Int) ((2 : Nat) : Int) rfl rfl p1 hp1 _) ?_
  refine nr ?_; intro U h; simp only [z0, z1] at h; subst h
  cases p1
  · have hjn : j = 2 := by have := of_decide_eq_false hp1; omega
    refine wpList_nil ?_
    refine then_n ?_
    refine wp_seq ?_
    refine wp_cond_false rfl ?_
    refine wp_exit ?_
    refine then_x ?_
    refine then_x ?_
    refine blk_x ?_
    refine then_n ?_
    refine wp_seq ?_
    refine wp_region_lit ?_
    refine s_val 88 rfl rfl (.pointer none) (rfl) ?_
    refine nr ?_; intro U h; simp only [z0, z1] at h; subst h
    refine s_callv 89 rfl rfl _ 25 Try.call25 rfl rfl _ rfl [.pointer none] rfl (window_nil _) ?_
    intro w6 G
    replace kgf := G.has kgf
    replace kgn := G.has kgn
    replace kgs := G.has kgs
    replace HD := HD.gro G
    replace GG := GG.trans G
    clear G
    refine nr ?_; intro U h; simp only [z0, z1] at h; subst h
    refine s_val 87 rfl rfl (.tuple #[.int .i64 0, .slice none 0 0, .int .i64 0]) (rfl) ?_
    refine nr ?_; intro U h; simp only [z0, z1] at h; subst h
    refine s_val 90 rfl rfl (.int .i64 0) (rfl) ?_
    refine nr ?_; intro U h; simp only [z0, z1] at h; subst h
    refine s_val 91 rfl rfl (.slice none 0 0) (rfl) ?_
    refine nr ?_; intro U h; simp only [z0, z1] at h; subst h
    refine s_val 92 rfl rfl (.int .i64 0) (rfl) ?_
    refine nr ?_; intro U h; simp only [z0, z1] at h; subst h
    refine s_val 14 rfl rfl (.int .i64 0) (rfl) ?_
    refine nr ?_; intro U h; simp only [z0, z1] at h; subst h
    refine s_val 15 rfl rfl (.slice none 0 0) (rfl) ?_
    refine nr ?_; intro U h; simp only [z0, z1] at h; subst h
    refine s_val 16 rfl rfl (.int .i64 0) (rfl) ?_
    refine nr ?_; intro U h; simp only [z0, z1] at h; subst h
    refine wpList_nil ?_
    refine then_n ?_
    refine wp_seq ?_
    refine wp_region_lit ?_
    refine s_val 94 rfl rfl (.pointer none) (rfl) ?_
    refine nr ?_; intro U h; simp only [z0, z1] at h; subst h
    refine s_callv 95 rfl rfl _ 23 Try.call23 rfl rfl _ rfl [.pointer none] rfl (pair_nil _) ?_
    intro w7 G
    replace kgf := G.has kgf
    replace kgn := G.has kgn
    replace kgs := G.has kgs
    replace HD := HD.gro G
    replace GG := GG.trans G
    clear G
    refine nr ?_; intro U h; simp only [z0, z1] at h; subst h
    refine s_val 93 rfl rfl (.tuple #[.agg (c29 0 0), .agg (c29 0 0)]) (rfl) ?_
    refine nr ?_; intro U h; simp only [z0, z1] at h; subst h
    refine s_val 96 rfl rfl (.agg (c29 0 0)) (rfl) ?_
    refine nr ?_; intro U h; simp only [z0, z1] at h; subst h
    refine s_val 97 rfl rfl (.agg (c29 0 0)) (rfl) ?_
    refine nr ?_; intro U h; simp only [z0, z1] at h; subst h
    refine s_alloc 17 rfl rfl 29 rfl _ zv29 _ rfl ?_
    intro w8 g6 G eg6 kg6
    have bg6 := size_base GG eg6
    have dgfg6 := lt_new kgf eg6
    have dgng6 := lt_new kgn eg6
    have dgsg6 := lt_new kgs eg6
    replace kgf := G.has kgf
    replace kgn := G.has kgn
    replace kgs := G.has kgs
    replace HD := HD.gro G
    replace GG := GG.trans G
    clear G eg6
    refine nr ?_; intro U h; simp only [z0, z1] at h; subst h
    refine s_alloc 18 rfl rfl 29 rfl _ zv29 _ rfl ?_
    intro w9 g7 G eg7 kg7
    have bg7 := size_base GG eg7
    have dgfg7 := lt_new kgf eg7
    have dgng7 := lt_new kgn eg7
    have dgsg7 := lt_new kgs eg7
    have dg6g7 := lt_new kg6 eg7
    replace kgf := G.has kgf
    replace kgn := G.has kgn
    replace kgs := G.has kgs
    replace kg6 := G.has kg6
    replace HD := HD.gro G
    replace GG := GG.trans G
    clear G eg7
    refine nr ?_; intro U h; simp only [z0, z1] at h; subst h
    refine s_store rfl rfl 29 _ _ rfl g6 0 rfl (.agg (c29 0 0)) rfl 29 _ kg6 (c29 0 0) rfl (by kernel_rfl) (Nat.le_of_ble_eq_true rfl) (by kernel_rfl) (c29 0 0) (by kernel_rfl) ?_
    intro w11 St
    replace kgf := St.has (by omega) kgf
    replace kgn := St.has (by omega) kgn
    replace kgs := St.has (by omega) kgs
    replace kg7 := St.has (by omega) kg7
    replace HD := HD.stT (by decide) (by decide) (by decide) (by decide) kg6 St
    replace GG := GG.store St bg6
    replace kg6 := St.new
    clear St
    refine s_store rfl rfl 29 _ _ rfl g7 0 rfl (.agg (c29 0 0)) rfl 29 _ kg7 (c29 0 0) rfl (by kernel_rfl) (Nat.le_of_ble_eq_true rfl) (by kernel_rfl) (c29 0 0) (by kernel_rfl) ?_
    intro w13 St
    replace kgf := St.has (by omega) kgf
    replace kgn := St.has (by omega) kgn
    replace kgs := St.has (by omega) kgs
    replace kg6 := St.has (by omega) kg6
    replace HD := HD.stT (by decide) (by decide) (by decide) (by decide) kg7 St
    replace GG := GG.store St bg7
    replace kg7 := St.new
    clear St
    refine wpList_nil ?_
    refine then_n ?_
    refine wp_seq ?_
    refine wp_region_opq ?_
    intro OPS hY
    have y1 := hY 1 99 rfl
    have y6 := hY 6 104 rfl
    have y13 := hY 13 111 rfl
    have y17 := hY 17 115 rfl
    have y22 := hY 22 120 rfl
    have y26 := hY 26 124 rfl
    have y31 := hY 31 129 rfl
    clear hY
    refine s_callv 98 rfl rfl _ 8 Try.call8 rfl rfl _ rfl [] rfl (fixed_any _) ?_
    intro w14 G
    replace kgf := G.has kgf
    replace kgn := G.has kgn
    replace kgs := G.has kgs
    replace kg6 := G.has kg6
    replace kg7 := G.has kg7
    replace HD := HD.gro G
    replace GG := GG.trans G
    clear G
    refine nr ?_; intro U h; simp only [z0, z1] at h; subst h
    refine s_val 99 rfl rfl (.bool true) (rfl) ?_
    refine nr ?_; intro U h; simp only [z0, z1] at h; subst h
    refine s_gvalY 100 rfl rfl y1 rfl (.pointer none) (rfl) ?_
    refine nr ?_; intro U h; simp only [z0, z1] at h; subst h
    refine s_gcallvY 101 rfl rfl y1 rfl _ 27 Try.call27 rfl rfl _ rfl [.pointer none] rfl (waiting_nil _) ?_
    intro w15 G
    replace kgf := G.has kgf
    replace kgn := G.has kgn
    replace kgs := G.has kgs
    replace kg6 := G.has kg6
    replace kg7 := G.has kg7
    replace HD := HD.gro G
    replace GG := GG.trans G
    clear G
    refine nr ?_; intro U h; simp only [z0, z1] at h; subst h
    refine s_gvalY 102 rfl rfl y1 rfl (.bool true) (run_eq_k 3 .i64 _ _ _ rfl Try.underlying3 _ _ rfl rfl true rfl _) ?_
    refine nr ?_; intro U h; simp only [z0, z1] at h; subst h
    refine s_val 103 rfl rfl (.bool true) (rfl) ?_
    refine nr ?_; intro U h; simp only [z0, z1] at h; subst h
    refine s_val 104 rfl rfl (.bool true) (rfl) ?_
    refine nr ?_; intro U h; simp only [z0, z1] at h; subst h
    refine s_gvalY 105 rfl rfl y6 rfl (.pointer none) (rfl) ?_
    refine nr ?_; intro U h; simp only [z0, z1] at h; subst h
    refine s_gvalY 106 rfl rfl y6 rfl (.agg (c29 oi on)) (run_lda 29 _ rfl gn 0 2 rfl 29 _ kgn _ Try.underlying29 rfl si29 (Nat.le_of_ble_eq_true rfl) _ (by kernel_rfl)) ?_
    refine nr ?_; intro U h; simp only [z0, z1] at h; subst h
    refine s_gcallvY 107 rfl rfl y6 rfl _ 10 Try.call10 rfl rfl _ rfl [.pointer none, .agg (c29 oi on)] rfl (rise_nil _ oi on) ?_
    intro w16 G
    replace kgf := G.has kgf
    replace kgn := G.has kgn
    replace kgs := G.has kgs
    replace kg6 := G.has kg6
    replace kg7 := G.has kg7
    replace HD := HD.gro G
    replace GG := GG.trans G
    clear G
    refine nr ?_; intro U h; simp only [z0, z1] at h; subst h
    refine s_gvalY 108 rfl rfl y6 rfl (.int .i64 0) (run_len Try.underlying50 _ rfl _ _ _ rfl _) ?_
    refine nr ?_; intro U h; simp only [z0, z1] at h; subst h
    refine s_gvalY 109 rfl rfl y6 rfl (.bool true) (run_eq_k 3 .i64 _ _ _ rfl Try.underlying3 _ _ rfl rfl true rfl _) ?_
    refine nr ?_; intro U h; simp only [z0, z1] at h; subst h
    refine s_val 110 rfl rfl (.bool true) (rfl) ?_
    refine nr ?_; intro U h; simp only [z0, z1] at h; subst h
    refine s_val 111 rfl rfl (.bool true) (rfl) ?_
    refine nr ?_; intro U h; simp only [z0, z1] at h; subst h
    refine s_gvalY 112 rfl rfl y13 rfl (.int .i64 0) (rfl) ?_
    refine nr ?_; intro U h; simp only [z0, z1] at h; subst h
    refine s_gvalY 113 rfl rfl y13 rfl (.bool true) (run_eq_k 2 .i64 _ _ _ rfl Try.underlying2 _ _ rfl rfl true rfl _) ?_
    refine nr ?_; intro U h; simp only [z0, z1] at h; subst h
    refine s_val 114 rfl rfl (.bool true) (rfl) ?_
    refine nr ?_; intro U h; simp only [z0, z1] at h; subst h
    refine s_val 115 rfl rfl (.bool true) (rfl) ?_
    refine nr ?_; intro U h; simp only [z0, z1] at h; subst h
    refine s_gvalY 116 rfl rfl y17 rfl (.slice none 0 0) (rfl) ?_
    refine nr ?_; intro U h; simp only [z0, z1] at h; subst h
    refine s_gvalY 117 rfl rfl y17 rfl (.int .i64 0) (run_len Try.underlying30 _ rfl _ _ _ rfl _) ?_
    refine nr ?_; intro U h; simp only [z0, z1] at h; subst h
    refine s_gvalY 118 rfl rfl y17 rfl (.bool true) (run_eq_k 3 .i64 _ _ _ rfl Try.underlying3 _ _ rfl rfl true rfl _) ?_
    refine nr ?_; intro U h; simp only [z0, z1] at h; subst h
    refine s_val 119 rfl rfl (.bool true) (rfl) ?_
    refine nr ?_; intro U h; simp only [z0, z1] at h; subst h
    refine s_val 120 rfl rfl (.bool true) (rfl) ?_
    refine nr ?_; intro U h; simp only [z0, z1] at h; subst h
    refine s_gvalY 121 rfl rfl y22 rfl (.int .i64 0) (rfl) ?_
    refine nr ?_; intro U h; simp only [z0, z1] at h; subst h
    refine s_gvalY 122 rfl rfl y22 rfl (.bool true) (run_eq_k 2 .i64 _ _ _ rfl Try.underlying2 _ _ rfl rfl true rfl _) ?_
    refine nr ?_; intro U h; simp only [z0, z1] at h; subst h
    refine s_val 123 rfl rfl (.bool true) (rfl) ?_
    refine nr ?_; intro U h; simp only [z0, z1] at h; subst h
    refine s_val 124 rfl rfl (.bool true) (rfl) ?_
    refine nr ?_; intro U h; simp only [z0, z1] at h; subst h
    refine s_gvalY 125 rfl rfl y26 rfl (.agg (c29 0 0)) (run_lda 29 _ rfl g6 0 2 rfl 29 _ kg6 _ Try.underlying29 rfl si29 (Nat.le_of_ble_eq_true rfl) _ (by kernel_rfl)) ?_
    refine nr ?_; intro U h; simp only [z0, z1] at h; subst h
    refine s_gvalY 126 rfl rfl y26 rfl (.agg (c29 0 0)) (run_bd 29 _ rfl [] rfl _ (by kernel_rfl)) ?_
    refine nr ?_; intro U h; simp only [z0, z1] at h; subst h
    refine s_gvalY 127 rfl rfl y26 rfl (.bool true) (run_eqN _ _ _ rfl 0 0 0 0 rfl rfl true ((by decide)) _) ?_
    refine nr ?_; intro U h; simp only [z0, z1] at h; subst h
    refine s_val 128 rfl rfl (.bool true) (rfl) ?_
    refine nr ?_; intro U h; simp only [z0, z1] at h; subst h
    refine s_val 129 rfl rfl (.bool true) (rfl) ?_
    refine nr ?_; intro U h; simp only [z0, z1] at h; subst h
    refine s_gvalY 130 rfl rfl y31 rfl (.agg (c29 0 0)) (run_lda 29 _ rfl g7 0 2 rfl 29 _ kg7 _ Try.underlying29 rfl si29 (Nat.le_of_ble_eq_true rfl) _ (by kernel_rfl)) ?_
    refine nr ?_; intro U h; simp only [z0, z1] at h; subst h
    refine s_gvalY 131 rfl rfl y31 rfl (.agg (c29 0 0)) (run_bd 29 _ rfl [] rfl _ (by kernel_rfl)) ?_
    refine nr ?_; intro U h; simp only [z0, z1] at h; subst h
    refine s_gvalY 132 rfl rfl y31 rfl (.bool true) (run_eqN _ _ _ rfl 0 0 0 0 rfl rfl true ((by decide)) _) ?_
    refine nr ?_; intro U h; simp only [z0, z1] at h; subst h
    refine s_val 133 rfl rfl (.bool true) (rfl) ?_
    refine nr ?_; intro U h; simp only [z0, z1] at h; subst h
    refine s_val 4 rfl rfl (.bool true) (rfl) ?_
    refine nr ?_; intro U h; simp only [z0, z1] at h; subst h
    refine wpList_nil ?_
    refine then_n ?_
    refine wp_ret ?_
    refine bodyPost_ret (results_tmp Try.results6 _ _ _) rfl ?_
    exact ⟨rfl, GG⟩
  have hjn : j < 2 := by have := of_decide_eq_true hp1; omega
  refine wpList_nil ?_
  refine then_n ?_
  refine wp_seq ?_
  refine wp_cond_true rfl ?_
  refine wp_skip ?_
  refine then_n ?_
  refine wp_seq ?_
  refine wp_block ?_
  refine wp_seq ?_
  refine wp_region_lit ?_
  refine s_val 32 rfl rfl (.pointer (some ⟨gs, j, none⟩)) ((run_idx1 pT _ _ rfl ⟨gs, 0, none⟩ 2 2 j rfl rfl hjn _).trans (by rw [add_at, Nat.zero_add])) ?_
  refine nr ?_; intro U h; simp only [z0, z1] at h; subst h
  rcases (by omega : j = 0 ∨ j = 1) with rfl | rfl
  · refine s_val 33 rfl rfl (.pointer none) (run_ldc 25 _ rfl gs 0 rfl 25 _ kgs (na25 _) _ (two_at p 0 hjn)) ?_
    refine nr ?_; intro U h; simp only [z0, z1] at h; subst h
    refine s_val 10 rfl rfl (.pointer none) (rfl) ?_
    refine nr ?_; intro U h; simp only [z0, z1] at h; subst h
    refine wpList_nil ?_
    refine then_n ?_
    refine wp_seq ?_
    refine wp_region_lit ?_
    refine s_val 34 rfl rfl (.pointer none) (rfl) ?_
    refine nr ?_; intro U h; simp only [z0, z1] at h; subst h
    refine s_val 35 rfl rfl (.agg (c46 f.kind f.pw f.pn f.toA f.a f.b f.n f.fi f.fn f.ti f.tn f.tr f.ids f.key f.vn f.vw f.val f.op f.ttl f.tx)) (run_lda 46 _ rfl gf 0 95 rfl 46 _ kgf _ Try.underlying46 rfl si46 (Nat.le_of_ble_eq_true rfl) _ (by kernel_rfl)) ?_
    refine nr ?_; intro U h; simp only [z0, z1] at h; subst h
    refine s_val 36 rfl rfl (.agg (c29 oi on)) (run_lda 29 _ rfl gn 0 2 rfl 29 _ kgn _ Try.underlying29 rfl si29 (Nat.le_of_ble_eq_true rfl) _ (by kernel_rfl)) ?_
    refine nr ?_; intro U h; simp only [z0, z1] at h; subst h
    refine s_callv 37 rfl rfl _ 20 Try.call20 rfl rfl _ rfl [.pointer none, .agg (c46 f.kind f.pw f.pn f.toA f.a f.b f.n f.fi f.fn f.ti f.tn f.tr f.ids f.key f.vn f.vw f.val f.op f.ttl f.tx), .agg (c29 oi on)] rfl (hear_nil _ f oi on) ?_
    intro w6 G
    replace kgf := G.has kgf
    replace kgn := G.has kgn
    replace kgs := G.has kgs
    replace HD := HD.gro G
    replace GG := GG.trans G
    clear G
    refine nr ?_; intro U h; simp only [z0, z1] at h; subst h
    refine s_alloc 11 rfl rfl 59 rfl _ zv59 _ rfl ?_
    intro w7 g6 G eg6 kg6
    have bg6 := size_base GG eg6
    have dgfg6 := lt_new kgf eg6
    have dgng6 := lt_new kgn eg6
    have dgsg6 := lt_new kgs eg6
    replace kgf := G.has kgf
    replace kgn := G.has kgn
    replace kgs := G.has kgs
    replace HD := HD.gro G
    replace GG := GG.trans G
    clear G eg6
    refine nr ?_; intro U h; simp only [z0, z1] at h; subst h
    refine s_store rfl rfl 59 _ _ rfl g6 0 rfl (.agg (c59 false false Sl.nil false Sl.nil)) rfl 59 _ kg6 (c59 false false Sl.nil false Sl.nil) rfl (by kernel_rfl) (Nat.le_of_ble_eq_true rfl) (by kernel_rfl) (c59 false false Sl.nil false Sl.nil) (by kernel_rfl) ?_
    intro w9 St
    replace kgf := St.has (by omega) kgf
    replace kgn := St.has (by omega) kgn
    replace kgs := St.has (by omega) kgs
    replace HD := HD.stT (by decide) (by decide) (by decide) (by decide) kg6 St
    replace GG := GG.store St bg6
    replace kg6 := St.new
    clear St
    refine wpList_nil ?_
    refine then_n ?_
    refine wp_seq ?_
    refine wp_region_lit ?_
    refine s_val 39 rfl rfl (.pointer none) (rfl) ?_
    refine nr ?_; intro U h; simp only [z0, z1] at h; subst h
    refine s_val 40 rfl rfl (.slice to tl.length tc) (rfl) ?_
    refine nr ?_; intro U h; simp only [z0, z1] at h; subst h
    refine s_callv 41 rfl rfl _ 16 Try.call16 rfl rfl _ rfl [.pointer none, .slice to tl.length tc] rfl (hsend_nil _ to tc tl) ?_
    intro w10 G
    replace kgf := G.has kgf
    replace kgn := G.has kgn
    replace kgs := G.has kgs
    replace kg6 := G.has kg6
    replace HD := HD.gro G
    replace GG := GG.trans G
    clear G
    refine nr ?_; intro U h; simp only [z0, z1] at h; subst h
    refine s_val 38 rfl rfl (.tuple #[.agg (c46 0 zF 0 false zF zF 0 0 0 0 0 Sl.nil Sl.nil zF 0 zF Sl.nil 0 0 Sl.nil), .int .i64 10]) (rfl) ?_
    refine nr ?_; intro U h; simp only [z0, z1] at h; subst h
    refine s_val 42 rfl rfl (.agg (c46 0 zF 0 false zF zF 0 0 0 0 0 Sl.nil Sl.nil zF 0 zF Sl.nil 0 0 Sl.nil)) (rfl) ?_
    refine nr ?_; intro U h; simp only [z0, z1] at h; subst h
    refine s_val 43 rfl rfl (.int .i64 10) (rfl) ?_
    refine nr ?_; intro U h; simp only [z0, z1] at h; subst h
    refine s_alloc 12 rfl rfl 46 rfl _ zv46 _ rfl ?_
    intro w11 g7 G eg7 kg7
    have bg7 := size_base GG eg7
    have dgfg7 := lt_new kgf eg7
    have dgng7 := lt_new kgn eg7
    have dgsg7 := lt_new kgs eg7
    have dg6g7 := lt_new kg6 eg7
    replace kgf := G.has kgf
    replace kgn := G.has kgn
    replace kgs := G.has kgs
    replace kg6 := G.has kg6
    replace HD := HD.gro G
    replace GG := GG.trans G
    clear G eg7
    refine nr ?_; intro U h; simp only [z0, z1] at h; subst h
    refine s_store rfl rfl 46 _ _ rfl g7 0 rfl (.agg (c46 0 zF 0 false zF zF 0 0 0 0 0 Sl.nil Sl.nil zF 0 zF Sl.nil 0 0 Sl.nil)) rfl 46 _ kg7 (c46 0 zF 0 false zF zF 0 0 0 0 0 Sl.nil Sl.nil zF 0 zF Sl.nil 0 0 Sl.nil) rfl (by kernel_rfl) (Nat.le_of_ble_eq_true rfl) (by kernel_rfl) (c46 0 zF 0 false zF zF 0 0 0 0 0 Sl.nil Sl.nil zF 0 zF Sl.nil 0 0 Sl.nil) (by kernel_rfl) ?_
    intro w13 St
    replace kgf := St.has (by omega) kgf
    replace kgn := St.has (by omega) kgn
    replace kgs := St.has (by omega) kgs
    replace kg6 := St.has (by omega) kg6
    replace HD := HD.stT (by decide) (by decide) (by decide) (by decide) kg7 St
    replace GG := GG.store St bg7
    replace kg7 := St.new
    clear St
    refine s_val 13 rfl rfl (.int .i64 10) (rfl) ?_
    refine nr ?_; intro U h; simp only [z0, z1] at h; subst h
    refine wpList_nil ?_
    refine then_n ?_
    refine wp_seq ?_
    refine wp_region_exA (A := ?Ax1) 39 [(0, 44), (1, 45), (2, 46), (3, 47), (4, 48), (5, 49), (6, 50), (7, 51), (8, 52), (9, 53), (10, 54), (11, 55), (12, 56), (13, 57), (14, 58), (15, 59), (16, 60), (17, 61), (18, 62), (19, 63), (20, 64), (21, 65), (22, 66), (23, 67), (24, 68), (25, 69), (26, 70), (27, 71), (28, 72), (29, 73), (30, 74), (31, 75), (32, 76), (33, 77), (34, 78), (35, 79), (36, 80), (37, 81), (38, 82)] [.val (.pointer (some ⟨g6, 0, none⟩)), .val (.bool false), .val (.bool false), .val (.pointer (some ⟨g6, 1, none⟩)), .val (.bool false), .val (.bool false), .val (.bool false), .val (.pointer (some ⟨g6, 3, none⟩)), .val (.bool false), .val (.bool false), .val (.bool false), .val (.pointer (some ⟨g6, 2, none⟩)), .val (.slice none 0 0), .val (.int .i64 0), .val (.pointer (some ⟨g6, 4, none⟩)), .val (.slice none 0 0), .val (.int .i64 0), .val (.int .i64 0), .val (.pointer none), .val (.slice none 0 0), .val (.int .i64 0), .val (.int .i64 0), .val (.bool false), .val (.bool false), .val (.bool false), .val (.pointer none), .val (.bool false), .val (.bool false), .val (.bool false), .val (.pointer none), .val (.bool false), .val (.bool false), .val (.bool false), .val (.int .i64 10), .val (.bool false), .val (.bool false), .val (.bool false), .val (.agg (c46 0 zF 0 false zF zF 0 0 0 0 0 Sl.nil Sl.nil zF 0 zF Sl.nil 0 0 Sl.nil)), .val (.agg (c46 0 zF 0 false zF zF 0 0 0 0 0 Sl.nil Sl.nil zF 0 zF Sl.nil 0 0 Sl.nil))] follows (by kernel_rfl) rfl ?hAx1 (opsA_cons ?o0x1 (opsA_cons ?o1x1 (opsA_cons ?o2x1 (opsA_cons ?o3x1 (opsA_cons ?o4x1 (opsA_cons ?o5x1 (opsA_cons ?o6x1 (opsA_cons ?o7x1 (opsA_cons ?o8x1 (opsA_cons ?o9x1 (opsA_cons ?o10x1 (opsA_cons ?o11x1 (opsA_cons ?o12x1 (opsA_cons ?o13x1 (opsA_cons ?o14x1 (opsA_cons ?o15x1 (opsA_cons ?o16x1 (opsA_cons ?o17x1 (opsA_cons ?o18x1 (opsA_cons ?o19x1 (opsA_cons ?o20x1 (opsA_cons ?o21x1 (opsA_cons ?o22x1 (opsA_cons ?o23x1 (opsA_cons ?o24x1 (opsA_cons ?o25x1 (opsA_cons ?o26x1 (opsA_cons ?o27x1 (opsA_cons ?o28x1 (opsA_cons ?o29x1 (opsA_cons ?o30x1 (opsA_cons ?o31x1 (opsA_cons ?o32x1 (opsA_cons ?o33x1 (opsA_cons ?o34x1 (opsA_cons ?o35x1 (opsA_cons ?o36x1 (opsA_cons ?o37x1 (opsA_cons ?o38x1 opsA_nil))))))))))))))))))))))))))))))))))))))) ?restx1
    case hAx1 =>
      intro ptrs
      simp only [full, foldSlots, filledE, postE, List.foldl_cons, List.foldl_nil, List.getD_cons_zero, List.getD_cons_succ, fill_val, List.set_cons_zero, List.set_cons_succ]
      exact rfl
    case o0x1 => exact fun _ _ hw _ => opE_value (v := .pointer (some ⟨g6, 0, none⟩)) rfl (run_fld 59 _ 0 rfl _ _ rfl _ (by kernel_rfl))
    case o1x1 => exact fun _ _ hw _ => opE_value (v := .bool false) rfl (run_ldc 4 _ rfl g6 0 rfl 59 _ (hw.has kg6) (na4 _) _ rfl)
    case o2x1 => exact fun _ _ _ _ => opE_move (v := .bool false) _ rfl rfl rfl
    case o3x1 => exact fun _ _ hw _ => opE_value (v := .pointer (some ⟨g6, 1, none⟩)) rfl (run_fld 59 _ 1 rfl _ _ rfl _ (by kernel_rfl))
    case o4x1 => exact fun _ _ hw _ => opE_value (v := .bool false) rfl (run_ldc 4 _ rfl g6 1 rfl 59 _ (hw.has kg6) (na4 _) _ rfl)
    case o5x1 => exact fun _ _ _ _ => opE_pick (v := .bool false) _ _ _ rfl rfl false rfl rfl
    case o6x1 => exact fun _ _ _ _ => opE_move (v := .bool false) _ rfl rfl rfl
    case o7x1 => exact fun _ _ hw _ => opE_value (v := .pointer (some ⟨g6, 3, none⟩)) rfl (run_fld 59 _ 3 rfl _ _ rfl _ (by kernel_rfl))
    case o8x1 => exact fun _ _ hw _ => opE_value (v := .bool false) rfl (run_ldc 4 _ rfl g6 3 rfl 59 _ (hw.has kg6) (na4 _) _ rfl)
    case o9x1 => exact fun _ _ _ _ => opE_pick (v := .bool false) _ _ _ rfl rfl false rfl rfl
    case o10x1 => exact fun _ _ _ _ => opE_move (v := .bool false) _ rfl rfl rfl
    case o11x1 => exact fun _ _ hw _ => opE_value (v := .pointer (some ⟨g6, 2, none⟩)) rfl (run_fld 59 _ 2 rfl _ _ rfl _ (by kernel_rfl))
    case o12x1 => exact fun _ _ hw _ => opE_value (v := .slice none 0 0) rfl (run_ldc 36 _ rfl g6 2 rfl 59 _ (hw.has kg6) (na36 _) _ rfl)
    case o13x1 => exact fun _ _ hw _ => opE_value (v := .int .i64 0) rfl (run_len Try.underlying36 _ rfl _ _ _ rfl _)
    case o14x1 => exact fun _ _ hw _ => opE_value (v := .pointer (some ⟨g6, 4, none⟩)) rfl (run_fld 59 _ 4 rfl _ _ rfl _ (by kernel_rfl))
    case o15x1 => exact fun _ _ hw _ => opE_value (v := .slice none 0 0) rfl (run_ldc 50 _ rfl g6 4 rfl 59 _ (hw.has kg6) (na50 _) _ rfl)
    case o16x1 => exact fun _ _ hw _ => opE_value (v := .int .i64 0) rfl (run_len Try.underlying50 _ rfl _ _ _ rfl _)
    case o17x1 => exact fun _ _ hw _ => opE_value (v := .int .i64 0) rfl (run_addI 3 _ _ _ rfl 0 0 0 rfl rfl (by omega) (by omega) (by omega) _)
    case o18x1 => exact fun _ _ _ _ => opE_move (v := .pointer none) _ rfl rfl rfl
    case o19x1 => exact fun _ _ hw _ => opE_call (.val (.slice none 0 0)) rfl _ 14 Try.call14 rfl rfl _ rfl [.pointer none] rfl ((tick_nil _).mono fun e w' ⟨he, hg⟩ => ⟨_, he, hg, rfl⟩)
    case o20x1 => exact fun _ _ hw _ => opE_value (v := .int .i64 0) rfl (run_len Try.underlying50 _ rfl _ _ _ rfl _)
    case o21x1 => exact fun _ _ hw _ => opE_value (v := .int .i64 0) rfl (run_addI 3 _ _ _ rfl 0 0 0 rfl rfl (by omega) (by omega) (by omega) _)
    case o22x1 => exact fun _ _ hw _ => opE_value (v := .bool false) rfl (run_gtrT 3 _ _ _ rfl 0 0 rfl rfl false (decide_eq_false (by omega)) _)
    case o23x1 => exact fun _ _ _ _ => opE_pick (v := .bool false) _ _ _ rfl rfl false rfl rfl
    case o24x1 => exact fun _ _ _ _ => opE_move (v := .bool false) _ rfl rfl rfl
    case o25x1 => exact fun _ _ _ _ => opE_move (v := .pointer none) _ rfl rfl rfl
    case o26x1 => exact fun _ _ hw _ => opE_call (.val (.bool false)) rfl _ 12 Try.call12 rfl rfl _ rfl [.pointer none] rfl ((fall_nil _).mono fun e w' ⟨he, hg⟩ => ⟨_, he, hg, rfl⟩)
    case o27x1 => exact fun _ _ _ _ => opE_pick (v := .bool false) _ _ _ rfl rfl false rfl rfl
    case o28x1 => exact fun _ _ _ _ => opE_move (v := .bool false) _ rfl rfl rfl
    case o29x1 => exact fun _ _ _ _ => opE_move (v := .pointer none) _ rfl rfl rfl
    case o30x1 => exact fun _ _ hw _ => opE_call (.val (.bool false)) rfl _ 28 Try.call28 rfl rfl _ rfl [.pointer none] rfl ((up_nil _).mono fun e w' ⟨he, hg⟩ => ⟨_, he, hg, rfl⟩)
    case o31x1 => exact fun _ _ _ _ => opE_pick (v := .bool false) _ _ _ rfl rfl false rfl rfl
    case o32x1 => exact fun _ _ _ _ => opE_move (v := .bool false) _ rfl rfl rfl
    case o33x1 => exact fun _ _ _ _ => opE_move (v := .int .i64 10) _ rfl rfl rfl
    case o34x1 => exact fun _ _ hw _ => opE_value (v := .bool false) rfl (run_neq_k 53 .i64 _ _ _ rfl Try.underlying53 _ _ rfl rfl false rfl _)
    case o35x1 => exact fun _ _ _ _ => opE_pick (v := .bool false) _ _ _ rfl rfl false rfl rfl
    case o36x1 => exact fun _ _ _ _ => opE_move (v := .bool false) _ rfl rfl rfl
    case o37x1 => exact fun _ _ hw _ => opE_value (v := .agg (c46 0 zF 0 false zF zF 0 0 0 0 0 Sl.nil Sl.nil zF 0 zF Sl.nil 0 0 Sl.nil)) rfl (run_lda 46 _ rfl g7 0 95 rfl 46 _ (hw.has kg7) _ Try.underlying46 rfl si46 (Nat.le_of_ble_eq_true rfl) _ (by kernel_rfl))
    case o38x1 => exact fun _ _ hw _ => opE_value (v := .agg (c46 0 zF 0 false zF zF 0 0 0 0 0 Sl.nil Sl.nil zF 0 zF Sl.nil 0 0 Sl.nil)) rfl (run_bd 46 _ rfl [] rfl _ (by kernel_rfl))
    intro ptrs w14 GD hxE
    simp only [List.drop_succ_cons, List.drop_zero]
    replace kgf := GD.has kgf
    replace kgn := GD.has kgn
    replace kgs := GD.has kgs
    replace kg6 := GD.has kg6
    replace kg7 := GD.has kg7
    replace HD := HD.gro ((Gro.refl _).drew.trans GD)
    replace GG := GG.drew.trans GD
    clear GD
    refine s_gcallv 83 rfl rfl _ 18 Try.call18 rfl rfl _ rfl [.agg (c46 0 zF 0 false zF zF 0 0 0 0 0 Sl.nil Sl.nil zF 0 zF Sl.nil 0 0 Sl.nil), .agg (c46 0 zF 0 false zF zF 0 0 0 0 0 Sl.nil Sl.nil zF 0 zF Sl.nil 0 0 Sl.nil)] rfl (same00 _) ?_
    intro w15 G
    replace kgf := G.has kgf
    replace kgn := G.has kgn
    replace kgs := G.has kgs
    replace kg6 := G.has kg6
    replace kg7 := G.has kg7
    replace HD := HD.gro G
    replace GG := GG.trans G
    clear G
    refine nr ?_; intro U h; simp only [z0, z1] at h; subst h
    refine s_gval 84 rfl rfl (.bool false) (run_nt _ _ rfl true rfl) ?_
    refine nr ?_; intro U h; simp only [z0, z1] at h; subst h
    refine s_val 85 rfl rfl (.bool false) (rfl) ?_
    refine nr ?_; intro U h; simp only [z0, z1] at h; subst h
    refine wpList_nil ?_
    refine then_n ?_
    refine wp_cond_false rfl ?_
    refine wp_skip ?_
    refine blk_n ?_
    refine then_n ?_
    refine wp_region_lit ?_
    refine s_val 86 rfl rfl (.int .i64 ((0 + 1 : Nat) : Int)) (run_addI 3 _ _ _ rfl ((0 : Nat) : Int) 1 ((0 + 1 : Nat) : Int) rfl rfl (by omega) (by omega) (by omega) _) ?_
    refine nr ?_; intro U h; simp only [z0, z1] at h; subst h
    refine s_val 30 rfl rfl (.int .i64 ((0 + 1 : Nat) : Int)) (rfl) ?_
    refine nr ?_; intro U h; simp only [z0, z1] at h; subst h
    refine wpList_nil ?_
    refine then_n ?_
    exact ⟨_, (by omega : 2 - (0 + 1) < 2 - 0), 0 + 1, (fun kz => ([us1 0, .pointer none, .pointer (some ⟨g6, 0, none⟩), .pointer (some ⟨g7, 0, none⟩), .int .i64 10, .bool true, .pointer (some ⟨gs, 0, none⟩), .pointer none, .pointer none, .agg (c46 f.kind f.pw f.pn f.toA f.a f.b f.n f.fi f.fn f.ti f.tn f.tr f.ids f.key f.vn f.vw f.val f.op f.ttl f.tx), .agg (c29 oi on), .agg (c59 false false Sl.nil false Sl.nil), .tuple #[.agg (c46 0 zF 0 false zF zF 0 0 0 0 0 Sl.nil Sl.nil zF 0 zF Sl.nil 0 0 Sl.nil), .int .i64 10], .pointer none, .slice to tl.length tc, .tuple #[.agg (c46 0 zF 0 false zF zF 0 0 0 0 0 Sl.nil Sl.nil zF 0 zF Sl.nil 0 0 Sl.nil), .int .i64 10], .agg (c46 0 zF 0 false zF zF 0 0 0 0 0 Sl.nil Sl.nil zF 0 zF Sl.nil 0 0 Sl.nil), .int .i64 10, .pointer (some ⟨g6, 0, none⟩), .bool false, .bool false, .pointer (some ⟨g6, 1, none⟩), .bool false, .bool false, .bool false, .pointer (some ⟨g6, 3, none⟩), .bool false, .bool false, .bool false, .pointer (some ⟨g6, 2, none⟩), .slice none 0 0, .int .i64 0, .pointer (some ⟨g6, 4, none⟩), .slice none 0 0, .int .i64 0, .int .i64 0, .pointer none, .slice none 0 0, .int .i64 0, .int .i64 0, .bool false, .bool false, .bool false, .pointer none, .bool false, .bool false, .bool false, .pointer none, .bool false, .bool false, .bool false, .int .i64 10, .bool false, .bool false, .bool false, .agg (c46 0 zF 0 false zF zF 0 0 0 0 0 Sl.nil Sl.nil zF 0 zF Sl.nil 0 0 Sl.nil), .agg (c46 0 zF 0 false zF zF 0 0 0 0 0 Sl.nil Sl.nil zF 0 zF Sl.nil 0 0 Sl.nil), .bool true, .bool false, .bool false, .int .i64 ((0 + 1 : Nat) : Int)] : List Value).getD kz undef), rfl, rfl, (by omega), GG, kgf, kgn, kgs, HD⟩
  refine s_val 33 rfl rfl (.pointer (some ⟨p, 0, none⟩)) (run_ldc 25 _ rfl gs 1 rfl 25 _ kgs (na25 _) _ (two_at p 1 hjn)) ?_
  refine nr ?_; intro U h; simp only [z0, z1] at h; subst h
  refine s_val 10 rfl rfl (.pointer (some ⟨p, 0, none⟩)) (rfl) ?_
  refine nr ?_; intro U h; simp only [z0, z1] at h; subst h
  refine wpList_nil ?_
  refine then_n ?_
  refine wp_seq ?_
  refine wp_region_lit ?_
  refine s_val 34 rfl rfl (.pointer (some ⟨p, 0, none⟩)) (rfl) ?_
  refine nr ?_; intro U h; simp only [z0, z1] at h; subst h
  refine s_val 35 rfl rfl (.agg (c46 f.kind f.pw f.pn f.toA f.a f.b f.n f.fi f.fn f.ti f.tn f.tr f.ids f.key f.vn f.vw f.val f.op f.ttl f.tx)) (run_lda 46 _ rfl gf 0 95 rfl 46 _ kgf _ Try.underlying46 rfl si46 (Nat.le_of_ble_eq_true rfl) _ (by kernel_rfl)) ?_
  refine nr ?_; intro U h; simp only [z0, z1] at h; subst h
  refine s_val 36 rfl rfl (.agg (c29 oi on)) (run_lda 29 _ rfl gn 0 2 rfl 29 _ kgn _ Try.underlying29 rfl si29 (Nat.le_of_ble_eq_true rfl) _ (by kernel_rfl)) ?_
  refine nr ?_; intro U h; simp only [z0, z1] at h; subst h
  refine s_callv 37 rfl rfl _ 20 Try.call20 rfl rfl _ rfl [.pointer (some ⟨p, 0, none⟩), .agg (c46 f.kind f.pw f.pn f.toA f.a f.b f.n f.fi f.fn f.ti f.tn f.tr f.ids f.key f.vn f.vw f.val f.op f.ttl f.tx), .agg (c29 oi on)] rfl (hear_d _ p id HD f oi on) ?_
  intro w6 G
  replace kgf := G.has kgf
  replace kgn := G.has kgn
  replace kgs := G.has kgs
  replace HD := HD.gro G
  replace GG := GG.trans G
  clear G
  refine nr ?_; intro U h; simp only [z0, z1] at h; subst h
  refine s_alloc 11 rfl rfl 59 rfl _ zv59 _ rfl ?_
  intro w7 g6 G eg6 kg6
  have bg6 := size_base GG eg6
  have dgfg6 := lt_new kgf eg6
  have dgng6 := lt_new kgn eg6
  have dgsg6 := lt_new kgs eg6
  replace kgf := G.has kgf
  replace kgn := G.has kgn
  replace kgs := G.has kgs
  replace HD := HD.gro G
  replace GG := GG.trans G
  clear G eg6
  refine nr ?_; intro U h; simp only [z0, z1] at h; subst h
  refine s_store rfl rfl 59 _ _ rfl g6 0 rfl (.agg (c59 false false Sl.nil false Sl.nil)) rfl 59 _ kg6 (c59 false false Sl.nil false Sl.nil) rfl (by kernel_rfl) (Nat.le_of_ble_eq_true rfl) (by kernel_rfl) (c59 false false Sl.nil false Sl.nil) (by kernel_rfl) ?_
  intro w9 St
  replace kgf := St.has (by omega) kgf
  replace kgn := St.has (by omega) kgn
  replace kgs := St.has (by omega) kgs
  replace HD := HD.stT (by decide) (by decide) (by decide) (by decide) kg6 St
  replace GG := GG.store St bg6
  replace kg6 := St.new
  clear St
  refine wpList_nil ?_
  refine then_n ?_
  refine wp_seq ?_
  refine wp_region_lit ?_
  refine s_val 39 rfl rfl (.pointer (some ⟨p, 0, none⟩)) (rfl) ?_
  refine nr ?_; intro U h; simp only [z0, z1] at h; subst h
  refine s_val 40 rfl rfl (.slice to tl.length tc) (rfl) ?_
  refine nr ?_; intro U h; simp only [z0, z1] at h; subst h
  refine s_callv 41 rfl rfl _ 16 Try.call16 rfl rfl _ rfl [.pointer (some ⟨p, 0, none⟩), .slice to tl.length tc] rfl (send_d _ p id HD to tc tl) ?_
  intro w10 G
  replace kgf := G.has kgf
  replace kgn := G.has kgn
  replace kgs := G.has kgs
  replace kg6 := G.has kg6
  replace HD := HD.gro G
  replace GG := GG.trans G
  clear G
  refine nr ?_; intro U h; simp only [z0, z1] at h; subst h
  refine s_val 38 rfl rfl (.tuple #[.agg (c46 0 zF 0 false zF zF 0 0 0 0 0 Sl.nil Sl.nil zF 0 zF Sl.nil 0 0 Sl.nil), .int .i64 10]) (rfl) ?_
  refine nr ?_; intro U h; simp only [z0, z1] at h; subst h
  refine s_val 42 rfl rfl (.agg (c46 0 zF 0 false zF zF 0 0 0 0 0 Sl.nil Sl.nil zF 0 zF Sl.nil 0 0 Sl.nil)) (rfl) ?_
  refine nr ?_; intro U h; simp only [z0, z1] at h; subst h
  refine s_val 43 rfl rfl (.int .i64 10) (rfl) ?_
  refine nr ?_; intro U h; simp only [z0, z1] at h; subst h
  refine s_alloc 12 rfl rfl 46 rfl _ zv46 _ rfl ?_
  intro w11 g7 G eg7 kg7
  have bg7 := size_base GG eg7
  have dgfg7 := lt_new kgf eg7
  have dgng7 := lt_new kgn eg7
  have dgsg7 := lt_new kgs eg7
  have dg6g7 := lt_new kg6 eg7
  replace kgf := G.has kgf
  replace kgn := G.has kgn
  replace kgs := G.has kgs
  replace kg6 := G.has kg6
  replace HD := HD.gro G
  replace GG := GG.trans G
  clear G eg7
  refine nr ?_; intro U h; simp only [z0, z1] at h; subst h
  refine s_store rfl rfl 46 _ _ rfl g7 0 rfl (.agg (c46 0 zF 0 false zF zF 0 0 0 0 0 Sl.nil Sl.nil zF 0 zF Sl.nil 0 0 Sl.nil)) rfl 46 _ kg7 (c46 0 zF 0 false zF zF 0 0 0 0 0 Sl.nil Sl.nil zF 0 zF Sl.nil 0 0 Sl.nil) rfl (by kernel_rfl) (Nat.le_of_ble_eq_true rfl) (by kernel_rfl) (c46 0 zF 0 false zF zF 0 0 0 0 0 Sl.nil Sl.nil zF 0 zF Sl.nil 0 0 Sl.nil) (by kernel_rfl) ?_
  intro w13 St
  replace kgf := St.has (by omega) kgf
  replace kgn := St.has (by omega) kgn
  replace kgs := St.has (by omega) kgs
  replace kg6 := St.has (by omega) kg6
  replace HD := HD.stT (by decide) (by decide) (by decide) (by decide) kg7 St
  replace GG := GG.store St bg7
  replace kg7 := St.new
  clear St
  refine s_val 13 rfl rfl (.int .i64 10) (rfl) ?_
  refine nr ?_; intro U h; simp only [z0, z1] at h; subst h
  refine wpList_nil ?_
  refine then_n ?_
  refine wp_seq ?_
  refine wp_region_pm (A := ?Ap1) (fun _ x => Gro w x ∧ x.heap[gf]? = some (.cells (c46 f.kind f.pw f.pn f.toA f.a f.b f.n f.fi f.fn f.ti f.tn f.tr f.ids f.key f.vn f.vw f.val f.op f.ttl f.tx) 46 (0, 0)) ∧ x.heap[gn]? = some (.cells (c29 oi on) 29 (0, 0)) ∧ x.heap[gs]? = some (.cells #[Value.pointer none, Value.pointer (some ⟨p, 0, none⟩)] 25 (0, 0)) ∧ x.heap[g6]? = some (.cells (c59 false false Sl.nil false Sl.nil) 59 (0, 0)) ∧ x.heap[g7]? = some (.cells (c46 0 zF 0 false zF zF 0 0 0 0 0 Sl.nil Sl.nil zF 0 zF Sl.nil 0 0 Sl.nil) 46 (0, 0)) ∧ DownE x p id) 39 [(0, 44), (1, 45), (2, 46), (3, 47), (4, 48), (5, 49), (6, 50), (7, 51), (8, 52), (9, 53), (10, 54), (11, 55), (12, 56), (13, 57), (14, 58), (15, 59), (16, 60), (17, 61), (18, 62), (19, 63), (20, 64), (21, 65), (22, 66), (23, 67), (24, 68), (25, 69), (26, 70), (27, 71), (28, 72), (29, 73), (30, 74), (31, 75), (32, 76), (33, 77), (34, 78), (35, 79), (36, 80), (37, 81), (38, 82)] [.val (.pointer (some ⟨g6, 0, none⟩)), .val (.bool false), .val (.bool false), .val (.pointer (some ⟨g6, 1, none⟩)), .val (.bool false), .val (.bool false), .val (.bool false), .val (.pointer (some ⟨g6, 3, none⟩)), .val (.bool false), .val (.bool false), .val (.bool false), .val (.pointer (some ⟨g6, 2, none⟩)), .val (.slice none 0 0), .val (.int .i64 0), .val (.pointer (some ⟨g6, 4, none⟩)), .val (.slice none 0 0), .val (.int .i64 0), .val (.int .i64 0), .val (.pointer (some ⟨p, 0, none⟩)), .val (.slice none 0 0), .val (.int .i64 0), .val (.int .i64 0), .val (.bool false), .val (.bool false), .val (.bool false), .val (.pointer (some ⟨p, 0, none⟩)), .val (.bool false), .val (.bool false), .val (.bool false), .val (.pointer (some ⟨p, 0, none⟩)), .val (.bool false), .val (.bool false), .val (.bool false), .val (.int .i64 10), .val (.bool false), .val (.bool false), .val (.bool false), .val (.agg (c46 0 zF 0 false zF zF 0 0 0 0 0 Sl.nil Sl.nil zF 0 zF Sl.nil 0 0 Sl.nil)), .val (.agg (c46 0 zF 0 false zF zF 0 0 0 0 0 Sl.nil Sl.nil zF 0 zF Sl.nil 0 0 Sl.nil))] [] [] follows (by kernel_rfl) rfl (by kernel_rfl) (by decide) ⟨GG.drew, (Gro.refl _).drew.has kgf, (Gro.refl _).drew.has kgn, (Gro.refl _).drew.has kgs, (Gro.refl _).drew.has kg6, (Gro.refl _).drew.has kg7, HD.gro (Gro.refl _).drew⟩ ?hAp1 (opsM_g (fun _ _ _ h _ G => ⟨h.1.trans G, G.has h.2.1, G.has h.2.2.1, G.has h.2.2.2.1, G.has h.2.2.2.2.1, G.has h.2.2.2.2.2.1, h.2.2.2.2.2.2.gro G⟩) ?o0p1 (opsM_g (fun _ _ _ h _ G => ⟨h.1.trans G, G.has h.2.1, G.has h.2.2.1, G.has h.2.2.2.1, G.has h.2.2.2.2.1, G.has h.2.2.2.2.2.1, h.2.2.2.2.2.2.gro G⟩) ?o1p1 (opsM_g (fun _ _ _ h _ G => ⟨h.1.trans G, G.has h.2.1, G.has h.2.2.1, G.has h.2.2.2.1, G.has h.2.2.2.2.1, G.has h.2.2.2.2.2.1, h.2.2.2.2.2.2.gro G⟩) ?o2p1 (opsM_g (fun _ _ _ h _ G => ⟨h.1.trans G, G.has h.2.1, G.has h.2.2.1, G.has h.2.2.2.1, G.has h.2.2.2.2.1, G.has h.2.2.2.2.2.1, h.2.2.2.2.2.2.gro G⟩) ?o3p1 (opsM_g (fun _ _ _ h _ G => ⟨h.1.trans G, G.has h.2.1, G.has h.2.2.1, G.has h.2.2.2.1, G.has h.2.2.2.2.1, G.has h.2.2.2.2.2.1, h.2.2.2.2.2.2.gro G⟩) ?o4p1 (opsM_g (fun _ _ _ h _ G => ⟨h.1.trans G, G.has h.2.1, G.has h.2.2.1, G.has h.2.2.2.1, G.has h.2.2.2.2.1, G.has h.2.2.2.2.2.1, h.2.2.2.2.2.2.gro G⟩) ?o5p1 (opsM_g (fun _ _ _ h _ G => ⟨h.1.trans G, G.has h.2.1, G.has h.2.2.1, G.has h.2.2.2.1, G.has h.2.2.2.2.1, G.has h.2.2.2.2.2.1, h.2.2.2.2.2.2.gro G⟩) ?o6p1 (opsM_g (fun _ _ _ h _ G => ⟨h.1.trans G, G.has h.2.1, G.has h.2.2.1, G.has h.2.2.2.1, G.has h.2.2.2.2.1, G.has h.2.2.2.2.2.1, h.2.2.2.2.2.2.gro G⟩) ?o7p1 (opsM_g (fun _ _ _ h _ G => ⟨h.1.trans G, G.has h.2.1, G.has h.2.2.1, G.has h.2.2.2.1, G.has h.2.2.2.2.1, G.has h.2.2.2.2.2.1, h.2.2.2.2.2.2.gro G⟩) ?o8p1 (opsM_g (fun _ _ _ h _ G => ⟨h.1.trans G, G.has h.2.1, G.has h.2.2.1, G.has h.2.2.2.1, G.has h.2.2.2.2.1, G.has h.2.2.2.2.2.1, h.2.2.2.2.2.2.gro G⟩) ?o9p1 (opsM_g (fun _ _ _ h _ G => ⟨h.1.trans G, G.has h.2.1, G.has h.2.2.1, G.has h.2.2.2.1, G.has h.2.2.2.2.1, G.has h.2.2.2.2.2.1, h.2.2.2.2.2.2.gro G⟩) ?o10p1 (opsM_g (fun _ _ _ h _ G => ⟨h.1.trans G, G.has h.2.1, G.has h.2.2.1, G.has h.2.2.2.1, G.has h.2.2.2.2.1, G.has h.2.2.2.2.2.1, h.2.2.2.2.2.2.gro G⟩) ?o11p1 (opsM_g (fun _ _ _ h _ G => ⟨h.1.trans G, G.has h.2.1, G.has h.2.2.1, G.has h.2.2.2.1, G.has h.2.2.2.2.1, G.has h.2.2.2.2.2.1, h.2.2.2.2.2.2.gro G⟩) ?o12p1 (opsM_g (fun _ _ _ h _ G => ⟨h.1.trans G, G.has h.2.1, G.has h.2.2.1, G.has h.2.2.2.1, G.has h.2.2.2.2.1, G.has h.2.2.2.2.2.1, h.2.2.2.2.2.2.gro G⟩) ?o13p1 (opsM_g (fun _ _ _ h _ G => ⟨h.1.trans G, G.has h.2.1, G.has h.2.2.1, G.has h.2.2.2.1, G.has h.2.2.2.2.1, G.has h.2.2.2.2.2.1, h.2.2.2.2.2.2.gro G⟩) ?o14p1 (opsM_g (fun _ _ _ h _ G => ⟨h.1.trans G, G.has h.2.1, G.has h.2.2.1, G.has h.2.2.2.1, G.has h.2.2.2.2.1, G.has h.2.2.2.2.2.1, h.2.2.2.2.2.2.gro G⟩) ?o15p1 (opsM_g (fun _ _ _ h _ G => ⟨h.1.trans G, G.has h.2.1, G.has h.2.2.1, G.has h.2.2.2.1, G.has h.2.2.2.2.1, G.has h.2.2.2.2.2.1, h.2.2.2.2.2.2.gro G⟩) ?o16p1 (opsM_g (fun _ _ _ h _ G => ⟨h.1.trans G, G.has h.2.1, G.has h.2.2.1, G.has h.2.2.2.1, G.has h.2.2.2.2.1, G.has h.2.2.2.2.2.1, h.2.2.2.2.2.2.gro G⟩) ?o17p1 (opsM_g (fun _ _ _ h _ G => ⟨h.1.trans G, G.has h.2.1, G.has h.2.2.1, G.has h.2.2.2.1, G.has h.2.2.2.2.1, G.has h.2.2.2.2.2.1, h.2.2.2.2.2.2.gro G⟩) ?o18p1 (opsM_g (fun _ _ _ h _ G => ⟨h.1.trans G, G.has h.2.1, G.has h.2.2.1, G.has h.2.2.2.1, G.has h.2.2.2.2.1, G.has h.2.2.2.2.2.1, h.2.2.2.2.2.2.gro G⟩) ?o19p1 (opsM_g (fun _ _ _ h _ G => ⟨h.1.trans G, G.has h.2.1, G.has h.2.2.1, G.has h.2.2.2.1, G.has h.2.2.2.2.1, G.has h.2.2.2.2.2.1, h.2.2.2.2.2.2.gro G⟩) ?o20p1 (opsM_g (fun _ _ _ h _ G => ⟨h.1.trans G, G.has h.2.1, G.has h.2.2.1, G.has h.2.2.2.1, G.has h.2.2.2.2.1, G.has h.2.2.2.2.2.1, h.2.2.2.2.2.2.gro G⟩) ?o21p1 (opsM_g (fun _ _ _ h _ G => ⟨h.1.trans G, G.has h.2.1, G.has h.2.2.1, G.has h.2.2.2.1, G.has h.2.2.2.2.1, G.has h.2.2.2.2.2.1, h.2.2.2.2.2.2.gro G⟩) ?o22p1 (opsM_g (fun _ _ _ h _ G => ⟨h.1.trans G, G.has h.2.1, G.has h.2.2.1, G.has h.2.2.2.1, G.has h.2.2.2.2.1, G.has h.2.2.2.2.2.1, h.2.2.2.2.2.2.gro G⟩) ?o23p1 (opsM_g (fun _ _ _ h _ G => ⟨h.1.trans G, G.has h.2.1, G.has h.2.2.1, G.has h.2.2.2.1, G.has h.2.2.2.2.1, G.has h.2.2.2.2.2.1, h.2.2.2.2.2.2.gro G⟩) ?o24p1 (opsM_g (fun _ _ _ h _ G => ⟨h.1.trans G, G.has h.2.1, G.has h.2.2.1, G.has h.2.2.2.1, G.has h.2.2.2.2.1, G.has h.2.2.2.2.2.1, h.2.2.2.2.2.2.gro G⟩) ?o25p1 (opsM_w ?o26p1 (opsM_g (fun _ _ _ h _ G => ⟨h.1.trans G, G.has h.2.1, G.has h.2.2.1, G.has h.2.2.2.1, G.has h.2.2.2.2.1, G.has h.2.2.2.2.2.1, h.2.2.2.2.2.2.gro G⟩) ?o27p1 (opsM_g (fun _ _ _ h _ G => ⟨h.1.trans G, G.has h.2.1, G.has h.2.2.1, G.has h.2.2.2.1, G.has h.2.2.2.2.1, G.has h.2.2.2.2.2.1, h.2.2.2.2.2.2.gro G⟩) ?o28p1 (opsM_g (fun _ _ _ h _ G => ⟨h.1.trans G, G.has h.2.1, G.has h.2.2.1, G.has h.2.2.2.1, G.has h.2.2.2.2.1, G.has h.2.2.2.2.2.1, h.2.2.2.2.2.2.gro G⟩) ?o29p1 (opsM_g (fun _ _ _ h _ G => ⟨h.1.trans G, G.has h.2.1, G.has h.2.2.1, G.has h.2.2.2.1, G.has h.2.2.2.2.1, G.has h.2.2.2.2.2.1, h.2.2.2.2.2.2.gro G⟩) ?o30p1 (opsM_g (fun _ _ _ h _ G => ⟨h.1.trans G, G.has h.2.1, G.has h.2.2.1, G.has h.2.2.2.1, G.has h.2.2.2.2.1, G.has h.2.2.2.2.2.1, h.2.2.2.2.2.2.gro G⟩) ?o31p1 (opsM_g (fun _ _ _ h _ G => ⟨h.1.trans G, G.has h.2.1, G.has h.2.2.1, G.has h.2.2.2.1, G.has h.2.2.2.2.1, G.has h.2.2.2.2.2.1, h.2.2.2.2.2.2.gro G⟩) ?o32p1 (opsM_g (fun _ _ _ h _ G => ⟨h.1.trans G, G.has h.2.1, G.has h.2.2.1, G.has h.2.2.2.1, G.has h.2.2.2.2.1, G.has h.2.2.2.2.2.1, h.2.2.2.2.2.2.gro G⟩) ?o33p1 (opsM_g (fun _ _ _ h _ G => ⟨h.1.trans G, G.has h.2.1, G.has h.2.2.1, G.has h.2.2.2.1, G.has h.2.2.2.2.1, G.has h.2.2.2.2.2.1, h.2.2.2.2.2.2.gro G⟩) ?o34p1 (opsM_g (fun _ _ _ h _ G => ⟨h.1.trans G, G.has h.2.1, G.has h.2.2.1, G.has h.2.2.2.1, G.has h.2.2.2.2.1, G.has h.2.2.2.2.2.1, h.2.2.2.2.2.2.gro G⟩) ?o35p1 (opsM_g (fun _ _ _ h _ G => ⟨h.1.trans G, G.has h.2.1, G.has h.2.2.1, G.has h.2.2.2.1, G.has h.2.2.2.2.1, G.has h.2.2.2.2.2.1, h.2.2.2.2.2.2.gro G⟩) ?o36p1 (opsM_g (fun _ _ _ h _ G => ⟨h.1.trans G, G.has h.2.1, G.has h.2.2.1, G.has h.2.2.2.1, G.has h.2.2.2.2.1, G.has h.2.2.2.2.2.1, h.2.2.2.2.2.2.gro G⟩) ?o37p1 (opsM_g (fun _ _ _ h _ G => ⟨h.1.trans G, G.has h.2.1, G.has h.2.2.1, G.has h.2.2.2.1, G.has h.2.2.2.2.1, G.has h.2.2.2.2.2.1, h.2.2.2.2.2.2.gro G⟩) ?o38p1 opsM_nil))))))))))))))))))))))))))))))))))))))) ?restp1
  case hAp1 =>
    intro ptrs
    simp only [full, foldSlots, filledE, postE, List.foldl_cons, List.foldl_nil, List.getD_cons_zero, List.getD_cons_succ, fill_val,  List.set_cons_zero, List.set_cons_succ]
    exact rfl
  case o0p1 => exact fun _ _ x hx _ _ _ _ => opE_value (v := .pointer (some ⟨g6, 0, none⟩)) rfl (run_fld 59 _ 0 rfl _ _ rfl _ (by kernel_rfl))
  case o1p1 => exact fun _ _ x hx _ _ _ _ => opE_value (v := .bool false) rfl (run_ldc 4 _ rfl g6 0 rfl 59 _ hx.2.2.2.2.1 (na4 _) _ rfl)
  case o2p1 => exact fun _ _ _ _ _ _ _ _ => opE_move (v := .bool false) _ rfl rfl rfl
  case o3p1 => exact fun _ _ x hx _ _ _ _ => opE_value (v := .pointer (some ⟨g6, 1, none⟩)) rfl (run_fld 59 _ 1 rfl _ _ rfl _ (by kernel_rfl))
  case o4p1 => exact fun _ _ x hx _ _ _ _ => opE_value (v := .bool false) rfl (run_ldc 4 _ rfl g6 1 rfl 59 _ hx.2.2.2.2.1 (na4 _) _ rfl)
  case o5p1 => exact fun _ _ _ _ _ _ _ _ => opE_pick (v := .bool false) _ _ _ rfl rfl false rfl rfl
  case o6p1 => exact fun _ _ _ _ _ _ _ _ => opE_move (v := .bool false) _ rfl rfl rfl
  case o7p1 => exact fun _ _ x hx _ _ _ _ => opE_value (v := .pointer (some ⟨g6, 3, none⟩)) rfl (run_fld 59 _ 3 rfl _ _ rfl _ (by kernel_rfl))
  case o8p1 => exact fun _ _ x hx _ _ _ _ => opE_value (v := .bool false) rfl (run_ldc 4 _ rfl g6 3 rfl 59 _ hx.2.2.2.2.1 (na4 _) _ rfl)
  case o9p1 => exact fun _ _ _ _ _ _ _ _ => opE_pick (v := .bool false) _ _ _ rfl rfl false rfl rfl
  case o10p1 => exact fun _ _ _ _ _ _ _ _ => opE_move (v := .bool false) _ rfl rfl rfl
  case o11p1 => exact fun _ _ x hx _ _ _ _ => opE_value (v := .pointer (some ⟨g6, 2, none⟩)) rfl (run_fld 59 _ 2 rfl _ _ rfl _ (by kernel_rfl))
  case o12p1 => exact fun _ _ x hx _ _ _ _ => opE_value (v := .slice none 0 0) rfl (run_ldc 36 _ rfl g6 2 rfl 59 _ hx.2.2.2.2.1 (na36 _) _ rfl)
  case o13p1 => exact fun _ _ x hx _ _ _ _ => opE_value (v := .int .i64 0) rfl (run_len Try.underlying36 _ rfl _ _ _ rfl _)
  case o14p1 => exact fun _ _ x hx _ _ _ _ => opE_value (v := .pointer (some ⟨g6, 4, none⟩)) rfl (run_fld 59 _ 4 rfl _ _ rfl _ (by kernel_rfl))
  case o15p1 => exact fun _ _ x hx _ _ _ _ => opE_value (v := .slice none 0 0) rfl (run_ldc 50 _ rfl g6 4 rfl 59 _ hx.2.2.2.2.1 (na50 _) _ rfl)
  case o16p1 => exact fun _ _ x hx _ _ _ _ => opE_value (v := .int .i64 0) rfl (run_len Try.underlying50 _ rfl _ _ _ rfl _)
  case o17p1 => exact fun _ _ x hx _ _ _ _ => opE_value (v := .int .i64 0) rfl (run_addI 3 _ _ _ rfl 0 0 0 rfl rfl (by omega) (by omega) (by omega) _)
  case o18p1 => exact fun _ _ _ _ _ _ _ _ => opE_move (v := .pointer (some ⟨p, 0, none⟩)) _ rfl rfl rfl
  case o19p1 => exact fun _ _ x hx _ _ _ _ => opE_call (.val (.slice none 0 0)) rfl _ 14 Try.call14 rfl rfl _ rfl [.pointer (some ⟨p, 0, none⟩)] rfl ((tick_d _ p id hx.2.2.2.2.2.2).mono fun e w' ⟨he, hg⟩ => ⟨_, he, hg, rfl⟩)
  case o20p1 => exact fun _ _ x hx _ _ _ _ => opE_value (v := .int .i64 0) rfl (run_len Try.underlying50 _ rfl _ _ _ rfl _)
  case o21p1 => exact fun _ _ x hx _ _ _ _ => opE_value (v := .int .i64 0) rfl (run_addI 3 _ _ _ rfl 0 0 0 rfl rfl (by omega) (by omega) (by omega) _)
  case o22p1 => exact fun _ _ x hx _ _ _ _ => opE_value (v := .bool false) rfl (run_gtrT 3 _ _ _ rfl 0 0 rfl rfl false (decide_eq_false (by omega)) _)
  case o23p1 => exact fun _ _ _ _ _ _ _ _ => opE_pick (v := .bool false) _ _ _ rfl rfl false rfl rfl
  case o24p1 => exact fun _ _ _ _ _ _ _ _ => opE_move (v := .bool false) _ rfl rfl rfl
  case o25p1 => exact fun _ _ _ _ _ _ _ _ => opE_move (v := .pointer (some ⟨p, 0, none⟩)) _ rfl rfl rfl
  case o26p1 =>
    intro L ptrs x hx hL hed hno _
    exact opX_call (.val (.bool false)) rfl _ 12 Try.call12 rfl rfl _ rfl [.pointer (some ⟨p, 0, none⟩)] rfl ((fall_d _ p id hx.2.2.2.2.2.2).mono fun e y ⟨he, G, HD2⟩ => ⟨_, he, ⟨⟨G.gro hx.1 (by simp; omega), G.has hx.2.1 (hx.2.2.2.2.2.2.not hx.2.1 (by decide)), G.has hx.2.2.1 (hx.2.2.2.2.2.2.not hx.2.2.1 (by decide)), G.has hx.2.2.2.1 (hx.2.2.2.2.2.2.not hx.2.2.2.1 (by decide)), G.has hx.2.2.2.2.1 (hx.2.2.2.2.2.2.not hx.2.2.2.2.1 (by decide)), G.has hx.2.2.2.2.2.1 (hx.2.2.2.2.2.2.not hx.2.2.2.2.2.1 (by decide)), HD2⟩, StM.vals [0, 1, 2, 3, 4, 5, 6, 7, 8, 9, 10, 11, 12, 13, 14, 15, 16, 17, 18, 19, 20, 21, 22, 23, 24, 25, 27, 28, 29, 30, 31, 32, 33, 34, 35, 36, 37, 38] (by kernel_rfl) ⟨⟨_, rfl⟩, ⟨_, rfl⟩, ⟨_, rfl⟩, ⟨_, rfl⟩, ⟨_, rfl⟩, ⟨_, rfl⟩, ⟨_, rfl⟩, ⟨_, rfl⟩, ⟨_, rfl⟩, ⟨_, rfl⟩, ⟨_, rfl⟩, ⟨_, rfl⟩, ⟨_, rfl⟩, ⟨_, rfl⟩, ⟨_, rfl⟩, ⟨_, rfl⟩, ⟨_, rfl⟩, ⟨_, rfl⟩, ⟨_, rfl⟩, ⟨_, rfl⟩, ⟨_, rfl⟩, ⟨_, rfl⟩, ⟨_, rfl⟩, ⟨_, rfl⟩, ⟨_, rfl⟩, ⟨_, rfl⟩, ⟨_, rfl⟩, ⟨_, rfl⟩, ⟨_, rfl⟩, ⟨_, rfl⟩, ⟨_, rfl⟩, ⟨_, rfl⟩, ⟨_, rfl⟩, ⟨_, rfl⟩, ⟨_, rfl⟩, ⟨_, rfl⟩, ⟨_, rfl⟩, ⟨_, rfl⟩, trivial⟩⟩, rfl⟩)
  case o27p1 => exact fun _ _ _ _ _ _ _ _ => opE_pick (v := .bool false) _ _ _ rfl rfl false rfl rfl
  case o28p1 => exact fun _ _ _ _ _ _ _ _ => opE_move (v := .bool false) _ rfl rfl rfl
  case o29p1 => exact fun _ _ _ _ _ _ _ _ => opE_move (v := .pointer (some ⟨p, 0, none⟩)) _ rfl rfl rfl
  case o30p1 => exact fun _ _ x hx _ _ _ _ => opE_call (.val (.bool false)) rfl _ 28 Try.call28 rfl rfl _ rfl [.pointer (some ⟨p, 0, none⟩)] rfl ((up_d _ p id hx.2.2.2.2.2.2).mono fun e w' ⟨he, hg⟩ => ⟨_, he, hg, rfl⟩)
  case o31p1 => exact fun _ _ _ _ _ _ _ _ => opE_pick (v := .bool false) _ _ _ rfl rfl false rfl rfl
  case o32p1 => exact fun _ _ _ _ _ _ _ _ => opE_move (v := .bool false) _ rfl rfl rfl
  case o33p1 => exact fun _ _ _ _ _ _ _ _ => opE_move (v := .int .i64 10) _ rfl rfl rfl
  case o34p1 => exact fun _ _ x hx _ _ _ _ => opE_value (v := .bool false) rfl (run_neq_k 53 .i64 _ _ _ rfl Try.underlying53 _ _ rfl rfl false rfl _)
  case o35p1 => exact fun _ _ _ _ _ _ _ _ => opE_pick (v := .bool false) _ _ _ rfl rfl false rfl rfl
  case o36p1 => exact fun _ _ _ _ _ _ _ _ => opE_move (v := .bool false) _ rfl rfl rfl
  case o37p1 => exact fun _ _ x hx _ _ _ _ => opE_value (v := .agg (c46 0 zF 0 false zF zF 0 0 0 0 0 Sl.nil Sl.nil zF 0 zF Sl.nil 0 0 Sl.nil)) rfl (run_lda 46 _ rfl g7 0 95 rfl 46 _ hx.2.2.2.2.2.1 _ Try.underlying46 rfl si46 (Nat.le_of_ble_eq_true rfl) _ (by kernel_rfl))
  case o38p1 => exact fun _ _ x hx _ _ _ _ => opE_value (v := .agg (c46 0 zF 0 false zF zF 0 0 0 0 0 Sl.nil Sl.nil zF 0 zF Sl.nil 0 0 Sl.nil)) rfl (run_bd 46 _ rfl [] rfl _ (by kernel_rfl))
  intro ptrs w14 HJ _
  simp only [List.drop_succ_cons, List.drop_zero]
  clear GG kgf kgn kgs kg6 kg7 HD
  obtain ⟨GG, kgf, kgn, kgs, kg6, kg7, HD⟩ := HJ
  refine s_gcallv 83 rfl rfl _ 18 Try.call18 rfl rfl _ rfl [.agg (c46 0 zF 0 false zF zF 0 0 0 0 0 Sl.nil Sl.nil zF 0 zF Sl.nil 0 0 Sl.nil), .agg (c46 0 zF 0 false zF zF 0 0 0 0 0 Sl.nil Sl.nil zF 0 zF Sl.nil 0 0 Sl.nil)] rfl (same00 _) ?_
  intro w15 G
  replace kgf := G.has kgf
  replace kgn := G.has kgn
  replace kgs := G.has kgs
  replace kg6 := G.has kg6
  replace kg7 := G.has kg7
  replace HD := HD.gro G
  replace GG := GG.trans G
  clear G
  refine nr ?_; intro U h; simp only [z0, z1] at h; subst h
  refine s_gval 84 rfl rfl (.bool false) (run_nt _ _ rfl true rfl) ?_
  refine nr ?_; intro U h; simp only [z0, z1] at h; subst h
  refine s_val 85 rfl rfl (.bool false) (rfl) ?_
  refine nr ?_; intro U h; simp only [z0, z1] at h; subst h
  refine wpList_nil ?_
  refine then_n ?_
  refine wp_cond_false rfl ?_
  refine wp_skip ?_
  refine blk_n ?_
  refine then_n ?_
  refine wp_region_lit ?_
  refine s_val 86 rfl rfl (.int .i64 ((1 + 1 : Nat) : Int)) (run_addI 3 _ _ _ rfl ((1 : Nat) : Int) 1 ((1 + 1 : Nat) : Int) rfl rfl (by omega) (by omega) (by omega) _) ?_
  refine nr ?_; intro U h; simp only [z0, z1] at h; subst h
  refine s_val 30 rfl rfl (.int .i64 ((1 + 1 : Nat) : Int)) (rfl) ?_
  refine nr ?_; intro U h; simp only [z0, z1] at h; subst h
  refine wpList_nil ?_
  refine then_n ?_
  exact ⟨_, (by omega : 2 - (1 + 1) < 2 - 1), 1 + 1, (fun kz => ([us1 0, .pointer (some ⟨p, 0, none⟩), .pointer (some ⟨g6, 0, none⟩), .pointer (some ⟨g7, 0, none⟩), .int .i64 10, .bool true, .pointer (some ⟨gs, 1, none⟩), .pointer (some ⟨p, 0, none⟩), .pointer (some ⟨p, 0, none⟩), .agg (c46 f.kind f.pw f.pn f.toA f.a f.b f.n f.fi f.fn f.ti f.tn f.tr f.ids f.key f.vn f.vw f.val f.op f.ttl f.tx), .agg (c29 oi on), .agg (c59 false false Sl.nil false Sl.nil), .tuple #[.agg (c46 0 zF 0 false zF zF 0 0 0 0 0 Sl.nil Sl.nil zF 0 zF Sl.nil 0 0 Sl.nil), .int .i64 10], .pointer (some ⟨p, 0, none⟩), .slice to tl.length tc, .tuple #[.agg (c46 0 zF 0 false zF zF 0 0 0 0 0 Sl.nil Sl.nil zF 0 zF Sl.nil 0 0 Sl.nil), .int .i64 10], .agg (c46 0 zF 0 false zF zF 0 0 0 0 0 Sl.nil Sl.nil zF 0 zF Sl.nil 0 0 Sl.nil), .int .i64 10, .pointer (some ⟨g6, 0, none⟩), .bool false, .bool false, .pointer (some ⟨g6, 1, none⟩), .bool false, .bool false, .bool false, .pointer (some ⟨g6, 3, none⟩), .bool false, .bool false, .bool false, .pointer (some ⟨g6, 2, none⟩), .slice none 0 0, .int .i64 0, .pointer (some ⟨g6, 4, none⟩), .slice none 0 0, .int .i64 0, .int .i64 0, .pointer (some ⟨p, 0, none⟩), .slice none 0 0, .int .i64 0, .int .i64 0, .bool false, .bool false, .bool false, .pointer (some ⟨p, 0, none⟩), .bool false, .bool false, .bool false, .pointer (some ⟨p, 0, none⟩), .bool false, .bool false, .bool false, .int .i64 10, .bool false, .bool false, .bool false, .agg (c46 0 zF 0 false zF zF 0 0 0 0 0 Sl.nil Sl.nil zF 0 zF Sl.nil 0 0 Sl.nil), .agg (c46 0 zF 0 false zF zF 0 0 0 0 0 Sl.nil Sl.nil zF 0 zF Sl.nil 0 0 Sl.nil), .bool true, .bool false, .bool false, .int .i64 ((1 + 1 : Nat) : Int)] : List Value).getD kz undef), rfl, rfl, (by omega), GG, kgf, kgn, kgs, HD⟩
end Go.Proofs.Ytlfanecaglbomaa
