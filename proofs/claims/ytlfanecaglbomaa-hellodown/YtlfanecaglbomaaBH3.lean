/- The program's end: Rise, Fall, Send, Window, Waiting, what comes of a greeting. -/
import Derived.Test.YtlfanecaglbomaaBH2
namespace Go.Proofs.Ytlfanecaglbomaa
open Go.RowKit
theorem WX.notT {t : TypeId} {cs : Array Value} {w : World} {p B : Nat} {ao : Option Addr} {cap : Nat} {q : List RV} (H : WX t cs w p B ao cap q) {g : Nat} {t' : TypeId} {c : Array Value} (hg : w.heap[g]? = some (.cells c t' (0, 0))) (ht : t' ≠ t) (h36 : t' ≠ 36) : g ∉ p :: blk ao := fun h => by
  rcases List.mem_cons.1 h with rfl | h
  · exact ne_type hg H.box ht rfl
  · exact H.row.ne hg h36 h
/-- What is there was there, or is new. -/
def Fresh (w : World) (a b : List Nat) : Prop := ∀ k ∈ b, k ∈ a ∨ w.heap.size ≤ k
theorem Fresh.refl (w : World) (a : List Nat) : Fresh w a a := fun _ h => .inl h
theorem Fresh.nil0 (w : World) (a : List Nat) : Fresh w a [] := fun _ h => by cases h
theorem Fresh.win {w : World} {p wp wp2 : Nat} {S : List Nat} (h : w.heap.size ≤ wp2) : Fresh w (p :: wp :: S) (p :: wp2 :: blk Option.none) := fun k hk => by
  rcases List.mem_cons.1 hk with rfl | hk
  · exact .inl List.mem_cons_self
  · rcases List.mem_cons.1 hk with rfl | hk
    · exact .inr h
    · cases hk
theorem Fresh.row {w : World} {p wp : Nat} {ro ro2 : Option Addr} (h : Kept w.heap.size ro ro2) : Fresh w (p :: wp :: blk ro) (p :: wp :: blk ro2) := fun k hk => by
  rcases List.mem_cons.1 hk with rfl | hk
  · exact .inl List.mem_cons_self
  · rcases List.mem_cons.1 hk with rfl | hk
    · exact .inl (List.mem_cons_of_mem _ List.mem_cons_self)
    · exact (h k hk).imp (fun h => List.mem_cons_of_mem _ (List.mem_cons_of_mem _ h)) id
def txb (q : List RV) : List Nat := q.flatMap fun y => blk y.ao
theorem Fresh.drop (w : World) (q : List RV) (m : Nat) : Fresh w (txb q) (txb (q.drop m)) := fun _ hk => by
  obtain ⟨z, hz, hk⟩ := List.mem_flatMap.1 hk
  exact .inl (List.mem_flatMap.2 ⟨z, List.mem_of_mem_drop hz, hk⟩)
/-- An end, and the blocks in which it is. -/
def EX (w : World) (p : Nat) (id : Nat → Nat) (x : ES) (mu tb : List Nat) : Prop := ∃ (wp B : Nat) (ro : Option Addr) (rc : Nat) (q : List RV), EW w p wp B id x.up x.op x.mi x.mn x.pi x.pn x.oth ro rc q x.k x.c ∧ q.map (·.l) = x.q ∧ mu = p :: wp :: blk ro ∧ tb = txb q
/-- What comes of a frame, in memory. -/
def TV (w : World) (t : PT) (v : Value) : Prop := ∃ (ao : Option Addr) (cap : Nat) (oo : Option Addr) (oc : Nat) (fs : List (PF × Fr)), v = .agg (c59 t.died t.opened ⟨ao, t.tx.length, cap⟩ t.came ⟨oo, fs.length, oc⟩) ∧ OB w 5 .u8 0 ao cap t.tx ∧ fs.map (·.1) = t.out ∧ LF w 0 oo oc fs
theorem TV.no (w : World) : TV w PT.no (.agg (c59 false false Sl.nil false Sl.nil)) := ⟨none, 0, none, 0, [], rfl, OB.nil _ _ _ _, rfl, LF.nil _ _⟩
theorem TV.one {w : World} {d o : Bool} {g : Nat} {m : PF} {f : Fr} (hg : w.heap[g]? = some (.cells (frA f) 46 (0, 0))) (h : FV w m f) : TV w ⟨d, o, [], false, [m]⟩ (.agg (c59 d o Sl.nil false ⟨some ⟨g, 0, none⟩, 1, 1⟩)) := ⟨none, 0, some ⟨g, 0, none⟩, 1, [(m, f)], rfl, OB.nil _ _ _ _, rfl, LF.one hg (Nat.zero_le _) h⟩
/-- What a call leaves of an end. -/
def HearP (w : World) (p : Nat) (id : Nat → Nat) (mu tb : List Nat) (r : ES × PT) (e : Ending) (w' : World) : Prop := ∃ v mu' tb', e = .returned v ∧ TV w' r.2 v ∧ EX w' p id r.1 mu' tb' ∧ GroS mu w w' ∧ Fresh w mu mu' ∧ Fresh w tb tb'
/-- A new block. -/
def alE (M : Nat) (t : TypeId) (cs : Array Value) : PostE := PostE.ex (fun v x => ∃ g, v = .pointer (some ⟨g, 0, none⟩) ∧ M ≤ g ∧ x.heap[g]? = some (.cells cs t (0, 0))) (fun _ _ _ G ⟨g, h1, h2, h3⟩ => ⟨g, h1, h2, G.has h3⟩)
theorem fill_al (M : Nat) (t : TypeId) (cs : Array Value) (v : Value) : (alE M t cs).fill v = v := rfl
theorem opE_al {P : Program} {ops : Array Oper} {o : Oper} {A : Act} {w : World} {M : Nat} (hw : Region.wanted o (yielded ops A.tmps) = true) (t : TypeId) (ho : o.op = .alloc t) (v : Value) (hz : (zeroValue t).run P w = .ok v w) (cs : Array Value) (hc : v.cells = cs) (hM : M ≤ w.heap.size) : OpE P ops (alE M t cs) o A w := by
  refine opE_new _ hw (v := .pointer (some ⟨w.heap.size, 0, none⟩)) (w' := w.alloc (.cells cs t)) ?_ (gro_alloc _ _) ⟨w.heap.size, rfl, hM, heap_alloc_new _ _⟩
  subst hc
  unfold execOp
  simp [ho, hz, go_sem, Instr.alloc]
set_option maxRecDepth 100000 in
set_option maxHeartbeats 4000000 in
theorem rise_nil (w : World) (ni nn : Int) : Calls Try.prog 10 #[.pointer none, .agg (c29 ni nn)] w fun e w' => e = .returned (.slice none 0 0) ∧ Gro w w' := by
  refine s_enter Try.func10 rfl Try.ntmps10 [.pointer none, .agg (c29 ni nn)] [.pointer none, .agg (c29 ni nn), undef, undef, undef, undef, undef, undef, undef, undef, undef, undef, undef, undef, undef, undef, undef, undef, undef, undef, undef, undef, undef] rfl ?_
  have GG := Gro.refl w
  refine wp_seq ?_
  refine wp_region_lit ?_
  refine s_box 3 rfl rfl 29 _ rfl _ rfl (c29 ni nn) rfl ?_
  intro w1 g1 G eg1 kg1
  have bg1 := size_base GG eg1
  replace GG := GG.trans G
  clear G eg1
  refine nr ?_; intro U h; simp only [z0, z1] at h; subst h
  refine s_val 4 rfl rfl (.slice none 0 0) (rfl) ?_
  refine nr ?_; intro U h; simp only [z0, z1] at h; subst h
  refine wpList_nil ?_
  refine then_n ?_
  refine wp_seq ?_
  refine wp_seq ?_
  refine wp_region_opq ?_
  intro OPS hY
  have y2 := hY 2 7 rfl
  clear hY
  refine s_val 5 rfl rfl (.pointer none) (rfl) ?_
  refine nr ?_; intro U h; simp only [z0, z1] at h; subst h
  refine s_val 6 rfl rfl (.bool true) (run_eqnn 25 _ _ _ rfl rfl rfl Try.underlying25 _) ?_
  refine nr ?_; intro U h; simp only [z0, z1] at h; subst h
  refine s_val 7 rfl rfl (.bool true) (rfl) ?_
  refine nr ?_; intro U h; simp only [z0, z1] at h; subst h
  refine s_skipY 8 rfl rfl y2 rfl ?_
  refine nr ?_; intro U h; simp only [z0, z1] at h; subst h
  refine s_skipY 9 rfl rfl y2 rfl ?_
  refine nr ?_; intro U h; simp only [z0, z1] at h; subst h
  refine s_skipY 10 rfl rfl y2 rfl ?_
  refine nr ?_; intro U h; simp only [z0, z1] at h; subst h
  refine s_skipY 11 rfl rfl y2 rfl ?_
  refine nr ?_; intro U h; simp only [z0, z1] at h; subst h
  refine s_val 12 rfl rfl (.bool true) (rfl) ?_
  refine nr ?_; intro U h; simp only [z0, z1] at h; subst h
  refine wpList_nil ?_
  refine then_n ?_
  refine wp_cond_true rfl ?_
  refine wp_seq ?_
  refine wp_region_lit ?_
  refine s_val 4 rfl rfl (.slice none 0 0) (rfl) ?_
  refine nr ?_; intro U h; simp only [z0, z1] at h; subst h
  refine wpList_nil ?_
  refine then_n ?_
  refine wp_ret ?_
  refine then_r ?_
  refine bodyPost_ret (results_tmp Try.results10 _ _ _) rfl ?_
  exact ⟨rfl, GG⟩
set_option maxRecDepth 100000 in
set_option maxHeartbeats 4000000 in
theorem rise_up (w : World) (p wp B : Nat) (id : Nat → Nat) (op : Bool) (mi mn pi pn : Int) (oth : Nat → Nat) (ro : Option Addr) (rc : Nat) (q : List RV) (k c : Nat) (H : EW w p wp B id true op mi mn pi pn oth ro rc q k c) (ni nn : Int) : Calls Try.prog 10 #[.pointer (some ⟨p, 0, none⟩), .agg (c29 ni nn)] w fun e w' => e = .returned (.slice none 0 0) ∧ Gro w w' := by
  refine s_enter Try.func10 rfl Try.ntmps10 [.pointer (some ⟨p, 0, none⟩), .agg (c29 ni nn)] [.pointer (some ⟨p, 0, none⟩), .agg (c29 ni nn), undef, undef, undef, undef, undef, undef, undef, undef, undef, undef, undef, undef, undef, undef, undef, undef, undef, undef, undef, undef, undef] rfl ?_
  have GG := Gro.refl w
  have kp := H.box
  have HW := H.win
  have hpl := lt_of_heap kp
  refine wp_seq ?_
  refine wp_region_lit ?_
  refine s_box 3 rfl rfl 29 _ rfl _ rfl (c29 ni nn) rfl ?_
  intro w1 g1 G eg1 kg1
  have bg1 := size_base GG eg1
  have dpg1 := lt_new kp eg1
  replace kp := G.has kp
  replace HW := HW.gro G
  replace GG := GG.trans G
  clear G eg1
  refine nr ?_; intro U h; simp only [z0, z1] at h; subst h
  refine s_val 4 rfl rfl (.slice none 0 0) (rfl) ?_
  refine nr ?_; intro U h; simp only [z0, z1] at h; subst h
  refine wpList_nil ?_
  refine then_n ?_
  refine wp_seq ?_
  refine wp_seq ?_
  refine wp_region_opq ?_
  intro OPS hY
  have y2 := hY 2 7 rfl
  clear hY
  refine s_val 5 rfl rfl (.pointer (some ⟨p, 0, none⟩)) (rfl) ?_
  refine nr ?_; intro U h; simp only [z0, z1] at h; subst h
  refine s_val 6 rfl rfl (.bool false) (run_eqnp 25 _ _ _ rfl _ rfl rfl Try.underlying25 _) ?_
  refine nr ?_; intro U h; simp only [z0, z1] at h; subst h
  refine s_val 7 rfl rfl (.bool false) (rfl) ?_
  refine nr ?_; intro U h; simp only [z0, z1] at h; subst h
  refine s_gvalY 8 rfl rfl y2 rfl (.pointer (some ⟨p, 0, none⟩)) (rfl) ?_
  refine nr ?_; intro U h; simp only [z0, z1] at h; subst h
  refine s_gvalY 9 rfl rfl y2 rfl (.pointer (some ⟨p, 0, none⟩)) (run_nc _ rfl _ rfl) ?_
  refine nr ?_; intro U h; simp only [z0, z1] at h; subst h
  refine s_gvalY 10 rfl rfl y2 rfl (.pointer (some ⟨p, 16, none⟩)) (run_fld 98 _ 1 rfl _ _ rfl _ (by kernel_rfl)) ?_
  refine nr ?_; intro U h; simp only [z0, z1] at h; subst h
  refine s_gvalY 11 rfl rfl y2 rfl (.bool true) (run_ldc 4 _ rfl p 16 rfl 98 _ kp (na4 _) _ rfl) ?_
  refine nr ?_; intro U h; simp only [z0, z1] at h; subst h
  refine s_val 12 rfl rfl (.bool true) (rfl) ?_
  refine nr ?_; intro U h; simp only [z0, z1] at h; subst h
  refine wpList_nil ?_
  refine then_n ?_
  refine wp_cond_true rfl ?_
  refine wp_seq ?_
  refine wp_region_lit ?_
  refine s_val 4 rfl rfl (.slice none 0 0) (rfl) ?_
  refine nr ?_; intro U h; simp only [z0, z1] at h; subst h
  refine wpList_nil ?_
  refine then_n ?_
  refine wp_ret ?_
  refine then_r ?_
  refine bodyPost_ret (results_tmp Try.results10 _ _ _) rfl ?_
  exact ⟨rfl, GG⟩
set_option maxRecDepth 100000 in
set_option maxHeartbeats 4000000 in
theorem rise_down (w : World) (p wp B : Nat) (id : Nat → Nat) (op : Bool) (mi mn pi pn : Int) (oth : Nat → Nat) (ro : Option Addr) (rc : Nat) (q : List RV) (k c : Nat) (H : EW w p wp B id false op mi mn pi pn oth ro rc q k c) (ni nn : Int) : Calls Try.prog 10 #[.pointer (some ⟨p, 0, none⟩), .agg (c29 ni nn)] w fun e w' => ∃ g f, e = .returned (.slice (some ⟨g, 0, none⟩) 1 1) ∧ GroS [p] w w' ∧ EW w' p wp B id true op ni nn pi pn oth ro rc q k c ∧ LF w' w.heap.size (some ⟨g, 0, none⟩) 1 [(⟨1, id, ni, nn, pi, pn, 0, []⟩, f)] := by
  refine s_enter Try.func10 rfl Try.ntmps10 [.pointer (some ⟨p, 0, none⟩), .agg (c29 ni nn)] [.pointer (some ⟨p, 0, none⟩), .agg (c29 ni nn), undef, undef, undef, undef, undef, undef, undef, undef, undef, undef, undef, undef, undef, undef, undef, undef, undef, undef, undef, undef, undef] rfl ?_
  have GG := GroS.refl [p] w
  have kp := H.box
  have HW := H.win
  have hpl := lt_of_heap kp
  refine wp_seq ?_
  refine wp_region_lit ?_
  refine s_box 3 rfl rfl 29 _ rfl _ rfl (c29 ni nn) rfl ?_
  intro w1 g1 G eg1 kg1
  have bg1 := size_basS GG eg1
  have dpg1 := lt_new kp eg1
  replace kp := G.has kp
  replace HW := HW.gro G
  replace GG := GG.tg G
  clear G eg1
  refine nr ?_; intro U h; simp only [z0, z1] at h; subst h
  refine s_val 4 rfl rfl (.slice none 0 0) (rfl) ?_
  refine nr ?_; intro U h; simp only [z0, z1] at h; subst h
  refine wpList_nil ?_
  refine then_n ?_
  refine wp_seq ?_
  refine wp_seq ?_
  refine wp_region_opq ?_
  intro OPS hY
  have y2 := hY 2 7 rfl
  clear hY
  refine s_val 5 rfl rfl (.pointer (some ⟨p, 0, none⟩)) (rfl) ?_
  refine nr ?_; intro U h; simp only [z0, z1] at h; subst h
  refine s_val 6 rfl rfl (.bool false) (run_eqnp 25 _ _ _ rfl _ rfl rfl Try.underlying25 _) ?_
  refine nr ?_; intro U h; simp only [z0, z1] at h; subst h
  refine s_val 7 rfl rfl (.bool false) (rfl) ?_
  refine nr ?_; intro U h; simp only [z0, z1] at h; subst h
  refine s_gvalY 8 rfl rfl y2 rfl (.pointer (some ⟨p, 0, none⟩)) (rfl) ?_
  refine nr ?_; intro U h; simp only [z0, z1] at h; subst h
  refine s_gvalY 9 rfl rfl y2 rfl (.pointer (some ⟨p, 0, none⟩)) (run_nc _ rfl _ rfl) ?_
  refine nr ?_; intro U h; simp only [z0, z1] at h; subst h
  refine s_gvalY 10 rfl rfl y2 rfl (.pointer (some ⟨p, 16, none⟩)) (run_fld 98 _ 1 rfl _ _ rfl _ (by kernel_rfl)) ?_
  refine nr ?_; intro U h; simp only [z0, z1] at h; subst h
  refine s_gvalY 11 rfl rfl y2 rfl (.bool false) (run_ldc 4 _ rfl p 16 rfl 98 _ kp (na4 _) _ rfl) ?_
  refine nr ?_; intro U h; simp only [z0, z1] at h; subst h
  refine s_val 12 rfl rfl (.bool false) (rfl) ?_
  refine nr ?_; intro U h; simp only [z0, z1] at h; subst h
  refine wpList_nil ?_
  refine then_n ?_
  refine wp_cond_false rfl ?_
  refine wp_skip ?_
  refine then_n ?_
  refine wp_seq ?_
  refine wp_region_pm (A := ?Ap1) (fun L x => GroS [p] w x ∧ x.heap[p]? = some (.cells (cond (L 5) (c98 id true op mi mn pi pn oth (some ⟨wp, 0, none⟩)) (c98 id false op mi mn pi pn oth (some ⟨wp, 0, none⟩))) 98 (0, 0)) ∧ x.heap[g1]? = some (.cells (c29 ni nn) 29 (0, 0)) ∧ WX 121 (c121 ((k + q.length : Nat) : Int) ⟨ro, q.length, rc⟩ ((c : Nat) : Int)) x wp B ro rc q) 6 [(0, 13), (1, 14), (2, 15), (3, 16), (4, 17)] [.val (.pointer (some ⟨p, 0, none⟩)), .val (.pointer (some ⟨p, 0, none⟩)), .val (.agg (c29 ni nn)), .val (.pointer (some ⟨p, 0, none⟩)), .val (.pointer (some ⟨p, 16, none⟩)), .val undef] [] [] follows (by kernel_rfl) rfl (by kernel_rfl) (by decide) ⟨GG.drew, (Gro.refl _).drew.has kp, (Gro.refl _).drew.has kg1, HW.gro (Gro.refl _).drew⟩ ?hAp1 (opsM_g (fun _ _ _ h _ G => ⟨h.1.tg G, G.has h.2.1, G.has h.2.2.1, h.2.2.2.gro G⟩) ?o0p1 (opsM_g (fun _ _ _ h _ G => ⟨h.1.tg G, G.has h.2.1, G.has h.2.2.1, h.2.2.2.gro G⟩) ?o1p1 (opsM_g (fun _ _ _ h _ G => ⟨h.1.tg G, G.has h.2.1, G.has h.2.2.1, h.2.2.2.gro G⟩) ?o2p1 (opsM_g (fun _ _ _ h _ G => ⟨h.1.tg G, G.has h.2.1, G.has h.2.2.1, h.2.2.2.gro G⟩) ?o3p1 (opsM_g (fun _ _ _ h _ G => ⟨h.1.tg G, G.has h.2.1, G.has h.2.2.1, h.2.2.2.gro G⟩) ?o4p1 (opsM_w ?o5p1 opsM_nil)))))) ?restp1
  case hAp1 =>
    intro ptrs
    simp only [full, foldSlots, filledE, postE, List.foldl_cons, List.foldl_nil, List.getD_cons_zero, List.getD_cons_succ, fill_val,  List.set_cons_zero, List.set_cons_succ]
    exact rfl
  case o0p1 => exact fun _ _ _ _ _ _ _ _ => opE_move (v := .pointer (some ⟨p, 0, none⟩)) _ rfl rfl rfl
  case o1p1 => exact fun _ _ _ _ _ _ _ _ => opE_move (v := .pointer (some ⟨p, 0, none⟩)) _ rfl rfl rfl
  case o2p1 => exact fun _ _ x hx _ _ _ _ => opE_value (v := .agg (c29 ni nn)) rfl (run_lda 29 _ rfl g1 0 2 rfl 29 _ hx.2.2.1 _ Try.underlying29 rfl si29 (Nat.le_of_ble_eq_true rfl) _ (by kernel_rfl))
  case o3p1 => exact fun _ _ x hx _ _ _ _ => opE_value (v := .pointer (some ⟨p, 0, none⟩)) rfl (run_nc _ rfl _ rfl)
  case o4p1 => exact fun _ _ x hx _ _ _ _ => opE_value (v := .pointer (some ⟨p, 16, none⟩)) rfl (run_fld 98 _ 1 rfl _ _ rfl _ (by kernel_rfl))
  case o5p1 =>
    intro L ptrs x hx hL hed hno _
    have hk := hx.2.1
    rw [hL] at hk
    replace hk : x.heap[p]? = some (.cells (c98 id false op mi mn pi pn oth (some ⟨wp, 0, none⟩)) 98 (0, 0)) := hk
    refine opX_store _ rfl 4 _ _ rfl p 16 rfl (.bool true) rfl 98 _ hk #[.bool true] rfl (by kernel_rfl) (Nat.le_of_ble_eq_true rfl) (by kernel_rfl) (c98 id true op mi mn pi pn oth (some ⟨wp, 0, none⟩)) (by kernel_rfl) ?_
    intro y St
    exact ⟨⟨⟨hx.1.st St (.inr (by simp)), St.new, St.has (by omega) hx.2.2.1, hx.2.2.2.stT (by decide) (by decide) (by decide) hk St⟩, StM.vals [0, 1, 2, 3, 4] (by kernel_rfl) ⟨⟨_, rfl⟩, ⟨_, rfl⟩, ⟨_, rfl⟩, ⟨_, rfl⟩, ⟨_, rfl⟩, trivial⟩⟩, rfl⟩
  intro ptrs w2 HJ _
  simp only [List.drop_succ_cons, List.drop_zero]
  clear GG kp kg1 HW
  obtain ⟨GG, kp, kg1, HW⟩ := HJ
  replace kp : w2.heap[p]? = some (.cells (c98 id true op mi mn pi pn oth (some ⟨wp, 0, none⟩)) 98 (0, 0)) := kp
  refine s_val 18 rfl rfl (.pointer (some ⟨p, 0, none⟩)) (run_nc _ rfl _ rfl) ?_
  refine nr ?_; intro U h; simp only [z0, z1] at h; subst h
  refine s_val 19 rfl rfl (.pointer (some ⟨p, 18, none⟩)) (run_fld 98 _ 3 rfl _ _ rfl _ (by kernel_rfl)) ?_
  refine nr ?_; intro U h; simp only [z0, z1] at h; subst h
  refine s_store rfl rfl 29 _ _ rfl p 18 rfl (.agg (c29 ni nn)) rfl 98 _ kp (c29 ni nn) rfl (by kernel_rfl) (Nat.le_of_ble_eq_true rfl) (by kernel_rfl) (c98 id true op ni nn pi pn oth (some ⟨wp, 0, none⟩)) (by kernel_rfl) ?_
  intro w4 St
  replace kg1 := St.has (by omega) kg1
  replace HW := HW.stT (by decide) (by decide) (by decide) kp St
  replace GG := GG.st St (.inr (by simp))
  replace kp := St.new
  clear St
  refine wpList_nil ?_
  refine then_n ?_
  refine wp_seq ?_
  refine wp_region_lit ?_
  refine s_val 20 rfl rfl (.pointer (some ⟨p, 0, none⟩)) (rfl) ?_
  refine nr ?_; intro U h; simp only [z0, z1] at h; subst h
  refine s_callx 21 rfl rfl _ 35 Try.call35 rfl rfl _ rfl [.pointer (some ⟨p, 0, none⟩)] rfl (greeting_any _ p wp B id true op ni nn pi pn oth ro rc q k c ⟨kp, HW⟩) (fun _ _ ⟨_, _, _, _, _, he, _⟩ => ⟨_, he⟩) ?_
  rintro v w5 ⟨s1g, s2g, s3g, aog, capg, he, HVg, G⟩
  cases he
  replace kp := G.has kp
  replace kg1 := G.has kg1
  replace HW := HW.gro G
  replace GG := GG.tg G
  clear G
  refine nr ?_; intro U h; simp only [z0, z1] at h; subst h
  refine s_bsl 22 rfl rfl 50 1 _ rfl [(0, .agg (c46 1 zF 0 false id zF 0 ni nn pi pn s1g s2g zF 0 zF s3g 0 0 ⟨aog, 0, capg⟩))] rfl (c46 1 zF 0 false id zF 0 ni nn pi pn s1g s2g zF 0 zF s3g 0 0 ⟨aog, 0, capg⟩) 46 (by kernel_rfl) ?_
  intro w6 g2 G eg2 kg2
  have bg2 := size_basS GG eg2
  have dpg2 := lt_new kp eg2
  have dg1g2 := lt_new kg1 eg2
  replace kp := G.has kp
  replace kg1 := G.has kg1
  replace HW := HW.gro G
  replace HVg := HVg.gro G
  replace GG := GG.tg G
  clear G eg2
  refine nr ?_; intro U h; simp only [z0, z1] at h; subst h
  refine s_val 4 rfl rfl (.slice (some ⟨g2, 0, none⟩) 1 1) (rfl) ?_
  refine nr ?_; intro U h; simp only [z0, z1] at h; subst h
  refine wpList_nil ?_
  refine then_n ?_
  refine wp_ret ?_
  refine bodyPost_ret (results_tmp Try.results10 _ _ _) rfl ?_
  exact ⟨_, _, rfl, GG, ⟨kp, HW⟩, LF.one (f := pfr ⟨1, id, ni, nn, pi, pn, 0, []⟩ s1g s2g s3g ⟨aog, 0, capg⟩) kg2 bg2 HVg⟩
set_option maxRecDepth 100000 in
set_option maxHeartbeats 4000000 in
theorem fall_nil (w : World) : Calls Try.prog 12 #[.pointer none] w fun e w' => e = .returned (.bool false) ∧ Gro w w' := by
  refine s_enter Try.func12 rfl Try.ntmps12 [.pointer none] [.pointer none, undef, undef, undef, undef, undef, undef, undef, undef, undef, undef, undef, undef, undef, undef, undef, undef, undef, undef, undef, undef, undef] rfl ?_
  have GG := Gro.refl w
  refine wp_seq ?_
  refine wp_region_lit ?_
  refine s_val 2 rfl rfl (.bool false) (rfl) ?_
  refine nr ?_; intro U h; simp only [z0, z1] at h; subst h
  refine wpList_nil ?_
  refine then_n ?_
  refine wp_seq ?_
  refine wp_region_lit ?_
  refine s_val 6 rfl rfl (.pointer none) (rfl) ?_
  refine nr ?_; intro U h; simp only [z0, z1] at h; subst h
  refine s_callv 7 rfl rfl _ 24 Try.call24 rfl rfl _ rfl [.pointer none] rfl (open_nil _) ?_
  intro w1 G
  replace GG := GG.trans G
  clear G
  refine nr ?_; intro U h; simp only [z0, z1] at h; subst h
  refine s_val 5 rfl rfl (.tuple #[.agg (c23 zF), .bool false]) (rfl) ?_
  refine nr ?_; intro U h; simp only [z0, z1] at h; subst h
  refine s_val 8 rfl rfl (.agg (c23 zF)) (rfl) ?_
  refine nr ?_; intro U h; simp only [z0, z1] at h; subst h
  refine s_val 9 rfl rfl (.bool false) (rfl) ?_
  refine nr ?_; intro U h; simp only [z0, z1] at h; subst h
  refine s_alloc 3 rfl rfl 23 rfl _ zv23 _ rfl ?_
  intro w2 g1 G eg1 kg1
  have bg1 := size_base GG eg1
  replace GG := GG.trans G
  clear G eg1
  refine nr ?_; intro U h; simp only [z0, z1] at h; subst h
  refine s_store rfl rfl 23 _ _ rfl g1 0 rfl (.agg (c23 zF)) rfl 23 _ kg1 (c23 zF) rfl (by kernel_rfl) (Nat.le_of_ble_eq_true rfl) (by kernel_rfl) (c23 zF) (by kernel_rfl) ?_
  intro w4 St
  replace GG := GG.store St bg1
  replace kg1 := St.new
  clear St
  refine s_val 4 rfl rfl (.bool false) (rfl) ?_
  refine nr ?_; intro U h; simp only [z0, z1] at h; subst h
  refine wpList_nil ?_
  refine then_n ?_
  refine wp_seq ?_
  refine wp_seq ?_
  refine wp_region_lit ?_
  refine s_val 10 rfl rfl (.pointer none) (rfl) ?_
  refine nr ?_; intro U h; simp only [z0, z1] at h; subst h
  refine s_val 11 rfl rfl (.bool false) (run_nenn 25 _ _ _ rfl rfl rfl Try.underlying25 _) ?_
  refine nr ?_; intro U h; simp only [z0, z1] at h; subst h
  refine wpList_nil ?_
  refine then_n ?_
  refine wp_cond_false rfl ?_
  refine wp_skip ?_
  refine then_n ?_
  refine wp_seq ?_
  refine wp_region_lit ?_
  refine s_val 21 rfl rfl (.bool false) (rfl) ?_
  refine nr ?_; intro U h; simp only [z0, z1] at h; subst h
  refine s_val 2 rfl rfl (.bool false) (rfl) ?_
  refine nr ?_; intro U h; simp only [z0, z1] at h; subst h
  refine wpList_nil ?_
  refine then_n ?_
  refine wp_ret ?_
  refine bodyPost_ret (results_tmp Try.results12 _ _ _) rfl ?_
  exact ⟨rfl, GG⟩
set_option maxRecDepth 100000 in
set_option maxHeartbeats 4000000 in
theorem fall_false (w : World) (p wp B : Nat) (id : Nat → Nat) (up : Bool) (mi mn pi pn : Int) (oth : Nat → Nat) (ro : Option Addr) (rc : Nat) (q : List RV) (k c : Nat) (H : EW w p wp B id up false mi mn pi pn oth ro rc q k c) : Calls Try.prog 12 #[.pointer (some ⟨p, 0, none⟩)] w fun e w' => e = .returned (.bool false) ∧ GroS [p] w w' ∧ ∃ wp2 B2, w.heap.size ≤ wp2 ∧ EW w' p wp2 B2 id false false 0 0 0 0 zF none 0 [] 0 0 := by
  refine s_enter Try.func12 rfl Try.ntmps12 [.pointer (some ⟨p, 0, none⟩)] [.pointer (some ⟨p, 0, none⟩), undef, undef, undef, undef, undef, undef, undef, undef, undef, undef, undef, undef, undef, undef, undef, undef, undef, undef, undef, undef, undef] rfl ?_
  have GG := GroS.refl [p] w
  have kp := H.box
  have HW := H.win
  have hpl := lt_of_heap kp
  refine wp_seq ?_
  refine wp_region_lit ?_
  refine s_val 2 rfl rfl (.bool false) (rfl) ?_
  refine nr ?_; intro U h; simp only [z0, z1] at h; subst h
  refine wpList_nil ?_
  refine then_n ?_
  refine wp_seq ?_
  refine wp_region_lit ?_
  refine s_val 6 rfl rfl (.pointer (some ⟨p, 0, none⟩)) (rfl) ?_
  refine nr ?_; intro U h; simp only [z0, z1] at h; subst h
  refine s_callv 7 rfl rfl _ 24 Try.call24 rfl rfl _ rfl [.pointer (some ⟨p, 0, none⟩)] rfl (open_no _ p wp B id up mi mn pi pn oth ro rc q k c ⟨kp, HW⟩) ?_
  intro w1 G
  replace kp := G.has kp
  replace HW := HW.gro G
  replace GG := GG.tg G
  clear G
  refine nr ?_; intro U h; simp only [z0, z1] at h; subst h
  refine s_val 5 rfl rfl (.tuple #[.agg (c23 zF), .bool false]) (rfl) ?_
  refine nr ?_; intro U h; simp only [z0, z1] at h; subst h
  refine s_val 8 rfl rfl (.agg (c23 zF)) (rfl) ?_
  refine nr ?_; intro U h; simp only [z0, z1] at h; subst h
  refine s_val 9 rfl rfl (.bool false) (rfl) ?_
  refine nr ?_; intro U h; simp only [z0, z1] at h; subst h
  refine s_alloc 3 rfl rfl 23 rfl _ zv23 _ rfl ?_
  intro w2 g1 G eg1 kg1
  have bg1 := size_basS GG eg1
  have dpg1 := lt_new kp eg1
  replace kp := G.has kp
  replace HW := HW.gro G
  replace GG := GG.tg G
  clear G eg1
  refine nr ?_; intro U h; simp only [z0, z1] at h; subst h
  refine s_store rfl rfl 23 _ _ rfl g1 0 rfl (.agg (c23 zF)) rfl 23 _ kg1 (c23 zF) rfl (by kernel_rfl) (Nat.le_of_ble_eq_true rfl) (by kernel_rfl) (c23 zF) (by kernel_rfl) ?_
  intro w4 St
  replace kp := St.has (by omega) kp
  replace HW := HW.stT (by decide) (by decide) (by decide) kg1 St
  replace GG := GG.st St (.inl bg1)
  replace kg1 := St.new
  clear St
  refine s_val 4 rfl rfl (.bool false) (rfl) ?_
  refine nr ?_; intro U h; simp only [z0, z1] at h; subst h
  refine wpList_nil ?_
  refine then_n ?_
  refine wp_seq ?_
  refine wp_seq ?_
  refine wp_region_lit ?_
  refine s_val 10 rfl rfl (.pointer (some ⟨p, 0, none⟩)) (rfl) ?_
  refine nr ?_; intro U h; simp only [z0, z1] at h; subst h
  refine s_val 11 rfl rfl (.bool true) (run_nenp 25 _ _ _ rfl _ rfl rfl Try.underlying25 _) ?_
  refine nr ?_; intro U h; simp only [z0, z1] at h; subst h
  refine wpList_nil ?_
  refine then_n ?_
  refine wp_cond_true rfl ?_
  refine wp_region_lit ?_
  refine s_val 12 rfl rfl (.pointer (some ⟨p, 0, none⟩)) (rfl) ?_
  refine nr ?_; intro U h; simp only [z0, z1] at h; subst h
  refine s_val 13 rfl rfl (.pointer (some ⟨p, 0, none⟩)) (rfl) ?_
  refine nr ?_; intro U h; simp only [z0, z1] at h; subst h
  refine s_val 14 rfl rfl (.pointer (some ⟨p, 0, none⟩)) (run_nc _ rfl _ rfl) ?_
  refine nr ?_; intro U h; simp only [z0, z1] at h; subst h
  refine s_val 15 rfl rfl (.pointer (some ⟨p, 0, none⟩)) (run_fld 98 _ 0 rfl _ _ rfl _ (by kernel_rfl)) ?_
  refine nr ?_; intro U h; simp only [z0, z1] at h; subst h
  refine s_val 16 rfl rfl (.agg (c23 id)) (run_lda 23 _ rfl p 0 16 rfl 98 _ kp _ Try.underlying23 rfl si23 (Nat.le_of_ble_eq_true rfl) _ (by kernel_rfl)) ?_
  refine nr ?_; intro U h; simp only [z0, z1] at h; subst h
  refine s_callx 17 rfl rfl _ 7 Try.call7 rfl rfl _ rfl [.agg (c23 id)] rfl (hnew_any _ id) (fun _ _ ⟨_, _, he, _⟩ => ⟨_, he⟩) ?_
  rintro v w5 ⟨p2, wp2, he, G, hp2, hwp2, HE⟩
  cases he
  have dpp2 := Nat.lt_of_lt_of_le (lt_of_heap kp) hp2
  have dg1p2 := Nat.lt_of_lt_of_le (lt_of_heap kg1) hp2
  replace hwp2 := Nat.le_trans GG.size hwp2
  have kp2 := HE.box
  have HW2 := HE.win
  clear HE
  replace kp := G.has kp
  replace kg1 := G.has kg1
  replace HW := HW.gro G
  replace GG := GG.tg G
  clear G
  refine nr ?_; intro U h; simp only [z0, z1] at h; subst h
  refine s_val 18 rfl rfl (.pointer (some ⟨p2, 0, none⟩)) (run_nc _ rfl _ rfl) ?_
  refine nr ?_; intro U h; simp only [z0, z1] at h; subst h
  refine s_val 19 rfl rfl (.agg (c98 id false false 0 0 0 0 zF (some ⟨wp2, 0, none⟩))) (run_lda 98 _ rfl p2 0 39 rfl 98 _ kp2 _ Try.underlying98 rfl si98 (Nat.le_of_ble_eq_true rfl) _ (by kernel_rfl)) ?_
  refine nr ?_; intro U h; simp only [z0, z1] at h; subst h
  refine s_val 20 rfl rfl (.pointer (some ⟨p, 0, none⟩)) (run_nc _ rfl _ rfl) ?_
  refine nr ?_; intro U h; simp only [z0, z1] at h; subst h
  refine s_store rfl rfl 98 _ _ rfl p 0 rfl (.agg (c98 id false false 0 0 0 0 zF (some ⟨wp2, 0, none⟩))) rfl 98 _ kp (c98 id false false 0 0 0 0 zF (some ⟨wp2, 0, none⟩)) rfl (by kernel_rfl) (Nat.le_of_ble_eq_true rfl) (by kernel_rfl) (c98 id false false 0 0 0 0 zF (some ⟨wp2, 0, none⟩)) (by kernel_rfl) ?_
  intro w7 St
  replace kg1 := St.has (by omega) kg1
  replace kp2 := St.has (by omega) kp2
  replace HW2 := HW2.stT (by decide) (by decide) (by decide) kp St
  replace GG := GG.st St (.inr (by simp))
  replace kp := St.new
  clear St
  refine wpList_nil ?_
  refine then_n ?_
  refine wp_seq ?_
  refine wp_region_lit ?_
  refine s_val 21 rfl rfl (.bool false) (rfl) ?_
  refine nr ?_; intro U h; simp only [z0, z1] at h; subst h
  refine s_val 2 rfl rfl (.bool false) (rfl) ?_
  refine nr ?_; intro U h; simp only [z0, z1] at h; subst h
  refine wpList_nil ?_
  refine then_n ?_
  refine wp_ret ?_
  refine bodyPost_ret (results_tmp Try.results12 _ _ _) rfl ?_
  exact ⟨rfl, GG, wp2, _, hwp2, kp, HW2⟩
set_option maxRecDepth 100000 in
set_option maxHeartbeats 4000000 in
theorem window_nil (w : World) : Calls Try.prog 25 #[.pointer none] w fun e w' => e = .returned (.tuple #[.int .i64 0, .slice none 0 0, .int .i64 0]) ∧ Gro w w' := by
  refine s_enter Try.func25 rfl Try.ntmps25 [.pointer none] [.pointer none, undef, undef, undef, undef, undef, undef, undef, undef, undef, undef, undef, undef, undef, undef, undef, undef, undef, undef, undef, undef, undef, undef, undef] rfl ?_
  have GG := Gro.refl w
  refine wp_seq ?_
  refine wp_region_lit ?_
  refine s_val 2 rfl rfl (.int .i64 0) (rfl) ?_
  refine nr ?_; intro U h; simp only [z0, z1] at h; subst h
  refine s_val 3 rfl rfl (.slice none 0 0) (rfl) ?_
  refine nr ?_; intro U h; simp only [z0, z1] at h; subst h
  refine s_val 4 rfl rfl (.int .i64 0) (rfl) ?_
  refine nr ?_; intro U h; simp only [z0, z1] at h; subst h
  refine wpList_nil ?_
  refine then_n ?_
  refine wp_seq ?_
  refine wp_seq ?_
  refine wp_region_lit ?_
  refine s_val 7 rfl rfl (.pointer none) (rfl) ?_
  refine nr ?_; intro U h; simp only [z0, z1] at h; subst h
  refine s_val 8 rfl rfl (.bool true) (run_eqnn 25 _ _ _ rfl rfl rfl Try.underlying25 _) ?_
  refine nr ?_; intro U h; simp only [z0, z1] at h; subst h
  refine wpList_nil ?_
  refine then_n ?_
  refine wp_cond_true rfl ?_
  refine wp_seq ?_
  refine wp_region_lit ?_
  refine s_val 2 rfl rfl (.int .i64 0) (rfl) ?_
  refine nr ?_; intro U h; simp only [z0, z1] at h; subst h
  refine s_val 3 rfl rfl (.slice none 0 0) (rfl) ?_
  refine nr ?_; intro U h; simp only [z0, z1] at h; subst h
  refine s_val 4 rfl rfl (.int .i64 0) (rfl) ?_
  refine nr ?_; intro U h; simp only [z0, z1] at h; subst h
  refine wpList_nil ?_
  refine then_n ?_
  refine wp_ret ?_
  refine then_r ?_
  refine bodyPost_ret (results_tmp3 Try.results25 _ _ _) rfl ?_
  exact ⟨rfl, GG⟩
set_option maxRecDepth 100000 in
set_option maxHeartbeats 4000000 in
theorem waiting_nil (w : World) : Calls Try.prog 27 #[.pointer none] w fun e w' => e = .returned (.int .i64 0) ∧ Gro w w' := by
  refine s_enter Try.func27 rfl Try.ntmps27 [.pointer none] [.pointer none, undef, undef, undef, undef, undef, undef, undef, undef, undef, undef, undef, undef, undef] rfl ?_
  have GG := Gro.refl w
  refine wp_seq ?_
  refine wp_region_lit ?_
  refine s_val 2 rfl rfl (.int .i64 0) (rfl) ?_
  refine nr ?_; intro U h; simp only [z0, z1] at h; subst h
  refine wpList_nil ?_
  refine then_n ?_
  refine wp_seq ?_
  refine wp_region_lit ?_
  refine s_val 7 rfl rfl (.pointer none) (rfl) ?_
  refine nr ?_; intro U h; simp only [z0, z1] at h; subst h
  refine s_callv 8 rfl rfl _ 25 Try.call25 rfl rfl _ rfl [.pointer none] rfl (window_nil _) ?_
  intro w1 G
  replace GG := GG.trans G
  clear G
  refine nr ?_; intro U h; simp only [z0, z1] at h; subst h
  refine s_val 6 rfl rfl (.tuple #[.int .i64 0, .slice none 0 0, .int .i64 0]) (rfl) ?_
  refine nr ?_; intro U h; simp only [z0, z1] at h; subst h
  refine s_val 9 rfl rfl (.int .i64 0) (rfl) ?_
  refine nr ?_; intro U h; simp only [z0, z1] at h; subst h
  refine s_val 10 rfl rfl (.slice none 0 0) (rfl) ?_
  refine nr ?_; intro U h; simp only [z0, z1] at h; subst h
  refine s_val 11 rfl rfl (.int .i64 0) (rfl) ?_
  refine nr ?_; intro U h; simp only [z0, z1] at h; subst h
  refine s_val 3 rfl rfl (.int .i64 0) (rfl) ?_
  refine nr ?_; intro U h; simp only [z0, z1] at h; subst h
  refine s_val 4 rfl rfl (.slice none 0 0) (rfl) ?_
  refine nr ?_; intro U h; simp only [z0, z1] at h; subst h
  refine s_val 5 rfl rfl (.int .i64 0) (rfl) ?_
  refine nr ?_; intro U h; simp only [z0, z1] at h; subst h
  refine wpList_nil ?_
  refine then_n ?_
  refine wp_seq ?_
  refine wp_region_lit ?_
  refine s_val 12 rfl rfl (.slice none 0 0) (rfl) ?_
  refine nr ?_; intro U h; simp only [z0, z1] at h; subst h
  refine s_val 13 rfl rfl (.int .i64 0) (run_len Try.underlying30 _ rfl _ _ _ rfl _) ?_
  refine nr ?_; intro U h; simp only [z0, z1] at h; subst h
  refine s_val 2 rfl rfl (.int .i64 0) (rfl) ?_
  refine nr ?_; intro U h; simp only [z0, z1] at h; subst h
  refine wpList_nil ?_
  refine then_n ?_
  refine wp_ret ?_
  refine bodyPost_ret (results_tmp Try.results27 _ _ _) rfl ?_
  exact ⟨rfl, GG⟩
set_option maxRecDepth 100000 in
set_option maxHeartbeats 4000000 in
theorem hsend_nil (w : World) (ao : Option Addr) (cap : Nat) (l : List Nat) : Calls Try.prog 16 #[.pointer none, .slice ao l.length cap] w fun e w' => e = .returned (.tuple #[.agg (c46 0 zF 0 false zF zF 0 0 0 0 0 Sl.nil Sl.nil zF 0 zF Sl.nil 0 0 Sl.nil), .int .i64 10]) ∧ Gro w w' := by
  refine s_enter Try.func16 rfl Try.ntmps16 [.pointer none, .slice ao l.length cap] [.pointer none, .slice ao l.length cap, undef, undef, undef, undef, undef, undef, undef, undef, undef, undef, undef, undef, undef, undef, undef, undef, undef, undef, undef, undef, undef, undef, undef, undef, undef, undef, undef, undef, undef, undef, undef, undef, undef, undef] rfl ?_
  have GG := Gro.refl w
  refine wp_seq ?_
  refine wp_region_lit ?_
  refine s_alloc 4 rfl rfl 46 rfl _ zv46 _ rfl ?_
  intro w1 g1 G eg1 kg1
  have bg1 := size_base GG eg1
  replace GG := GG.trans G
  clear G eg1
  refine nr ?_; intro U h; simp only [z0, z1] at h; subst h
  refine s_val 5 rfl rfl (.int .i64 0) (rfl) ?_
  refine nr ?_; intro U h; simp only [z0, z1] at h; subst h
  refine wpList_nil ?_
  refine then_n ?_
  refine wp_seq ?_
  refine wp_seq ?_
  refine wp_region_lit ?_
  refine s_val 11 rfl rfl (.pointer none) (rfl) ?_
  refine nr ?_; intro U h; simp only [z0, z1] at h; subst h
  refine s_callv 12 rfl rfl _ 24 Try.call24 rfl rfl _ rfl [.pointer none] rfl (open_nil _) ?_
  intro w2 G
  replace kg1 := G.has kg1
  replace GG := GG.trans G
  clear G
  refine nr ?_; intro U h; simp only [z0, z1] at h; subst h
  refine s_val 10 rfl rfl (.tuple #[.agg (c23 zF), .bool false]) (rfl) ?_
  refine nr ?_; intro U h; simp only [z0, z1] at h; subst h
  refine s_val 13 rfl rfl (.agg (c23 zF)) (rfl) ?_
  refine nr ?_; intro U h; simp only [z0, z1] at h; subst h
  refine s_val 14 rfl rfl (.bool false) (rfl) ?_
  refine nr ?_; intro U h; simp only [z0, z1] at h; subst h
  refine s_alloc 6 rfl rfl 23 rfl _ zv23 _ rfl ?_
  intro w3 g2 G eg2 kg2
  have bg2 := size_base GG eg2
  have dg1g2 := lt_new kg1 eg2
  replace kg1 := G.has kg1
  replace GG := GG.trans G
  clear G eg2
  refine nr ?_; intro U h; simp only [z0, z1] at h; subst h
  refine s_store rfl rfl 23 _ _ rfl g2 0 rfl (.agg (c23 zF)) rfl 23 _ kg2 (c23 zF) rfl (by kernel_rfl) (Nat.le_of_ble_eq_true rfl) (by kernel_rfl) (c23 zF) (by kernel_rfl) ?_
  intro w5 St
  replace kg1 := St.has (by omega) kg1
  replace GG := GG.store St bg2
  replace kg2 := St.new
  clear St
  refine s_val 7 rfl rfl (.bool false) (rfl) ?_
  refine nr ?_; intro U h; simp only [z0, z1] at h; subst h
  refine wpList_nil ?_
  refine then_n ?_
  refine wp_seq ?_
  refine wp_region_lit ?_
  refine s_val 15 rfl rfl (.bool false) (rfl) ?_
  refine nr ?_; intro U h; simp only [z0, z1] at h; subst h
  refine s_val 16 rfl rfl (.bool true) (run_nt _ _ rfl false rfl) ?_
  refine nr ?_; intro U h; simp only [z0, z1] at h; subst h
  refine wpList_nil ?_
  refine then_n ?_
  refine wp_cond_true rfl ?_
  refine wp_seq ?_
  refine wp_region_lit ?_
  refine s_val 17 rfl rfl (.agg (c46 0 zF 0 false zF zF 0 0 0 0 0 Sl.nil Sl.nil zF 0 zF Sl.nil 0 0 Sl.nil)) (run_bd 46 _ rfl [] rfl _ (by kernel_rfl)) ?_
  refine nr ?_; intro U h; simp only [z0, z1] at h; subst h
  refine s_store rfl rfl 46 _ _ rfl g1 0 rfl (.agg (c46 0 zF 0 false zF zF 0 0 0 0 0 Sl.nil Sl.nil zF 0 zF Sl.nil 0 0 Sl.nil)) rfl 46 _ kg1 (c46 0 zF 0 false zF zF 0 0 0 0 0 Sl.nil Sl.nil zF 0 zF Sl.nil 0 0 Sl.nil) rfl (by kernel_rfl) (Nat.le_of_ble_eq_true rfl) (by kernel_rfl) (c46 0 zF 0 false zF zF 0 0 0 0 0 Sl.nil Sl.nil zF 0 zF Sl.nil 0 0 Sl.nil) (by kernel_rfl) ?_
  intro w7 St
  replace kg2 := St.has (by omega) kg2
  replace GG := GG.store St bg1
  replace kg1 := St.new
  clear St
  refine s_val 5 rfl rfl (.int .i64 10) (rfl) ?_
  refine nr ?_; intro U h; simp only [z0, z1] at h; subst h
  refine wpList_nil ?_
  refine then_n ?_
  refine wp_ret ?_
  refine then_r ?_
  refine bodyPost_ret (results_cell_tmp Try.results16 _ _ g1 46 _ (0, 0) _ rfl (.int .i64 10) rfl kg1 Try.underlying46 rfl (by kernel_rfl)) rfl ?_
  exact ⟨rfl, GG⟩
set_option maxRecDepth 100000 in
set_option maxHeartbeats 4000000 in
theorem hsend_shut (w : World) (p wp B : Nat) (id : Nat → Nat) (up : Bool) (mi mn pi pn : Int) (oth : Nat → Nat) (ro : Option Addr) (rc : Nat) (q : List RV) (k c : Nat) (H : EW w p wp B id up false mi mn pi pn oth ro rc q k c) (ao : Option Addr) (cap : Nat) (l : List Nat) : Calls Try.prog 16 #[.pointer (some ⟨p, 0, none⟩), .slice ao l.length cap] w fun e w' => e = .returned (.tuple #[.agg (c46 0 zF 0 false zF zF 0 0 0 0 0 Sl.nil Sl.nil zF 0 zF Sl.nil 0 0 Sl.nil), .int .i64 10]) ∧ Gro w w' := by
  refine s_enter Try.func16 rfl Try.ntmps16 [.pointer (some ⟨p, 0, none⟩), .slice ao l.length cap] [.pointer (some ⟨p, 0, none⟩), .slice ao l.length cap, undef, undef, undef, undef, undef, undef, undef, undef, undef, undef, undef, undef, undef, undef, undef, undef, undef, undef, undef, undef, undef, undef, undef, undef, undef, undef, undef, undef, undef, undef, undef, undef, undef, undef] rfl ?_
  have GG := Gro.refl w
  have kp := H.box
  have HW := H.win
  have hpl := lt_of_heap kp
  refine wp_seq ?_
  refine wp_region_lit ?_
  refine s_alloc 4 rfl rfl 46 rfl _ zv46 _ rfl ?_
  intro w1 g1 G eg1 kg1
  have bg1 := size_base GG eg1
  have dpg1 := lt_new kp eg1
  replace kp := G.has kp
  replace HW := HW.gro G
  replace GG := GG.trans G
  clear G eg1
  refine nr ?_; intro U h; simp only [z0, z1] at h; subst h
  refine s_val 5 rfl rfl (.int .i64 0) (rfl) ?_
  refine nr ?_; intro U h; simp only [z0, z1] at h; subst h
  refine wpList_nil ?_
  refine then_n ?_
  refine wp_seq ?_
  refine wp_seq ?_
  refine wp_region_lit ?_
  refine s_val 11 rfl rfl (.pointer (some ⟨p, 0, none⟩)) (rfl) ?_
  refine nr ?_; intro U h; simp only [z0, z1] at h; subst h
  refine s_callv 12 rfl rfl _ 24 Try.call24 rfl rfl _ rfl [.pointer (some ⟨p, 0, none⟩)] rfl (open_no _ p wp B id up mi mn pi pn oth ro rc q k c ⟨kp, HW⟩) ?_
  intro w2 G
  replace kp := G.has kp
  replace kg1 := G.has kg1
  replace HW := HW.gro G
  replace GG := GG.trans G
  clear G
  refine nr ?_; intro U h; simp only [z0, z1] at h; subst h
  refine s_val 10 rfl rfl (.tuple #[.agg (c23 zF), .bool false]) (rfl) ?_
  refine nr ?_; intro U h; simp only [z0, z1] at h; subst h
  refine s_val 13 rfl rfl (.agg (c23 zF)) (rfl) ?_
  refine nr ?_; intro U h; simp only [z0, z1] at h; subst h
  refine s_val 14 rfl rfl (.bool false) (rfl) ?_
  refine nr ?_; intro U h; simp only [z0, z1] at h; subst h
  refine s_alloc 6 rfl rfl 23 rfl _ zv23 _ rfl ?_
  intro w3 g2 G eg2 kg2
  have bg2 := size_base GG eg2
  have dpg2 := lt_new kp eg2
  have dg1g2 := lt_new kg1 eg2
  replace kp := G.has kp
  replace kg1 := G.has kg1
  replace HW := HW.gro G
  replace GG := GG.trans G
  clear G eg2
  refine nr ?_; intro U h; simp only [z0, z1] at h; subst h
  refine s_store rfl rfl 23 _ _ rfl g2 0 rfl (.agg (c23 zF)) rfl 23 _ kg2 (c23 zF) rfl (by kernel_rfl) (Nat.le_of_ble_eq_true rfl) (by kernel_rfl) (c23 zF) (by kernel_rfl) ?_
  intro w5 St
  replace kp := St.has (by omega) kp
  replace kg1 := St.has (by omega) kg1
  replace HW := HW.stT (by decide) (by decide) (by decide) kg2 St
  replace GG := GG.store St bg2
  replace kg2 := St.new
  clear St
  refine s_val 7 rfl rfl (.bool false) (rfl) ?_
  refine nr ?_; intro U h; simp only [z0, z1] at h; subst h
  refine wpList_nil ?_
  refine then_n ?_
  refine wp_seq ?_
  refine wp_region_lit ?_
  refine s_val 15 rfl rfl (.bool false) (rfl) ?_
  refine nr ?_; intro U h; simp only [z0, z1] at h; subst h
  refine s_val 16 rfl rfl (.bool true) (run_nt _ _ rfl false rfl) ?_
  refine nr ?_; intro U h; simp only [z0, z1] at h; subst h
  refine wpList_nil ?_
  refine then_n ?_
  refine wp_cond_true rfl ?_
  refine wp_seq ?_
  refine wp_region_lit ?_
  refine s_val 17 rfl rfl (.agg (c46 0 zF 0 false zF zF 0 0 0 0 0 Sl.nil Sl.nil zF 0 zF Sl.nil 0 0 Sl.nil)) (run_bd 46 _ rfl [] rfl _ (by kernel_rfl)) ?_
  refine nr ?_; intro U h; simp only [z0, z1] at h; subst h
  refine s_store rfl rfl 46 _ _ rfl g1 0 rfl (.agg (c46 0 zF 0 false zF zF 0 0 0 0 0 Sl.nil Sl.nil zF 0 zF Sl.nil 0 0 Sl.nil)) rfl 46 _ kg1 (c46 0 zF 0 false zF zF 0 0 0 0 0 Sl.nil Sl.nil zF 0 zF Sl.nil 0 0 Sl.nil) rfl (by kernel_rfl) (Nat.le_of_ble_eq_true rfl) (by kernel_rfl) (c46 0 zF 0 false zF zF 0 0 0 0 0 Sl.nil Sl.nil zF 0 zF Sl.nil 0 0 Sl.nil) (by kernel_rfl) ?_
  intro w7 St
  replace kp := St.has (by omega) kp
  replace kg2 := St.has (by omega) kg2
  replace HW := HW.stT (by decide) (by decide) (by decide) kg1 St
  replace GG := GG.store St bg1
  replace kg1 := St.new
  clear St
  refine s_val 5 rfl rfl (.int .i64 10) (rfl) ?_
  refine nr ?_; intro U h; simp only [z0, z1] at h; subst h
  refine wpList_nil ?_
  refine then_n ?_
  refine wp_ret ?_
  refine then_r ?_
  refine bodyPost_ret (results_cell_tmp Try.results16 _ _ g1 46 _ (0, 0) _ rfl (.int .i64 10) rfl kg1 Try.underlying46 rfl (by kernel_rfl)) rfl ?_
  exact ⟨rfl, GG⟩
end Go.Proofs.Ytlfanecaglbomaa
