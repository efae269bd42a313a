/- The document's window: Send, Acked, Came, Waits. -/
import Derived.Test.YthlfjbnfeclkmaaU3
namespace Go.Proofs.Ythlfjbnfeclkmaa
open Go.RowKit

/-- No bytes yet. -/
def zoE (M : Nat) : PostE := PostE.ex (fun v x => ∃ g, v = .slice (some ⟨g, 0, none⟩) 0 0 ∧ M ≤ g ∧ x.heap[g]? = some (.cells #[] 5 (0, 0))) (fun _ _ _ G ⟨g, h1, h2, h3⟩ => ⟨g, h1, h2, G.has h3⟩)
theorem fill_zo (M : Nat) (v : Value) : (zoE M).fill v = v := rfl
theorem run_app0 (ty : TypeId) (w : World) {M g : Nat} (hk : w.heap[g]? = some (.cells #[] 5 (0, 0))) (hg : M ≤ g) (hM : M ≤ w.heap.size) {ao : Option Addr} {cap : Nat} {l : List Nat} (H : NC w .u8 ao cap l) (hl : l.length ≤ 140737488355000) :
    ∃ ao2 cap2 w', (Builtin.append_ #[30, 30] ty #[.slice (some ⟨g, 0, none⟩) 0 0, .slice ao l.length cap]).run Try.prog w = .ok (.slice ao2 l.length cap2) w' ∧ OB w' 5 .u8 M ao2 cap2 l ∧ Gro w w' := by
  obtain ⟨i, hi, hz, hsz, hby⟩ := bT.info
  have HO : OB w 5 .u8 M (some ⟨g, 0, none⟩) 0 [] := OB.made hk hg (Nat.le_refl _) (Nat.zero_le _) rfl rfl (fun x hx => by cases hx)
  have hcm : ∀ old, grownCap w l.length old 5 ≤ maxLen := fun old => grownCap_le_maxLen w l.length old 5 (by simp only [maxLen]; omega)
  cases ao with
  | none =>
    have h1 := H.bare rfl
    have h2 := H.fit
    have h3 : l = [] := List.eq_nil_of_length_eq_zero (by omega)
    subst h3
    subst h1
    exact ⟨some ⟨g, 0, none⟩, 0, w, run_append_owned_none (P := Try.prog) (w := w) M 30 ty 5 i 1 bT.und hi _ 0 _ HO.own, HO, Gro.refl _⟩
  | some a =>
    by_cases h0 : l = []
    · subst h0
      refine ⟨some ⟨g, 0, none⟩, 0, w, ?_, HO, Gro.refl _⟩
      have hf := run_firstCells_some (P := Try.prog) w i.size 0 a 0 cap [] (by simp) (fun j v hv => by simp at hv)
      simp [Builtin.append_, run_underlying bT.und, sizeOf, typeInfo, hi, Builtin.lenOf, hf, storeCells]
    · have hpos : 0 < l.length := List.length_pos_iff.2 h0
      have hx := H.xc
      have hr := run_append_grow (P := Try.prog) w 30 ty 5 i (.int .u8 0) bT.und hi hz ⟨g, 0, none⟩ 0 0 [] (by simp) (fun j v hv => by simp at hv) a l.length cap (l.map fun r : Nat => Value.int .u8 (r : Int)) (by rw [hsz]; simp) (fun j v hv => hx.cell a rfl j v hv) (by omega) (by omega) (growslice_fits (by omega) (by rw [hby]; omega))
      simp only [Nat.zero_add] at hr
      refine ⟨_, _, _, hr, OB.made (heap_alloc_new w.drew _) hM (grownCap_ge w l.length 0 5) (hcm 0) ?_ ?_ H.wf, (Gro.refl w).drew.trans (gro_alloc _ _)⟩
      · have hge := grownCap_ge w l.length 0 5
        have hzc : (Value.int .u8 0).cells.size = 1 := rfl
        simp only [Array.size_append, List.size_toArray, size_zeroCells, List.length_map, List.length_nil, hzc]
        omega
      · simp
theorem opE_app0 {ops : Array Oper} {o : Oper} {A : Act} {x : World} (hw : Region.wanted o (yielded ops A.tmps) = true) (s y : Operand) (ho : o.op = .call { callee := .builtin .append, args := #[s, y], argTypes := #[30, 30] }) {M : Nat} {v : Value} (hs : A.eval s = v) (hv : (zoE M).p v x) {ao : Option Addr} {cap : Nat} {l : List Nat} (hy : A.eval y = .slice ao l.length cap) (H : NC x .u8 ao cap l) (hl : l.length ≤ 140737488355000) (hM : M ≤ x.heap.size) :
    OpE Try.prog ops (ocE M l) o A x := by
  obtain ⟨g, rfl, h1, h2⟩ := hv
  obtain ⟨ao2, cap2, w', hr, h3, h4⟩ := run_app0 o.type x h2 h1 hM H hl
  exact opE_new _ hw (exec_app s y ho hs hy hr) h4 ⟨ao2, cap2, rfl, h3⟩

theorem WX.lcd {t : TypeId} {cs : Array Value} {w : World} {p B : Nat} {ao : Option Addr} {cap : Nat} {q : List RV} (H : WX t cs w p B ao cap q) (k : Nat) (hk : k ≤ q.length) : LC w (if cap = k then ao else ao.map (·.add (k * 1))) (cap - k) ((q.drop k).map (·.l)) := by
  have h := H.row.xc.drop k hk
  rw [Nat.mul_one, ← List.map_drop, ← List.length_drop] at h
  rw [Nat.mul_one]
  exact lc_of h fun x hx => (H.fr x (List.mem_of_mem_drop hx)).nc
/-- What the document's sending leaves behind it. -/
def RSendP (w : World) (r B : Nat) (so : Option Addr) (u : List RV) (k c : Nat) (l : List Nat) (e : Ending) (w' : World) : Prop :=
  ∃ ao2 cap2 y, e = .returned (.int .i64 (((u ++ [y]).length : Nat) : Int)) ∧ y.l = l ∧ GroS (r :: blk so) w w' ∧ WX 28 (c28 ⟨ao2, (u ++ [y]).length, cap2⟩ ((k : Nat) : Int) ((c : Nat) : Int)) w' r B ao2 cap2 (u ++ [y]) ∧ OB w' 5 .u8 w.heap.size y.ao y.cap y.l ∧ Kept w.heap.size so ao2
set_option maxRecDepth 100000 in
set_option maxHeartbeats 4000000 in
theorem rsend_ok (w : World) (r B : Nat) (so : Option Addr) (sc : Nat) (u : List RV) (k c : Nat) (H : WX 28 (c28 ⟨so, u.length, sc⟩ ((k : Nat) : Int) ((c : Nat) : Int)) w r B so sc u) (_hk : k ≤ u.length) (hu : u.length ≤ 100000) (_hc : c ≤ 100000) (ao : Option Addr) (cap : Nat) (l : List Nat) (HB : NC w .u8 ao cap l) (hne : ∀ ad, ao = some ad → 0 < l.length → ad.block ∉ blk so) (hl : l.length ≤ 140737488355000) : Calls Try.prog 10 #[.pointer (some ⟨r, 0, none⟩), .slice ao l.length cap] w (RSendP w r B so u k c l) := by
  refine s_enter Try.func10 rfl Try.ntmps10 [.pointer (some ⟨r, 0, none⟩), .slice ao l.length cap] [.pointer (some ⟨r, 0, none⟩), .slice ao l.length cap, undef, undef, undef, undef, undef, undef, undef, undef, undef, undef, undef, undef, undef, undef, undef, undef, undef, undef, undef, undef] rfl ?_
  have GG := GroS.refl (r :: blk so) w
  have kr := H.box
  have hpl := H.lt
  have hBl := H.bl
  refine wp_seq ?_
  refine wp_region_lit ?_
  refine s_val 4 rfl rfl (.int .i64 0) (rfl) ?_
  refine nr ?_; intro U h; simp only [z0, z1] at h; subst h
  refine wpList_nil ?_
  refine then_n ?_
  refine wp_seq ?_
  refine wp_region_pg (A := ?Ag1) (blk so) 10 [(0, 5), (1, 6), (2, 7), (3, 8), (4, 9), (5, 10), (6, 11), (7, 12), (8, 13), (9, 14)] [.val (.pointer (some ⟨r, 0, none⟩)), .val (.pointer (some ⟨r, 0, none⟩)), .val (.pointer (some ⟨r, 0, none⟩)), .val (.pointer (some ⟨r, 0, none⟩)), .val (.slice so u.length sc), zoE w.heap.size, .val (.slice ao l.length cap), ocE w.heap.size l, bsE w.heap.size l, ptE w.heap.size B so u l] 9 follows (by kernel_rfl) rfl (by decide) (fun j hj hne v a b _ hb hp => match j, hj, hne, hp with | 0, _, _, hp => hp | 1, _, _, hp => hp | 2, _, _, hp => hp | 3, _, _, hp => hp | 4, _, _, hp => hp | 5, _, _, hp => Exists.elim hp fun g hp => ⟨g, hp.1, hp.2.1, hb.has hp.2.2 (blk_ge H.row rfl hp.2.1)⟩ | 6, _, _, hp => hp | 7, _, _, hp => Exists.elim hp fun a hp => Exists.elim hp fun c hp => ⟨a, c, hp.1, ob_av H.row rfl hb hp.2⟩ | 8, _, _, hp => Exists.elim hp fun y hp => Exists.elim hp fun h hp => ⟨y, h, hp.1, hp.2.1, hp.2.2.1, ob_av H.row rfl hb hp.2.2.2.1, hb.has hp.2.2.2.2 (blk_ge H.row rfl hp.2.1)⟩ | 9, _, hne, _ => absurd rfl hne | m + 10, hj, _, _ => absurd hj (by omega)) ?hAg1 (opsG_a (by decide) ?o0g1 (opsG_a (by decide) ?o1g1 (opsG_a (by decide) ?o2g1 (opsG_a (by decide) ?o3g1 (opsG_a (by decide) ?o4g1 (opsG_a (by decide) ?o5g1 (opsG_a (by decide) ?o6g1 (opsG_a (by decide) ?o7g1 (opsG_a (by decide) ?o8g1 (opsG_e ?o9g1 opsG_nil)))))))))) ?restg1
  case hAg1 =>
    intro ptrs
    simp only [full, foldSlots, filledE, postE, List.foldl_cons, List.foldl_nil, List.getD_cons_zero, List.getD_cons_succ, fill_val, fill_zo, fill_oc, fill_bs, fill_pt,  List.set_cons_zero, List.set_cons_succ]
    exact rfl
  case o0g1 => exact fun _ _ _ _ => opE_move (v := .pointer (some ⟨r, 0, none⟩)) _ rfl rfl rfl
  case o1g1 => exact fun _ _ _ _ => opE_move (v := .pointer (some ⟨r, 0, none⟩)) _ rfl rfl rfl
  case o2g1 => exact fun _ _ hw _ => opE_value (v := .pointer (some ⟨r, 0, none⟩)) rfl (run_nc _ rfl _ rfl)
  case o3g1 => exact fun _ _ hw _ => opE_value (v := .pointer (some ⟨r, 0, none⟩)) rfl (run_fld 28 _ 0 rfl _ _ rfl _ (by kernel_rfl))
  case o4g1 => exact fun _ _ hw _ => opE_value (v := .slice so u.length sc) rfl (run_ldc 26 _ rfl r 0 rfl 28 _ (hw.has kr (H.ne)) (na26 _) _ rfl)
  case o5g1 =>
    intro ptrs x hw hE
    exact opE_new _ rfl (run_bsl 30 0 _ rfl [] rfl (by kernel_rfl)) (gro_alloc _ _) ⟨x.heap.size, rfl, hw.size, heap_alloc_new _ _⟩
  case o6g1 => exact fun _ _ _ _ => opE_move (v := .slice ao l.length cap) _ rfl rfl rfl
  case o7g1 =>
    intro ptrs x hw hE
    exact opE_app0 (v := ptrs 5) rfl _ _ rfl rfl hE.1 rfl (hw.nc (HB.gro (Gro.refl _).drew) hne) hl hw.size
  case o8g1 =>
    intro ptrs x hw hE
    obtain ⟨⟨a, c, hv, h1⟩, _⟩ := hE
    exact opE_new _ rfl (run_bsl 26 1 _ rfl [(0, .slice a l.length c)] (by exact congrArg (fun v => [(0, v)]) hv) (by kernel_rfl)) (gro_alloc _ _) ⟨⟨a, c, l⟩, x.heap.size, rfl, hw.size, rfl, h1.gro (gro_alloc _ _), heap_alloc_new _ _⟩
  case o9g1 =>
    intro ptrs x hw hE
    exact put_app (v := ptrs 8) _ _ rfl rfl H.row rfl hBl (by omega) ((Gro.refl _).drew.trans hw) rfl rfl hE.1
  intro ptrs w1 GS hxE
  simp only [List.drop_succ_cons, List.drop_zero]
  obtain ⟨_, _, _, ⟨ao2, cap2, y, hv, hyl, HY, HR, hkp⟩, _⟩ := hxE
  simp only [hv]
  have HF : ∀ x ∈ u, OB _ 5 .u8 B x.ao x.cap x.l := fun x hx => (H.fr x hx).gros (S := blk so) ((GroS.refl _ w).drew.trans GS) (fun ad ha hm => H.f5 H.own x hx ad ha (List.mem_cons_of_mem _ hm))
  replace kr := GS.has kr H.ne
  replace GG := GG.drew.trans (GS.mono (T := r :: blk so) (fun x hx => List.mem_cons_of_mem _ hx))
  have hp2 : r ∉ blk ao2 := HR.ne kr (by decide)
  clear GS hv
  have hyp : ∀ ad, y.ao = some ad → ad.block ≠ r := fun ad ha e => by have := (HY.ge ad ha).1; omega
  refine s_val 15 rfl rfl (.pointer (some ⟨r, 0, none⟩)) (run_nc _ rfl _ rfl) ?_
  refine nr ?_; intro U h; simp only [z0, z1] at h; subst h
  refine s_val 16 rfl rfl (.pointer (some ⟨r, 0, none⟩)) (run_fld 28 _ 0 rfl _ _ rfl _ (by kernel_rfl)) ?_
  refine nr ?_; intro U h; simp only [z0, z1] at h; subst h
  refine s_store rfl rfl 26 _ _ rfl r 0 rfl (.slice ao2 ((u ++ [y]).length) cap2) rfl 28 _ kr #[.slice ao2 ((u ++ [y]).length) cap2] rfl (by kernel_rfl) (Nat.le_of_ble_eq_true rfl) (by kernel_rfl) (c28 ⟨ao2, (u ++ [y]).length, cap2⟩ ((k : Nat) : Int) ((c : Nat) : Int)) (by kernel_rfl) ?_
  intro w3 St
  replace HR := HR.st St hp2
  replace HY := HY.apart St hyp
  replace HF := fun x hx => (HF x hx).apart St (fun ad ha e => by obtain ⟨cur, hc⟩ := (HF x hx).blk5 ha; exact ne_type hc kr (by decide) e)
  replace GG := GG.st St (.inr (by simp))
  replace kr := St.new
  clear St
  refine wpList_nil ?_
  refine then_n ?_
  refine wp_seq ?_
  refine wp_region_lit ?_
  refine s_val 17 rfl rfl (.pointer (some ⟨r, 0, none⟩)) (rfl) ?_
  refine nr ?_; intro U h; simp only [z0, z1] at h; subst h
  refine s_val 18 rfl rfl (.pointer (some ⟨r, 0, none⟩)) (run_nc _ rfl _ rfl) ?_
  refine nr ?_; intro U h; simp only [z0, z1] at h; subst h
  refine s_val 19 rfl rfl (.pointer (some ⟨r, 0, none⟩)) (run_fld 28 _ 0 rfl _ _ rfl _ (by kernel_rfl)) ?_
  refine nr ?_; intro U h; simp only [z0, z1] at h; subst h
  refine s_val 20 rfl rfl (.slice ao2 ((u ++ [y]).length) cap2) (run_ldc 26 _ rfl r 0 rfl 28 _ kr (na26 _) _ rfl) ?_
  refine nr ?_; intro U h; simp only [z0, z1] at h; subst h
  refine s_val 21 rfl rfl (.int .i64 (((u ++ [y]).length : Nat) : Int)) (run_len Try.underlying26 _ rfl _ _ _ rfl _) ?_
  refine nr ?_; intro U h; simp only [z0, z1] at h; subst h
  refine s_val 4 rfl rfl (.int .i64 (((u ++ [y]).length : Nat) : Int)) (rfl) ?_
  refine nr ?_; intro U h; simp only [z0, z1] at h; subst h
  refine wpList_nil ?_
  refine then_n ?_
  refine wp_ret ?_
  refine bodyPost_ret (results_tmp Try.results10 _ _ _) rfl ?_
  refine ⟨ao2, cap2, y, rfl, hyl, GG, ⟨kr, HR, fun x hx => ?_, H.base, fun x hx => ?_, H.ty⟩, HY, hkp⟩
  · rcases List.mem_append.1 hx with hx | hx
    · exact HF x hx
    · cases List.mem_singleton.1 hx
      exact HY.mono hBl
  · rcases List.mem_append.1 hx with hx | hx
    · exact H.sm x hx
    · cases List.mem_singleton.1 hx
      rw [hyl]; exact hl
set_option maxRecDepth 100000 in
set_option maxHeartbeats 4000000 in
theorem racked_low (w : World) (r B : Nat) (so : Option Addr) (sc : Nat) (u : List RV) (k c : Nat) (H : WX 28 (c28 ⟨so, u.length, sc⟩ ((k : Nat) : Int) ((c : Nat) : Int)) w r B so sc u) (_hk : k ≤ u.length) (_hu : u.length ≤ 100000) (_hc : c ≤ 100000) (i : Int) (hi : i < ((k : Nat) : Int) + 1) : Calls Try.prog 12 #[.pointer (some ⟨r, 0, none⟩), .int .i64 i] w fun e w' => e = .returned (.int .i64 0) ∧ Gro w w' := by
  refine s_enter Try.func12 rfl Try.ntmps12 [.pointer (some ⟨r, 0, none⟩), .int .i64 i] [.pointer (some ⟨r, 0, none⟩), .int .i64 i, undef, undef, undef, undef, undef, undef, undef, undef, undef, undef, undef, undef, undef, undef, undef, undef, undef, undef, undef, undef, undef, undef, undef, undef, undef, undef, undef, undef, undef, undef] rfl ?_
  have GG := Gro.refl w
  have kr := H.box
  have hpl := H.lt
  have hBl := H.bl
  refine wp_seq ?_
  refine wp_region_lit ?_
  refine s_val 4 rfl rfl (.int .i64 0) (rfl) ?_
  refine nr ?_; intro U h; simp only [z0, z1] at h; subst h
  refine wpList_nil ?_
  refine then_n ?_
  refine wp_seq ?_
  refine wp_seq ?_
  refine wp_region_opq ?_
  intro OPS hY
  have y6 := hY 6 12 rfl
  clear hY
  refine s_val 6 rfl rfl (.int .i64 i) (rfl) ?_
  refine nr ?_; intro U h; simp only [z0, z1] at h; subst h
  refine s_val 7 rfl rfl (.pointer (some ⟨r, 0, none⟩)) (rfl) ?_
  refine nr ?_; intro U h; simp only [z0, z1] at h; subst h
  refine s_val 8 rfl rfl (.pointer (some ⟨r, 0, none⟩)) (run_nc _ rfl _ rfl) ?_
  refine nr ?_; intro U h; simp only [z0, z1] at h; subst h
  refine s_val 9 rfl rfl (.pointer (some ⟨r, 1, none⟩)) (run_fld 28 _ 1 rfl _ _ rfl _ (by kernel_rfl)) ?_
  refine nr ?_; intro U h; simp only [z0, z1] at h; subst h
  refine s_val 10 rfl rfl (.int .i64 ((k : Nat) : Int)) (run_ldc 2 _ rfl r 1 rfl 28 _ kr (na2 _) _ rfl) ?_
  refine nr ?_; intro U h; simp only [z0, z1] at h; subst h
  refine s_val 11 rfl rfl (.bool true) (run_leqT 2 _ _ _ rfl i ((k : Nat) : Int) rfl rfl true (by first | exact decide_eq_true (by omega) | exact decide_eq_false (by omega)) _) ?_
  refine nr ?_; intro U h; simp only [z0, z1] at h; subst h
  refine s_val 12 rfl rfl (.bool true) (rfl) ?_
  refine nr ?_; intro U h; simp only [z0, z1] at h; subst h
  refine s_skipY 13 rfl rfl y6 rfl ?_
  refine nr ?_; intro U h; simp only [z0, z1] at h; subst h
  refine s_skipY 14 rfl rfl y6 rfl ?_
  refine nr ?_; intro U h; simp only [z0, z1] at h; subst h
  refine s_skipY 15 rfl rfl y6 rfl ?_
  refine nr ?_; intro U h; simp only [z0, z1] at h; subst h
  refine s_skipY 16 rfl rfl y6 rfl ?_
  refine nr ?_; intro U h; simp only [z0, z1] at h; subst h
  refine s_skipY 17 rfl rfl y6 rfl ?_
  refine nr ?_; intro U h; simp only [z0, z1] at h; subst h
  refine s_skipY 18 rfl rfl y6 rfl ?_
  refine nr ?_; intro U h; simp only [z0, z1] at h; subst h
  refine s_skipY 19 rfl rfl y6 rfl ?_
  refine nr ?_; intro U h; simp only [z0, z1] at h; subst h
  refine s_val 20 rfl rfl (.bool true) (rfl) ?_
  refine nr ?_; intro U h; simp only [z0, z1] at h; subst h
  refine wpList_nil ?_
  refine then_n ?_
  refine wp_cond_true rfl ?_
  refine wp_seq ?_
  refine wp_region_lit ?_
  refine s_val 4 rfl rfl (.int .i64 0) (rfl) ?_
  refine nr ?_; intro U h; simp only [z0, z1] at h; subst h
  refine wpList_nil ?_
  refine then_n ?_
  refine wp_ret ?_
  refine then_r ?_
  refine bodyPost_ret (results_tmp Try.results12 _ _ _) rfl ?_
  exact ⟨rfl, GG⟩
set_option maxRecDepth 100000 in
set_option maxHeartbeats 4000000 in
theorem racked_high (w : World) (r B : Nat) (so : Option Addr) (sc : Nat) (u : List RV) (k c : Nat) (H : WX 28 (c28 ⟨so, u.length, sc⟩ ((k : Nat) : Int) ((c : Nat) : Int)) w r B so sc u) (hk : k ≤ u.length) (_hu : u.length ≤ 100000) (_hc : c ≤ 100000) (i : Int) (hi : ((u.length : Nat) : Int) < i) : Calls Try.prog 12 #[.pointer (some ⟨r, 0, none⟩), .int .i64 i] w fun e w' => e = .returned (.int .i64 0) ∧ Gro w w' := by
  refine s_enter Try.func12 rfl Try.ntmps12 [.pointer (some ⟨r, 0, none⟩), .int .i64 i] [.pointer (some ⟨r, 0, none⟩), .int .i64 i, undef, undef, undef, undef, undef, undef, undef, undef, undef, undef, undef, undef, undef, undef, undef, undef, undef, undef, undef, undef, undef, undef, undef, undef, undef, undef, undef, undef, undef, undef] rfl ?_
  have GG := Gro.refl w
  have kr := H.box
  have hpl := H.lt
  have hBl := H.bl
  refine wp_seq ?_
  refine wp_region_lit ?_
  refine s_val 4 rfl rfl (.int .i64 0) (rfl) ?_
  refine nr ?_; intro U h; simp only [z0, z1] at h; subst h
  refine wpList_nil ?_
  refine then_n ?_
  refine wp_seq ?_
  refine wp_seq ?_
  refine wp_region_opq ?_
  intro OPS hY
  have y6 := hY 6 12 rfl
  clear hY
  refine s_val 6 rfl rfl (.int .i64 i) (rfl) ?_
  refine nr ?_; intro U h; simp only [z0, z1] at h; subst h
  refine s_val 7 rfl rfl (.pointer (some ⟨r, 0, none⟩)) (rfl) ?_
  refine nr ?_; intro U h; simp only [z0, z1] at h; subst h
  refine s_val 8 rfl rfl (.pointer (some ⟨r, 0, none⟩)) (run_nc _ rfl _ rfl) ?_
  refine nr ?_; intro U h; simp only [z0, z1] at h; subst h
  refine s_val 9 rfl rfl (.pointer (some ⟨r, 1, none⟩)) (run_fld 28 _ 1 rfl _ _ rfl _ (by kernel_rfl)) ?_
  refine nr ?_; intro U h; simp only [z0, z1] at h; subst h
  refine s_val 10 rfl rfl (.int .i64 ((k : Nat) : Int)) (run_ldc 2 _ rfl r 1 rfl 28 _ kr (na2 _) _ rfl) ?_
  refine nr ?_; intro U h; simp only [z0, z1] at h; subst h
  refine s_val 11 rfl rfl (.bool false) (run_leqT 2 _ _ _ rfl i ((k : Nat) : Int) rfl rfl false (by first | exact decide_eq_true (by omega) | exact decide_eq_false (by omega)) _) ?_
  refine nr ?_; intro U h; simp only [z0, z1] at h; subst h
  refine s_val 12 rfl rfl (.bool false) (rfl) ?_
  refine nr ?_; intro U h; simp only [z0, z1] at h; subst h
  refine s_gvalY 13 rfl rfl y6 rfl (.int .i64 i) (rfl) ?_
  refine nr ?_; intro U h; simp only [z0, z1] at h; subst h
  refine s_gvalY 14 rfl rfl y6 rfl (.pointer (some ⟨r, 0, none⟩)) (rfl) ?_
  refine nr ?_; intro U h; simp only [z0, z1] at h; subst h
  refine s_gvalY 15 rfl rfl y6 rfl (.pointer (some ⟨r, 0, none⟩)) (run_nc _ rfl _ rfl) ?_
  refine nr ?_; intro U h; simp only [z0, z1] at h; subst h
  refine s_gvalY 16 rfl rfl y6 rfl (.pointer (some ⟨r, 0, none⟩)) (run_fld 28 _ 0 rfl _ _ rfl _ (by kernel_rfl)) ?_
  refine nr ?_; intro U h; simp only [z0, z1] at h; subst h
  refine s_gvalY 17 rfl rfl y6 rfl (.slice so u.length sc) (run_ldc 26 _ rfl r 0 rfl 28 _ kr (na26 _) _ rfl) ?_
  refine nr ?_; intro U h; simp only [z0, z1] at h; subst h
  refine s_gvalY 18 rfl rfl y6 rfl (.int .i64 ((u.length : Nat) : Int)) (run_len Try.underlying26 _ rfl _ _ _ rfl _) ?_
  refine nr ?_; intro U h; simp only [z0, z1] at h; subst h
  refine s_gvalY 19 rfl rfl y6 rfl (.bool true) (run_gtrT 2 _ _ _ rfl i ((u.length : Nat) : Int) rfl rfl true (by first | exact decide_eq_true (by omega) | exact decide_eq_false (by omega)) _) ?_
  refine nr ?_; intro U h; simp only [z0, z1] at h; subst h
  refine s_val 20 rfl rfl (.bool true) (rfl) ?_
  refine nr ?_; intro U h; simp only [z0, z1] at h; subst h
  refine wpList_nil ?_
  refine then_n ?_
  refine wp_cond_true rfl ?_
  refine wp_seq ?_
  refine wp_region_lit ?_
  refine s_val 4 rfl rfl (.int .i64 0) (rfl) ?_
  refine nr ?_; intro U h; simp only [z0, z1] at h; subst h
  refine wpList_nil ?_
  refine then_n ?_
  refine wp_ret ?_
  refine then_r ?_
  refine bodyPost_ret (results_tmp Try.results12 _ _ _) rfl ?_
  exact ⟨rfl, GG⟩
set_option maxRecDepth 100000 in
set_option maxHeartbeats 4000000 in
theorem racked_ok (w : World) (r B : Nat) (so : Option Addr) (sc : Nat) (u : List RV) (k c : Nat) (H : WX 28 (c28 ⟨so, u.length, sc⟩ ((k : Nat) : Int) ((c : Nat) : Int)) w r B so sc u) (_hk : k ≤ u.length) (hu : u.length ≤ 100000) (_hc : c ≤ 100000) (m : Nat) (hm1 : 1 ≤ m) (hm : k + m ≤ u.length) : Calls Try.prog 12 #[.pointer (some ⟨r, 0, none⟩), .int .i64 ((k + m : Nat) : Int)] w fun e w' => e = .returned (.int .i64 ((m : Nat) : Int)) ∧ GroS [r] w w' ∧ WX 28 (c28 ⟨so, u.length, sc⟩ ((k + m : Nat) : Int) ((c : Nat) : Int)) w' r B so sc u := by
  refine s_enter Try.func12 rfl Try.ntmps12 [.pointer (some ⟨r, 0, none⟩), .int .i64 ((k + m : Nat) : Int)] [.pointer (some ⟨r, 0, none⟩), .int .i64 ((k + m : Nat) : Int), undef, undef, undef, undef, undef, undef, undef, undef, undef, undef, undef, undef, undef, undef, undef, undef, undef, undef, undef, undef, undef, undef, undef, undef, undef, undef, undef, undef, undef, undef] rfl ?_
  have GG := GroS.refl [r] w
  have kr := H.box
  have hpl := H.lt
  have hBl := H.bl
  refine wp_seq ?_
  refine wp_region_lit ?_
  refine s_val 4 rfl rfl (.int .i64 0) (rfl) ?_
  refine nr ?_; intro U h; simp only [z0, z1] at h; subst h
  refine wpList_nil ?_
  refine then_n ?_
  refine wp_seq ?_
  refine wp_seq ?_
  refine wp_region_opq ?_
  intro OPS hY
  have y6 := hY 6 12 rfl
  clear hY
  refine s_val 6 rfl rfl (.int .i64 ((k + m : Nat) : Int)) (rfl) ?_
  refine nr ?_; intro U h; simp only [z0, z1] at h; subst h
  refine s_val 7 rfl rfl (.pointer (some ⟨r, 0, none⟩)) (rfl) ?_
  refine nr ?_; intro U h; simp only [z0, z1] at h; subst h
  refine s_val 8 rfl rfl (.pointer (some ⟨r, 0, none⟩)) (run_nc _ rfl _ rfl) ?_
  refine nr ?_; intro U h; simp only [z0, z1] at h; subst h
  refine s_val 9 rfl rfl (.pointer (some ⟨r, 1, none⟩)) (run_fld 28 _ 1 rfl _ _ rfl _ (by kernel_rfl)) ?_
  refine nr ?_; intro U h; simp only [z0, z1] at h; subst h
  refine s_val 10 rfl rfl (.int .i64 ((k : Nat) : Int)) (run_ldc 2 _ rfl r 1 rfl 28 _ kr (na2 _) _ rfl) ?_
  refine nr ?_; intro U h; simp only [z0, z1] at h; subst h
  refine s_val 11 rfl rfl (.bool false) (run_leqT 2 _ _ _ rfl ((k + m : Nat) : Int) ((k : Nat) : Int) rfl rfl false (by first | exact decide_eq_true (by omega) | exact decide_eq_false (by omega)) _) ?_
  refine nr ?_; intro U h; simp only [z0, z1] at h; subst h
  refine s_val 12 rfl rfl (.bool false) (rfl) ?_
  refine nr ?_; intro U h; simp only [z0, z1] at h; subst h
  refine s_gvalY 13 rfl rfl y6 rfl (.int .i64 ((k + m : Nat) : Int)) (rfl) ?_
  refine nr ?_; intro U h; simp only [z0, z1] at h; subst h
  refine s_gvalY 14 rfl rfl y6 rfl (.pointer (some ⟨r, 0, none⟩)) (rfl) ?_
  refine nr ?_; intro U h; simp only [z0, z1] at h; subst h
  refine s_gvalY 15 rfl rfl y6 rfl (.pointer (some ⟨r, 0, none⟩)) (run_nc _ rfl _ rfl) ?_
  refine nr ?_; intro U h; simp only [z0, z1] at h; subst h
  refine s_gvalY 16 rfl rfl y6 rfl (.pointer (some ⟨r, 0, none⟩)) (run_fld 28 _ 0 rfl _ _ rfl _ (by kernel_rfl)) ?_
  refine nr ?_; intro U h; simp only [z0, z1] at h; subst h
  refine s_gvalY 17 rfl rfl y6 rfl (.slice so u.length sc) (run_ldc 26 _ rfl r 0 rfl 28 _ kr (na26 _) _ rfl) ?_
  refine nr ?_; intro U h; simp only [z0, z1] at h; subst h
  refine s_gvalY 18 rfl rfl y6 rfl (.int .i64 ((u.length : Nat) : Int)) (run_len Try.underlying26 _ rfl _ _ _ rfl _) ?_
  refine nr ?_; intro U h; simp only [z0, z1] at h; subst h
  refine s_gvalY 19 rfl rfl y6 rfl (.bool false) (run_gtrT 2 _ _ _ rfl ((k + m : Nat) : Int) ((u.length : Nat) : Int) rfl rfl false (by first | exact decide_eq_true (by omega) | exact decide_eq_false (by omega)) _) ?_
  refine nr ?_; intro U h; simp only [z0, z1] at h; subst h
  refine s_val 20 rfl rfl (.bool false) (rfl) ?_
  refine nr ?_; intro U h; simp only [z0, z1] at h; subst h
  refine wpList_nil ?_
  refine then_n ?_
  refine wp_cond_false rfl ?_
  refine wp_skip ?_
  refine then_n ?_
  refine wp_seq ?_
  refine wp_region_lit ?_
  refine s_val 21 rfl rfl (.int .i64 ((k + m : Nat) : Int)) (rfl) ?_
  refine nr ?_; intro U h; simp only [z0, z1] at h; subst h
  refine s_val 22 rfl rfl (.pointer (some ⟨r, 0, none⟩)) (rfl) ?_
  refine nr ?_; intro U h; simp only [z0, z1] at h; subst h
  refine s_val 23 rfl rfl (.pointer (some ⟨r, 0, none⟩)) (run_nc _ rfl _ rfl) ?_
  refine nr ?_; intro U h; simp only [z0, z1] at h; subst h
  refine s_val 24 rfl rfl (.pointer (some ⟨r, 1, none⟩)) (run_fld 28 _ 1 rfl _ _ rfl _ (by kernel_rfl)) ?_
  refine nr ?_; intro U h; simp only [z0, z1] at h; subst h
  refine s_val 25 rfl rfl (.int .i64 ((k : Nat) : Int)) (run_ldc 2 _ rfl r 1 rfl 28 _ kr (na2 _) _ rfl) ?_
  refine nr ?_; intro U h; simp only [z0, z1] at h; subst h
  refine s_val 26 rfl rfl (.int .i64 ((m : Nat) : Int)) (run_subI 2 _ _ _ rfl ((k + m : Nat) : Int) ((k : Nat) : Int) ((m : Nat) : Int) rfl rfl (by omega) (by omega) (by omega) _) ?_
  refine nr ?_; intro U h; simp only [z0, z1] at h; subst h
  refine s_val 5 rfl rfl (.int .i64 ((m : Nat) : Int)) (rfl) ?_
  refine nr ?_; intro U h; simp only [z0, z1] at h; subst h
  refine wpList_nil ?_
  refine then_n ?_
  refine wp_seq ?_
  refine wp_region_lit ?_
  refine s_val 27 rfl rfl (.pointer (some ⟨r, 0, none⟩)) (rfl) ?_
  refine nr ?_; intro U h; simp only [z0, z1] at h; subst h
  refine s_val 28 rfl rfl (.int .i64 ((k + m : Nat) : Int)) (rfl) ?_
  refine nr ?_; intro U h; simp only [z0, z1] at h; subst h
  refine s_val 29 rfl rfl (.pointer (some ⟨r, 0, none⟩)) (run_nc _ rfl _ rfl) ?_
  refine nr ?_; intro U h; simp only [z0, z1] at h; subst h
  refine s_val 30 rfl rfl (.pointer (some ⟨r, 1, none⟩)) (run_fld 28 _ 1 rfl _ _ rfl _ (by kernel_rfl)) ?_
  refine nr ?_; intro U h; simp only [z0, z1] at h; subst h
  refine s_store rfl rfl 2 _ _ rfl r 1 rfl (.int .i64 ((k + m : Nat) : Int)) rfl 28 _ kr #[.int .i64 ((k + m : Nat) : Int)] rfl (by kernel_rfl) (Nat.le_of_ble_eq_true rfl) (by kernel_rfl) (c28 ⟨so, u.length, sc⟩ ((k + m : Nat) : Int) ((c : Nat) : Int)) (by kernel_rfl) ?_
  intro w2 St
  replace GG := GG.st St (.inr (by simp))
  replace kr := St.new
  clear St
  refine wpList_nil ?_
  refine then_n ?_
  refine wp_seq ?_
  refine wp_region_lit ?_
  refine s_val 31 rfl rfl (.int .i64 ((m : Nat) : Int)) (rfl) ?_
  refine nr ?_; intro U h; simp only [z0, z1] at h; subst h
  refine s_val 4 rfl rfl (.int .i64 ((m : Nat) : Int)) (rfl) ?_
  refine nr ?_; intro U h; simp only [z0, z1] at h; subst h
  refine wpList_nil ?_
  refine then_n ?_
  refine wp_ret ?_
  refine bodyPost_ret (results_tmp Try.results12 _ _ _) rfl ?_
  exact ⟨rfl, GG, ⟨kr, H.row.gros GG (fun k hk hm => by rw [List.mem_singleton.1 hm] at hk; exact H.ne hk), fun x hx => (H.fr x hx).gros GG (fun ad ha hm => H.f5 H.own x hx ad ha (by rw [List.mem_singleton.1 hm]; exact List.mem_cons_self)), H.base, H.sm, H.ty⟩⟩
set_option maxRecDepth 100000 in
set_option maxHeartbeats 4000000 in
theorem rcame_no (w : World) (r B : Nat) (so : Option Addr) (sc : Nat) (u : List RV) (k c : Nat) (H : WX 28 (c28 ⟨so, u.length, sc⟩ ((k : Nat) : Int) ((c : Nat) : Int)) w r B so sc u) (_hk : k ≤ u.length) (_hu : u.length ≤ 100000) (hc : c ≤ 100000) (i : Int) (hi : i ≠ ((c : Nat) : Int) + 1) : Calls Try.prog 14 #[.pointer (some ⟨r, 0, none⟩), .int .i64 i] w fun e w' => e = .returned (.bool false) ∧ Gro w w' := by
  refine s_enter Try.func14 rfl Try.ntmps14 [.pointer (some ⟨r, 0, none⟩), .int .i64 i] [.pointer (some ⟨r, 0, none⟩), .int .i64 i, undef, undef, undef, undef, undef, undef, undef, undef, undef, undef, undef, undef, undef, undef, undef, undef, undef, undef, undef, undef, undef] rfl ?_
  have GG := Gro.refl w
  have kr := H.box
  have hpl := H.lt
  have hBl := H.bl
  refine wp_seq ?_
  refine wp_region_lit ?_
  refine s_val 4 rfl rfl (.bool false) (rfl) ?_
  refine nr ?_; intro U h; simp only [z0, z1] at h; subst h
  refine wpList_nil ?_
  refine then_n ?_
  refine wp_seq ?_
  refine wp_seq ?_
  refine wp_region_opq ?_
  intro OPS hY
  have y5 := hY 5 10 rfl
  clear hY
  refine s_val 5 rfl rfl (.pointer (some ⟨r, 0, none⟩)) (rfl) ?_
  refine nr ?_; intro U h; simp only [z0, z1] at h; subst h
  refine s_val 6 rfl rfl (.pointer (some ⟨r, 0, none⟩)) (run_nc _ rfl _ rfl) ?_
  refine nr ?_; intro U h; simp only [z0, z1] at h; subst h
  refine s_val 7 rfl rfl (.pointer (some ⟨r, 2, none⟩)) (run_fld 28 _ 2 rfl _ _ rfl _ (by kernel_rfl)) ?_
  refine nr ?_; intro U h; simp only [z0, z1] at h; subst h
  refine s_val 8 rfl rfl (.int .i64 ((c : Nat) : Int)) (run_ldc 2 _ rfl r 2 rfl 28 _ kr (na2 _) _ rfl) ?_
  refine nr ?_; intro U h; simp only [z0, z1] at h; subst h
  refine s_val 9 rfl rfl (.bool false) (run_geqT 2 _ _ _ rfl ((c : Nat) : Int) 4611686018427387904 rfl rfl false (by first | exact decide_eq_true (by omega) | exact decide_eq_false (by omega)) _) ?_
  refine nr ?_; intro U h; simp only [z0, z1] at h; subst h
  refine s_val 10 rfl rfl (.bool false) (rfl) ?_
  refine nr ?_; intro U h; simp only [z0, z1] at h; subst h
  refine s_gvalY 11 rfl rfl y5 rfl (.int .i64 i) (rfl) ?_
  refine nr ?_; intro U h; simp only [z0, z1] at h; subst h
  refine s_gvalY 12 rfl rfl y5 rfl (.pointer (some ⟨r, 0, none⟩)) (rfl) ?_
  refine nr ?_; intro U h; simp only [z0, z1] at h; subst h
  refine s_gvalY 13 rfl rfl y5 rfl (.pointer (some ⟨r, 0, none⟩)) (run_nc _ rfl _ rfl) ?_
  refine nr ?_; intro U h; simp only [z0, z1] at h; subst h
  refine s_gvalY 14 rfl rfl y5 rfl (.pointer (some ⟨r, 2, none⟩)) (run_fld 28 _ 2 rfl _ _ rfl _ (by kernel_rfl)) ?_
  refine nr ?_; intro U h; simp only [z0, z1] at h; subst h
  refine s_gvalY 15 rfl rfl y5 rfl (.int .i64 ((c : Nat) : Int)) (run_ldc 2 _ rfl r 2 rfl 28 _ kr (na2 _) _ rfl) ?_
  refine nr ?_; intro U h; simp only [z0, z1] at h; subst h
  refine s_gvalY 16 rfl rfl y5 rfl (.int .i64 ((c + 1 : Nat) : Int)) (run_addI 2 _ _ _ rfl ((c : Nat) : Int) 1 ((c + 1 : Nat) : Int) rfl rfl (by omega) (by omega) (by omega) _) ?_
  refine nr ?_; intro U h; simp only [z0, z1] at h; subst h
  refine s_gvalY 17 rfl rfl y5 rfl (.bool true) (run_neq_k 2 .i64 _ _ _ rfl Try.underlying2 i ((c + 1 : Nat) : Int) rfl rfl true (decide_eq_false (by omega)) _) ?_
  refine nr ?_; intro U h; simp only [z0, z1] at h; subst h
  refine s_val 18 rfl rfl (.bool true) (rfl) ?_
  refine nr ?_; intro U h; simp only [z0, z1] at h; subst h
  refine wpList_nil ?_
  refine then_n ?_
  refine wp_cond_true rfl ?_
  refine wp_seq ?_
  refine wp_region_lit ?_
  refine s_val 4 rfl rfl (.bool false) (rfl) ?_
  refine nr ?_; intro U h; simp only [z0, z1] at h; subst h
  refine wpList_nil ?_
  refine then_n ?_
  refine wp_ret ?_
  refine then_r ?_
  refine bodyPost_ret (results_tmp Try.results14 _ _ _) rfl ?_
  exact ⟨rfl, GG⟩
set_option maxRecDepth 100000 in
set_option maxHeartbeats 4000000 in
theorem rcame_ok (w : World) (r B : Nat) (so : Option Addr) (sc : Nat) (u : List RV) (k c : Nat) (H : WX 28 (c28 ⟨so, u.length, sc⟩ ((k : Nat) : Int) ((c : Nat) : Int)) w r B so sc u) (_hk : k ≤ u.length) (_hu : u.length ≤ 100000) (hc : c ≤ 100000) : Calls Try.prog 14 #[.pointer (some ⟨r, 0, none⟩), .int .i64 ((c + 1 : Nat) : Int)] w fun e w' => e = .returned (.bool true) ∧ GroS [r] w w' ∧ WX 28 (c28 ⟨so, u.length, sc⟩ ((k : Nat) : Int) ((c + 1 : Nat) : Int)) w' r B so sc u := by
  refine s_enter Try.func14 rfl Try.ntmps14 [.pointer (some ⟨r, 0, none⟩), .int .i64 ((c + 1 : Nat) : Int)] [.pointer (some ⟨r, 0, none⟩), .int .i64 ((c + 1 : Nat) : Int), undef, undef, undef, undef, undef, undef, undef, undef, undef, undef, undef, undef, undef, undef, undef, undef, undef, undef, undef, undef, undef] rfl ?_
  have GG := GroS.refl [r] w
  have kr := H.box
  have hpl := H.lt
  have hBl := H.bl
  refine wp_seq ?_
  refine wp_region_lit ?_
  refine s_val 4 rfl rfl (.bool false) (rfl) ?_
  refine nr ?_; intro U h; simp only [z0, z1] at h; subst h
  refine wpList_nil ?_
  refine then_n ?_
  refine wp_seq ?_
  refine wp_seq ?_
  refine wp_region_opq ?_
  intro OPS hY
  have y5 := hY 5 10 rfl
  clear hY
  refine s_val 5 rfl rfl (.pointer (some ⟨r, 0, none⟩)) (rfl) ?_
  refine nr ?_; intro U h; simp only [z0, z1] at h; subst h
  refine s_val 6 rfl rfl (.pointer (some ⟨r, 0, none⟩)) (run_nc _ rfl _ rfl) ?_
  refine nr ?_; intro U h; simp only [z0, z1] at h; subst h
  refine s_val 7 rfl rfl (.pointer (some ⟨r, 2, none⟩)) (run_fld 28 _ 2 rfl _ _ rfl _ (by kernel_rfl)) ?_
  refine nr ?_; intro U h; simp only [z0, z1] at h; subst h
  refine s_val 8 rfl rfl (.int .i64 ((c : Nat) : Int)) (run_ldc 2 _ rfl r 2 rfl 28 _ kr (na2 _) _ rfl) ?_
  refine nr ?_; intro U h; simp only [z0, z1] at h; subst h
  refine s_val 9 rfl rfl (.bool false) (run_geqT 2 _ _ _ rfl ((c : Nat) : Int) 4611686018427387904 rfl rfl false (by first | exact decide_eq_true (by omega) | exact decide_eq_false (by omega)) _) ?_
  refine nr ?_; intro U h; simp only [z0, z1] at h; subst h
  refine s_val 10 rfl rfl (.bool false) (rfl) ?_
  refine nr ?_; intro U h; simp only [z0, z1] at h; subst h
  refine s_gvalY 11 rfl rfl y5 rfl (.int .i64 ((c + 1 : Nat) : Int)) (rfl) ?_
  refine nr ?_; intro U h; simp only [z0, z1] at h; subst h
  refine s_gvalY 12 rfl rfl y5 rfl (.pointer (some ⟨r, 0, none⟩)) (rfl) ?_
  refine nr ?_; intro U h; simp only [z0, z1] at h; subst h
  refine s_gvalY 13 rfl rfl y5 rfl (.pointer (some ⟨r, 0, none⟩)) (run_nc _ rfl _ rfl) ?_
  refine nr ?_; intro U h; simp only [z0, z1] at h; subst h
  refine s_gvalY 14 rfl rfl y5 rfl (.pointer (some ⟨r, 2, none⟩)) (run_fld 28 _ 2 rfl _ _ rfl _ (by kernel_rfl)) ?_
  refine nr ?_; intro U h; simp only [z0, z1] at h; subst h
  refine s_gvalY 15 rfl rfl y5 rfl (.int .i64 ((c : Nat) : Int)) (run_ldc 2 _ rfl r 2 rfl 28 _ kr (na2 _) _ rfl) ?_
  refine nr ?_; intro U h; simp only [z0, z1] at h; subst h
  refine s_gvalY 16 rfl rfl y5 rfl (.int .i64 ((c + 1 : Nat) : Int)) (run_addI 2 _ _ _ rfl ((c : Nat) : Int) 1 ((c + 1 : Nat) : Int) rfl rfl (by omega) (by omega) (by omega) _) ?_
  refine nr ?_; intro U h; simp only [z0, z1] at h; subst h
  refine s_gvalY 17 rfl rfl y5 rfl (.bool false) (run_neq_k 2 .i64 _ _ _ rfl Try.underlying2 ((c + 1 : Nat) : Int) ((c + 1 : Nat) : Int) rfl rfl false (decide_eq_true rfl) _) ?_
  refine nr ?_; intro U h; simp only [z0, z1] at h; subst h
  refine s_val 18 rfl rfl (.bool false) (rfl) ?_
  refine nr ?_; intro U h; simp only [z0, z1] at h; subst h
  refine wpList_nil ?_
  refine then_n ?_
  refine wp_cond_false rfl ?_
  refine wp_skip ?_
  refine then_n ?_
  refine wp_seq ?_
  refine wp_region_lit ?_
  refine s_val 19 rfl rfl (.pointer (some ⟨r, 0, none⟩)) (rfl) ?_
  refine nr ?_; intro U h; simp only [z0, z1] at h; subst h
  refine s_val 20 rfl rfl (.int .i64 ((c + 1 : Nat) : Int)) (rfl) ?_
  refine nr ?_; intro U h; simp only [z0, z1] at h; subst h
  refine s_val 21 rfl rfl (.pointer (some ⟨r, 0, none⟩)) (run_nc _ rfl _ rfl) ?_
  refine nr ?_; intro U h; simp only [z0, z1] at h; subst h
  refine s_val 22 rfl rfl (.pointer (some ⟨r, 2, none⟩)) (run_fld 28 _ 2 rfl _ _ rfl _ (by kernel_rfl)) ?_
  refine nr ?_; intro U h; simp only [z0, z1] at h; subst h
  refine s_store rfl rfl 2 _ _ rfl r 2 rfl (.int .i64 ((c + 1 : Nat) : Int)) rfl 28 _ kr #[.int .i64 ((c + 1 : Nat) : Int)] rfl (by kernel_rfl) (Nat.le_of_ble_eq_true rfl) (by kernel_rfl) (c28 ⟨so, u.length, sc⟩ ((k : Nat) : Int) ((c + 1 : Nat) : Int)) (by kernel_rfl) ?_
  intro w2 St
  replace GG := GG.st St (.inr (by simp))
  replace kr := St.new
  clear St
  refine wpList_nil ?_
  refine then_n ?_
  refine wp_seq ?_
  refine wp_region_lit ?_
  refine s_val 4 rfl rfl (.bool true) (rfl) ?_
  refine nr ?_; intro U h; simp only [z0, z1] at h; subst h
  refine wpList_nil ?_
  refine then_n ?_
  refine wp_ret ?_
  refine bodyPost_ret (results_tmp Try.results14 _ _ _) rfl ?_
  exact ⟨rfl, GG, ⟨kr, H.row.gros GG (fun k hk hm => by rw [List.mem_singleton.1 hm] at hk; exact H.ne hk), fun x hx => (H.fr x hx).gros GG (fun ad ha hm => H.f5 H.own x hx ad ha (by rw [List.mem_singleton.1 hm]; exact List.mem_cons_self)), H.base, H.sm, H.ty⟩⟩
set_option maxRecDepth 100000 in
set_option maxHeartbeats 4000000 in
theorem rwaits_any (w : World) (r B : Nat) (so : Option Addr) (sc : Nat) (u : List RV) (k c : Nat) (H : WX 28 (c28 ⟨so, u.length, sc⟩ ((k : Nat) : Int) ((c : Nat) : Int)) w r B so sc u) (hk : k ≤ u.length) (hu : u.length ≤ 100000) (_hc : c ≤ 100000) : Calls Try.prog 16 #[.pointer (some ⟨r, 0, none⟩)] w fun e w' => e = .returned (.tuple #[.int .i64 ((k + 1 : Nat) : Int), .slice (if sc = k then so else so.map (·.add (k * 1))) ((u.drop k).length) (sc - k)]) ∧ Gro w w' := by
  refine s_enter Try.func16 rfl Try.ntmps16 [.pointer (some ⟨r, 0, none⟩)] [.pointer (some ⟨r, 0, none⟩), undef, undef, undef, undef, undef, undef, undef, undef, undef, undef, undef, undef, undef, undef, undef, undef, undef] rfl ?_
  have GG := Gro.refl w
  have kr := H.box
  have hpl := H.lt
  have hBl := H.bl
  refine wp_seq ?_
  refine wp_region_lit ?_
  refine s_val 2 rfl rfl (.int .i64 0) (rfl) ?_
  refine nr ?_; intro U h; simp only [z0, z1] at h; subst h
  refine s_val 3 rfl rfl (.slice none 0 0) (rfl) ?_
  refine nr ?_; intro U h; simp only [z0, z1] at h; subst h
  refine wpList_nil ?_
  refine then_n ?_
  refine wp_seq ?_
  refine wp_region_exA (A := ?Ax2) 15 [(0, 4), (1, 5), (2, 6), (3, 7), (4, 8), (5, 9), (6, 10), (7, 11), (8, 12), (9, 13), (10, 14), (11, 15), (12, 16), (13, 17), (14, 2)] [.val (.pointer (some ⟨r, 0, none⟩)), .val (.pointer (some ⟨r, 0, none⟩)), .val (.pointer (some ⟨r, 1, none⟩)), .val (.int .i64 ((k : Nat) : Int)), .val (.int .i64 ((k + 1 : Nat) : Int)), .val (.pointer (some ⟨r, 0, none⟩)), .val (.pointer (some ⟨r, 0, none⟩)), .val (.pointer (some ⟨r, 0, none⟩)), .val (.slice so u.length sc), .val (.pointer (some ⟨r, 0, none⟩)), .val (.pointer (some ⟨r, 0, none⟩)), .val (.pointer (some ⟨r, 1, none⟩)), .val (.int .i64 ((k : Nat) : Int)), .val (.slice (if sc = k then so else so.map (·.add (k * 1))) ((u.drop k).length) (sc - k)), .val (.int .i64 ((k + 1 : Nat) : Int))] follows (by kernel_rfl) rfl ?hAx2 (opsA_cons ?o0x2 (opsA_cons ?o1x2 (opsA_cons ?o2x2 (opsA_cons ?o3x2 (opsA_cons ?o4x2 (opsA_cons ?o5x2 (opsA_cons ?o6x2 (opsA_cons ?o7x2 (opsA_cons ?o8x2 (opsA_cons ?o9x2 (opsA_cons ?o10x2 (opsA_cons ?o11x2 (opsA_cons ?o12x2 (opsA_cons ?o13x2 (opsA_cons ?o14x2 opsA_nil))))))))))))))) ?restx2
  case hAx2 =>
    intro ptrs
    simp only [full, foldSlots, filledE, postE, List.foldl_cons, List.foldl_nil, List.getD_cons_zero, List.getD_cons_succ, fill_val, List.set_cons_zero, List.set_cons_succ]
    exact rfl
  case o0x2 => exact fun _ _ _ _ => opE_move (v := .pointer (some ⟨r, 0, none⟩)) _ rfl rfl rfl
  case o1x2 => exact fun _ _ hw _ => opE_value (v := .pointer (some ⟨r, 0, none⟩)) rfl (run_nc _ rfl _ rfl)
  case o2x2 => exact fun _ _ hw _ => opE_value (v := .pointer (some ⟨r, 1, none⟩)) rfl (run_fld 28 _ 1 rfl _ _ rfl _ (by kernel_rfl))
  case o3x2 => exact fun _ _ hw _ => opE_value (v := .int .i64 ((k : Nat) : Int)) rfl (run_ldc 2 _ rfl r 1 rfl 28 _ (hw.has kr) (na2 _) _ rfl)
  case o4x2 => exact fun _ _ hw _ => opE_value (v := .int .i64 ((k + 1 : Nat) : Int)) rfl (run_addI 2 _ _ _ rfl ((k : Nat) : Int) 1 ((k + 1 : Nat) : Int) rfl rfl (by omega) (by omega) (by omega) _)
  case o5x2 => exact fun _ _ _ _ => opE_move (v := .pointer (some ⟨r, 0, none⟩)) _ rfl rfl rfl
  case o6x2 => exact fun _ _ hw _ => opE_value (v := .pointer (some ⟨r, 0, none⟩)) rfl (run_nc _ rfl _ rfl)
  case o7x2 => exact fun _ _ hw _ => opE_value (v := .pointer (some ⟨r, 0, none⟩)) rfl (run_fld 28 _ 0 rfl _ _ rfl _ (by kernel_rfl))
  case o8x2 => exact fun _ _ hw _ => opE_value (v := .slice so u.length sc) rfl (run_ldc 26 _ rfl r 0 rfl 28 _ (hw.has kr) (na26 _) _ rfl)
  case o9x2 => exact fun _ _ _ _ => opE_move (v := .pointer (some ⟨r, 0, none⟩)) _ rfl rfl rfl
  case o10x2 => exact fun _ _ hw _ => opE_value (v := .pointer (some ⟨r, 0, none⟩)) rfl (run_nc _ rfl _ rfl)
  case o11x2 => exact fun _ _ hw _ => opE_value (v := .pointer (some ⟨r, 1, none⟩)) rfl (run_fld 28 _ 1 rfl _ _ rfl _ (by kernel_rfl))
  case o12x2 => exact fun _ _ hw _ => opE_value (v := .int .i64 ((k : Nat) : Int)) rfl (run_ldc 2 _ rfl r 1 rfl 28 _ (hw.has kr) (na2 _) _ rfl)
  case o13x2 => exact fun _ _ hw _ => opE_value (v := .slice (if sc = k then so else so.map (·.add (k * 1))) ((u.drop k).length) (sc - k)) rfl ((run_cutX rY _ _ rfl so u.length sc k rfl rfl hk _).trans (by rw [List.length_drop]))
  case o14x2 => exact fun _ _ _ _ => opE_assign (v := .int .i64 ((k + 1 : Nat) : Int)) _ rfl rfl rfl
  intro ptrs w1 GD hxE
  simp only [List.drop_succ_cons, List.drop_zero]
  replace kr := GD.has kr
  replace GG := GG.drew.trans GD
  clear GD
  refine s_val 3 rfl rfl (.slice (if sc = k then so else so.map (·.add (k * 1))) ((u.drop k).length) (sc - k)) (rfl) ?_
  refine nr ?_; intro U h; simp only [z0, z1] at h; subst h
  refine wpList_nil ?_
  refine then_n ?_
  refine wp_ret ?_
  refine bodyPost_ret (results_tmp2 Try.results16 _ _ _) rfl ?_
  exact ⟨rfl, GG⟩
end Go.Proofs.Ythlfjbnfeclkmaa
