/- The document's pipe: Place, Put, Twice, Take. -/
import Derived.Test.YtlonnbmkkmfmeaaQ5
namespace Go.Proofs.Ytlonnbmkkmfmeaa
open Go.RowKit

/-- No bytes yet. -/
def zoE (M : Nat) : PostE := PostE.ex (fun v x => ∃ g, v = .slice (some ⟨g, 0, none⟩) 0 0 ∧ M ≤ g ∧ x.heap[g]? = some (.cells #[] 5 (0, 0))) (fun _ _ _ G ⟨g, h1, h2, h3⟩ => ⟨g, h1, h2, G.has h3⟩)
theorem fill_zo (M : Nat) (v : Value) : (zoE M).fill v = v := rfl
theorem run_app0 (ty : TypeId) (w : World) {M g : Nat} (hk : w.heap[g]? = some (.cells #[] 5 (0, 0))) (hg : M ≤ g) (hM : M ≤ w.heap.size) {ao : Option Addr} {cap : Nat} {l : List Nat} (H : NC w .u8 ao cap l) (hl : l.length ≤ 140737488355000) :
    ∃ ao2 cap2 w', (Builtin.append_ #[30, 30] ty #[.slice (some ⟨g, 0, none⟩) 0 0, .slice ao l.length cap]).run Try.prog w = .ok (.slice ao2 l.length cap2) w' ∧ OB w' 5 .u8 M ao2 cap2 l ∧ Gro w w' := by
  obtain ⟨i, hi, hz, hsz, hby⟩ := bT.info
  have HO : OB w 5 .u8 M (some ⟨g, 0, none⟩) 0 [] := OB.made hk hg (Nat.le_refl _) (Nat.zero_le _) rfl rfl (fun x hx => by cases hx)
  have hcm : ∀ old, grownCap w l.length old 5 ≤ maxLen := fun old => grownCap_le_maxLen w l.length old 5 (by simp only [maxLen]; omega)
  cases ao with
  | none =>
    have h1 := H.bare rfl
    have h2 := H.fit
    have h3 : l = [] := List.eq_nil_of_length_eq_zero (by omega)
    subst h3
    subst h1
    exact ⟨some ⟨g, 0, none⟩, 0, w, run_append_owned_none (P := Try.prog) (w := w) M 30 ty 5 i 1 bT.und hi _ 0 _ HO.own, HO, Gro.refl _⟩
  | some a =>
    by_cases h0 : l = []
    · subst h0
      refine ⟨some ⟨g, 0, none⟩, 0, w, ?_, HO, Gro.refl _⟩
      have hf := run_firstCells_some (P := Try.prog) w i.size 0 a 0 cap [] (by simp) (fun j v hv => by simp at hv)
      simp [Builtin.append_, run_underlying bT.und, sizeOf, typeInfo, hi, Builtin.lenOf, hf, storeCells]
    · have hpos : 0 < l.length := List.length_pos_iff.2 h0
      have hx := H.xc
      have hr := run_append_grow (P := Try.prog) w 30 ty 5 i (.int .u8 0) bT.und hi hz ⟨g, 0, none⟩ 0 0 [] (by simp) (fun j v hv => by simp at hv) a l.length cap (l.map fun r : Nat => Value.int .u8 (r : Int)) (by rw [hsz]; simp) (fun j v hv => hx.cell a rfl j v hv) (by omega) (by omega) (growslice_fits (by omega) (by rw [hby]; omega))
      simp only [Nat.zero_add] at hr
      refine ⟨_, _, _, hr, OB.made (heap_alloc_new w.drew _) hM (grownCap_ge w l.length 0 5) (hcm 0) ?_ ?_ H.wf, (Gro.refl w).drew.trans (gro_alloc _ _)⟩
      · have hge := grownCap_ge w l.length 0 5
        have hzc : (Value.int .u8 0).cells.size = 1 := rfl
        simp only [Array.size_append, List.size_toArray, size_zeroCells, List.length_map, List.length_nil, hzc]
        omega
      · simp
theorem opE_app0 {ops : Array Oper} {o : Oper} {A : Act} {x : World} (hw : Region.wanted o (yielded ops A.tmps) = true) (s y : Operand) (ho : o.op = .call { callee := .builtin .append, args := #[s, y], argTypes := #[30, 30] }) {M : Nat} {v : Value} (hs : A.eval s = v) (hv : (zoE M).p v x) {ao : Option Addr} {cap : Nat} {l : List Nat} (hy : A.eval y = .slice ao l.length cap) (H : NC x .u8 ao cap l) (hl : l.length ≤ 140737488355000) (hM : M ≤ x.heap.size) :
    OpE Try.prog ops (ocE M l) o A x := by
  obtain ⟨g, rfl, h1, h2⟩ := hv
  obtain ⟨ao2, cap2, w', hr, h3, h4⟩ := run_app0 o.type x h2 h1 hM H hl
  exact opE_new _ hw (exec_app s y ho hs hy hr) h4 ⟨ao2, cap2, rfl, h3⟩
set_option maxRecDepth 100000 in
set_option maxHeartbeats 4000000 in
theorem rplace_none (w : World) (p B : Nat) (ro : Option Addr) (rc : Nat) (q : List RV) (H : PK 29 w p B ro rc q) (i : Int) (h0 : q.length = 0) : Calls Try.prog 21 #[.pointer (some ⟨p, 0, none⟩), .int .i64 i] w fun e w' => e = .returned (.int .i64 (-1)) ∧ Gro w w' := by
  refine s_enter Try.func21 rfl Try.ntmps21 [.pointer (some ⟨p, 0, none⟩), .int .i64 i] [.pointer (some ⟨p, 0, none⟩), .int .i64 i, undef, undef, undef, undef, undef, undef, undef, undef, undef, undef, undef, undef, undef, undef, undef, undef, undef, undef, undef] rfl ?_
  have GG := Gro.refl w
  have kp := H.box
  have hq := H.le
  have hpl := H.lt
  have hBl := H.bl
  refine wp_seq ?_
  refine wp_region_lit ?_
  refine s_val 4 rfl rfl (.int .i64 0) (rfl) ?_
  refine nr ?_; intro U h; simp only [z0, z1] at h; subst h
  refine wpList_nil ?_
  refine then_n ?_
  refine wp_seq ?_
  refine wp_seq ?_
  refine wp_region_lit ?_
  refine s_val 5 rfl rfl (.pointer (some ⟨p, 0, none⟩)) (rfl) ?_
  refine nr ?_; intro U h; simp only [z0, z1] at h; subst h
  refine s_val 6 rfl rfl (.pointer (some ⟨p, 0, none⟩)) (run_nc _ rfl _ rfl) ?_
  refine nr ?_; intro U h; simp only [z0, z1] at h; subst h
  refine s_val 7 rfl rfl (.pointer (some ⟨p, 0, none⟩)) (run_fld 29 _ 0 rfl _ _ rfl _ (by kernel_rfl)) ?_
  refine nr ?_; intro U h; simp only [z0, z1] at h; subst h
  refine s_val 8 rfl rfl (.slice ro q.length rc) (run_ldc 24 _ rfl p 0 rfl 29 _ kp (na24 _) _ rfl) ?_
  refine nr ?_; intro U h; simp only [z0, z1] at h; subst h
  refine s_val 9 rfl rfl (.int .i64 ((q.length : Nat) : Int)) (run_len Try.underlying24 _ rfl _ _ _ rfl _) ?_
  refine nr ?_; intro U h; simp only [z0, z1] at h; subst h
  refine s_val 10 rfl rfl (.bool true) (run_eq_k 3 .i64 _ _ _ rfl Try.underlying3 ((q.length : Nat) : Int) 0 rfl rfl true (by first | exact decide_eq_true (by omega) | exact decide_eq_false (by omega)) _) ?_
  refine nr ?_; intro U h; simp only [z0, z1] at h; subst h
  refine wpList_nil ?_
  refine then_n ?_
  refine wp_cond_true rfl ?_
  refine wp_seq ?_
  refine wp_region_lit ?_
  refine s_val 4 rfl rfl (.int .i64 (-1)) (rfl) ?_
  refine nr ?_; intro U h; simp only [z0, z1] at h; subst h
  refine wpList_nil ?_
  refine then_n ?_
  refine wp_ret ?_
  refine then_r ?_
  refine bodyPost_ret (results_tmp Try.results21 _ _ _) rfl ?_
  exact ⟨rfl, GG⟩
set_option maxRecDepth 100000 in
set_option maxHeartbeats 4000000 in
theorem rplace_any (w : World) (p B : Nat) (ro : Option Addr) (rc : Nat) (q : List RV) (H : PK 29 w p B ro rc q) (i : Int) (k : Nat) (hk : uN i % q.length = k) (h0 : 0 < q.length) : Calls Try.prog 21 #[.pointer (some ⟨p, 0, none⟩), .int .i64 i] w fun e w' => e = .returned (.int .i64 ((k : Nat) : Int)) ∧ Gro w w' := by
  refine s_enter Try.func21 rfl Try.ntmps21 [.pointer (some ⟨p, 0, none⟩), .int .i64 i] [.pointer (some ⟨p, 0, none⟩), .int .i64 i, undef, undef, undef, undef, undef, undef, undef, undef, undef, undef, undef, undef, undef, undef, undef, undef, undef, undef, undef] rfl ?_
  have GG := Gro.refl w
  have kp := H.box
  have hq := H.le
  have hpl := H.lt
  have hBl := H.bl
  refine wp_seq ?_
  refine wp_region_lit ?_
  refine s_val 4 rfl rfl (.int .i64 0) (rfl) ?_
  refine nr ?_; intro U h; simp only [z0, z1] at h; subst h
  refine wpList_nil ?_
  refine then_n ?_
  refine wp_seq ?_
  refine wp_seq ?_
  refine wp_region_lit ?_
  refine s_val 5 rfl rfl (.pointer (some ⟨p, 0, none⟩)) (rfl) ?_
  refine nr ?_; intro U h; simp only [z0, z1] at h; subst h
  refine s_val 6 rfl rfl (.pointer (some ⟨p, 0, none⟩)) (run_nc _ rfl _ rfl) ?_
  refine nr ?_; intro U h; simp only [z0, z1] at h; subst h
  refine s_val 7 rfl rfl (.pointer (some ⟨p, 0, none⟩)) (run_fld 29 _ 0 rfl _ _ rfl _ (by kernel_rfl)) ?_
  refine nr ?_; intro U h; simp only [z0, z1] at h; subst h
  refine s_val 8 rfl rfl (.slice ro q.length rc) (run_ldc 24 _ rfl p 0 rfl 29 _ kp (na24 _) _ rfl) ?_
  refine nr ?_; intro U h; simp only [z0, z1] at h; subst h
  refine s_val 9 rfl rfl (.int .i64 ((q.length : Nat) : Int)) (run_len Try.underlying24 _ rfl _ _ _ rfl _) ?_
  refine nr ?_; intro U h; simp only [z0, z1] at h; subst h
  refine s_val 10 rfl rfl (.bool false) (run_eq_k 3 .i64 _ _ _ rfl Try.underlying3 ((q.length : Nat) : Int) 0 rfl rfl false (by first | exact decide_eq_true (by omega) | exact decide_eq_false (by omega)) _) ?_
  refine nr ?_; intro U h; simp only [z0, z1] at h; subst h
  refine wpList_nil ?_
  refine then_n ?_
  refine wp_cond_false rfl ?_
  refine wp_skip ?_
  refine then_n ?_
  refine wp_seq ?_
  refine wp_region_lit ?_
  refine s_val 11 rfl rfl (.int .i64 i) (rfl) ?_
  refine nr ?_; intro U h; simp only [z0, z1] at h; subst h
  refine s_val 12 rfl rfl (.int .u64 ((uN i : Nat) : Int)) (conv350 _ rfl i rfl _) ?_
  refine nr ?_; intro U h; simp only [z0, z1] at h; subst h
  refine s_val 13 rfl rfl (.pointer (some ⟨p, 0, none⟩)) (rfl) ?_
  refine nr ?_; intro U h; simp only [z0, z1] at h; subst h
  refine s_val 14 rfl rfl (.pointer (some ⟨p, 0, none⟩)) (run_nc _ rfl _ rfl) ?_
  refine nr ?_; intro U h; simp only [z0, z1] at h; subst h
  refine s_val 15 rfl rfl (.pointer (some ⟨p, 0, none⟩)) (run_fld 29 _ 0 rfl _ _ rfl _ (by kernel_rfl)) ?_
  refine nr ?_; intro U h; simp only [z0, z1] at h; subst h
  refine s_val 16 rfl rfl (.slice ro q.length rc) (run_ldc 24 _ rfl p 0 rfl 29 _ kp (na24 _) _ rfl) ?_
  refine nr ?_; intro U h; simp only [z0, z1] at h; subst h
  refine s_val 17 rfl rfl (.int .i64 ((q.length : Nat) : Int)) (run_len Try.underlying24 _ rfl _ _ _ rfl _) ?_
  refine nr ?_; intro U h; simp only [z0, z1] at h; subst h
  refine s_val 18 rfl rfl (.int .u64 ((q.length : Nat) : Int)) (conv350n _ rfl q.length (by omega) rfl _) ?_
  refine nr ?_; intro U h; simp only [z0, z1] at h; subst h
  refine s_val 19 rfl rfl (.int .u64 ((k : Nat) : Int)) ((run_remN 50 50 _ _ rfl (uN i) q.length rfl rfl (by omega) _).trans (by rw [hk])) ?_
  refine nr ?_; intro U h; simp only [z0, z1] at h; subst h
  refine s_val 20 rfl rfl (.int .i64 ((k : Nat) : Int)) (conv503 _ rfl k (by have := Nat.mod_lt (uN i) h0; omega) rfl _) ?_
  refine nr ?_; intro U h; simp only [z0, z1] at h; subst h
  refine s_val 4 rfl rfl (.int .i64 ((k : Nat) : Int)) (rfl) ?_
  refine nr ?_; intro U h; simp only [z0, z1] at h; subst h
  refine wpList_nil ?_
  refine then_n ?_
  refine wp_ret ?_
  refine bodyPost_ret (results_tmp Try.results21 _ _ _) rfl ?_
  exact ⟨rfl, GG⟩
set_option maxRecDepth 100000 in
set_option maxHeartbeats 4000000 in
theorem rput_full (w : World) (p B : Nat) (ro : Option Addr) (rc : Nat) (q : List RV) (H : PK 29 w p B ro rc q) (hf : 256 ≤ q.length) (ao : Option Addr) (cap : Nat) (l : List Nat) : Calls Try.prog 9 #[.pointer (some ⟨p, 0, none⟩), .slice ao l.length cap] w fun e w' => e = .returned (.bool false) ∧ Gro w w' := by
  refine s_enter Try.func9 rfl Try.ntmps9 [.pointer (some ⟨p, 0, none⟩), .slice ao l.length cap] [.pointer (some ⟨p, 0, none⟩), .slice ao l.length cap, undef, undef, undef, undef, undef, undef, undef, undef, undef, undef, undef, undef, undef, undef, undef, undef, undef, undef, undef, undef, undef] rfl ?_
  have GG := Gro.refl w
  have kp := H.box
  have hq := H.le
  have hpl := H.lt
  have hBl := H.bl
  refine wp_seq ?_
  refine wp_region_lit ?_
  refine s_val 4 rfl rfl (.bool false) (rfl) ?_
  refine nr ?_; intro U h; simp only [z0, z1] at h; subst h
  refine wpList_nil ?_
  refine then_n ?_
  refine wp_seq ?_
  refine wp_seq ?_
  refine wp_region_lit ?_
  refine s_val 5 rfl rfl (.pointer (some ⟨p, 0, none⟩)) (rfl) ?_
  refine nr ?_; intro U h; simp only [z0, z1] at h; subst h
  refine s_val 6 rfl rfl (.pointer (some ⟨p, 0, none⟩)) (run_nc _ rfl _ rfl) ?_
  refine nr ?_; intro U h; simp only [z0, z1] at h; subst h
  refine s_val 7 rfl rfl (.pointer (some ⟨p, 0, none⟩)) (run_fld 29 _ 0 rfl _ _ rfl _ (by kernel_rfl)) ?_
  refine nr ?_; intro U h; simp only [z0, z1] at h; subst h
  refine s_val 8 rfl rfl (.slice ro q.length rc) (run_ldc 24 _ rfl p 0 rfl 29 _ kp (na24 _) _ rfl) ?_
  refine nr ?_; intro U h; simp only [z0, z1] at h; subst h
  refine s_val 9 rfl rfl (.int .i64 ((q.length : Nat) : Int)) (run_len Try.underlying24 _ rfl _ _ _ rfl _) ?_
  refine nr ?_; intro U h; simp only [z0, z1] at h; subst h
  refine s_val 10 rfl rfl (.bool true) (run_geqT 3 _ _ _ rfl ((q.length : Nat) : Int) 256 rfl rfl true (by first | exact decide_eq_true (by omega) | exact decide_eq_false (by omega)) _) ?_
  refine nr ?_; intro U h; simp only [z0, z1] at h; subst h
  refine wpList_nil ?_
  refine then_n ?_
  refine wp_cond_true rfl ?_
  refine wp_seq ?_
  refine wp_region_lit ?_
  refine s_val 4 rfl rfl (.bool false) (rfl) ?_
  refine nr ?_; intro U h; simp only [z0, z1] at h; subst h
  refine wpList_nil ?_
  refine then_n ?_
  refine wp_ret ?_
  refine then_r ?_
  refine bodyPost_ret (results_tmp Try.results9 _ _ _) rfl ?_
  exact ⟨rfl, GG⟩
set_option maxRecDepth 100000 in
set_option maxHeartbeats 4000000 in
theorem rput_ok (w : World) (p B : Nat) (ro : Option Addr) (rc : Nat) (q : List RV) (H : PK 29 w p B ro rc q) (hf : q.length < 256) (ao : Option Addr) (cap : Nat) (l : List Nat) (HB : NC w .u8 ao cap l) (hne : ∀ ad, ao = some ad → 0 < l.length → ad.block ∉ blk ro) (hl : l.length ≤ 140737488355000) : Calls Try.prog 9 #[.pointer (some ⟨p, 0, none⟩), .slice ao l.length cap] w (PutP w p B ro q l 29) := by
  refine s_enter Try.func9 rfl Try.ntmps9 [.pointer (some ⟨p, 0, none⟩), .slice ao l.length cap] [.pointer (some ⟨p, 0, none⟩), .slice ao l.length cap, undef, undef, undef, undef, undef, undef, undef, undef, undef, undef, undef, undef, undef, undef, undef, undef, undef, undef, undef, undef, undef] rfl ?_
  have GG := GroS.refl (p :: blk ro) w
  have kp := H.box
  have hq := H.le
  have hpl := H.lt
  have hBl := H.bl
  refine wp_seq ?_
  refine wp_region_lit ?_
  refine s_val 4 rfl rfl (.bool false) (rfl) ?_
  refine nr ?_; intro U h; simp only [z0, z1] at h; subst h
  refine wpList_nil ?_
  refine then_n ?_
  refine wp_seq ?_
  refine wp_seq ?_
  refine wp_region_lit ?_
  refine s_val 5 rfl rfl (.pointer (some ⟨p, 0, none⟩)) (rfl) ?_
  refine nr ?_; intro U h; simp only [z0, z1] at h; subst h
  refine s_val 6 rfl rfl (.pointer (some ⟨p, 0, none⟩)) (run_nc _ rfl _ rfl) ?_
  refine nr ?_; intro U h; simp only [z0, z1] at h; subst h
  refine s_val 7 rfl rfl (.pointer (some ⟨p, 0, none⟩)) (run_fld 29 _ 0 rfl _ _ rfl _ (by kernel_rfl)) ?_
  refine nr ?_; intro U h; simp only [z0, z1] at h; subst h
  refine s_val 8 rfl rfl (.slice ro q.length rc) (run_ldc 24 _ rfl p 0 rfl 29 _ kp (na24 _) _ rfl) ?_
  refine nr ?_; intro U h; simp only [z0, z1] at h; subst h
  refine s_val 9 rfl rfl (.int .i64 ((q.length : Nat) : Int)) (run_len Try.underlying24 _ rfl _ _ _ rfl _) ?_
  refine nr ?_; intro U h; simp only [z0, z1] at h; subst h
  refine s_val 10 rfl rfl (.bool false) (run_geqT 3 _ _ _ rfl ((q.length : Nat) : Int) 256 rfl rfl false (by first | exact decide_eq_true (by omega) | exact decide_eq_false (by omega)) _) ?_
  refine nr ?_; intro U h; simp only [z0, z1] at h; subst h
  refine wpList_nil ?_
  refine then_n ?_
  refine wp_cond_false rfl ?_
  refine wp_skip ?_
  refine then_n ?_
  refine wp_seq ?_
  refine wp_region_pg (A := ?Ag1) (blk ro) 10 [(0, 11), (1, 12), (2, 13), (3, 14), (4, 15), (5, 16), (6, 17), (7, 18), (8, 19), (9, 20)] [.val (.pointer (some ⟨p, 0, none⟩)), .val (.pointer (some ⟨p, 0, none⟩)), .val (.pointer (some ⟨p, 0, none⟩)), .val (.pointer (some ⟨p, 0, none⟩)), .val (.slice ro q.length rc), zoE w.heap.size, .val (.slice ao l.length cap), ocE w.heap.size l, bsE w.heap.size l, ptE w.heap.size B ro q l] 9 follows (by kernel_rfl) rfl (by decide) (fun j hj hne v a b _ hb hp => match j, hj, hne, hp with | 0, _, _, hp => hp | 1, _, _, hp => hp | 2, _, _, hp => hp | 3, _, _, hp => hp | 4, _, _, hp => hp | 5, _, _, hp => Exists.elim hp fun g hp => ⟨g, hp.1, hp.2.1, hb.has hp.2.2 (blk_ge H.row rfl hp.2.1)⟩ | 6, _, _, hp => hp | 7, _, _, hp => Exists.elim hp fun a hp => Exists.elim hp fun c hp => ⟨a, c, hp.1, ob_av H.row rfl hb hp.2⟩ | 8, _, _, hp => Exists.elim hp fun y hp => Exists.elim hp fun h hp => ⟨y, h, hp.1, hp.2.1, hp.2.2.1, ob_av H.row rfl hb hp.2.2.2.1, hb.has hp.2.2.2.2 (blk_ge H.row rfl hp.2.1)⟩ | 9, _, hne, _ => absurd rfl hne | m + 10, hj, _, _ => absurd hj (by omega)) ?hAg1 (opsG_a (by decide) ?o0g1 (opsG_a (by decide) ?o1g1 (opsG_a (by decide) ?o2g1 (opsG_a (by decide) ?o3g1 (opsG_a (by decide) ?o4g1 (opsG_a (by decide) ?o5g1 (opsG_a (by decide) ?o6g1 (opsG_a (by decide) ?o7g1 (opsG_a (by decide) ?o8g1 (opsG_e ?o9g1 opsG_nil)))))))))) ?restg1
  case hAg1 =>
    intro ptrs
    simp only [full, foldSlots, filledE, postE, List.foldl_cons, List.foldl_nil, List.getD_cons_zero, List.getD_cons_succ, fill_val, fill_zo, fill_oc, fill_bs, fill_pt,  List.set_cons_zero, List.set_cons_succ]
    exact rfl
  case o0g1 => exact fun _ _ _ _ => opE_move (v := .pointer (some ⟨p, 0, none⟩)) _ rfl rfl rfl
  case o1g1 => exact fun _ _ _ _ => opE_move (v := .pointer (some ⟨p, 0, none⟩)) _ rfl rfl rfl
  case o2g1 => exact fun _ _ hw _ => opE_value (v := .pointer (some ⟨p, 0, none⟩)) rfl (run_nc _ rfl _ rfl)
  case o3g1 => exact fun _ _ hw _ => opE_value (v := .pointer (some ⟨p, 0, none⟩)) rfl (run_fld 29 _ 0 rfl _ _ rfl _ (by kernel_rfl))
  case o4g1 => exact fun _ _ hw _ => opE_value (v := .slice ro q.length rc) rfl (run_ldc 24 _ rfl p 0 rfl 29 _ (hw.has kp (H.ne)) (na24 _) _ rfl)
  case o5g1 =>
    intro ptrs x hw hE
    exact opE_new _ rfl (run_bsl 30 0 _ rfl [] rfl (by kernel_rfl)) (gro_alloc _ _) ⟨x.heap.size, rfl, hw.size, heap_alloc_new _ _⟩
  case o6g1 => exact fun _ _ _ _ => opE_move (v := .slice ao l.length cap) _ rfl rfl rfl
  case o7g1 =>
    intro ptrs x hw hE
    exact opE_app0 (v := ptrs 5) rfl _ _ rfl rfl hE.1 rfl (hw.nc (HB.gro (Gro.refl _).drew) hne) hl hw.size
  case o8g1 =>
    intro ptrs x hw hE
    obtain ⟨⟨a, c, hv, h1⟩, _⟩ := hE
    exact opE_new _ rfl (run_bsl 24 1 _ rfl [(0, .slice a l.length c)] (by exact congrArg (fun v => [(0, v)]) hv) (by kernel_rfl)) (gro_alloc _ _) ⟨⟨a, c, l⟩, x.heap.size, rfl, hw.size, rfl, h1.gro (gro_alloc _ _), heap_alloc_new _ _⟩
  case o9g1 =>
    intro ptrs x hw hE
    exact put_app (v := ptrs 8) _ _ rfl rfl H.row rfl hBl H.le ((Gro.refl _).drew.trans hw) rfl rfl hE.1
  intro ptrs w1 GS hxE
  simp only [List.drop_succ_cons, List.drop_zero]
  obtain ⟨_, _, _, ⟨ao2, cap2, y, hv, hyl, HY, HR, hkp⟩, _⟩ := hxE
  simp only [hv]
  have HF : ∀ x ∈ q, OB _ 5 .u8 B x.ao x.cap x.l := fun x hx => (H.fr x hx).gros (S := blk ro) ((GroS.refl _ w).drew.trans GS) (fun ad ha hm => H.f5 H.own x hx ad ha (List.mem_cons_of_mem _ hm))
  replace kp := GS.has kp H.ne
  replace GG := GG.drew.trans (GS.mono (T := p :: blk ro) (fun x hx => List.mem_cons_of_mem _ hx))
  have hp2 : p ∉ blk ao2 := HR.ne kp (by decide)
  clear GS hv
  have hyp : ∀ ad, y.ao = some ad → ad.block ≠ p := fun ad ha e => by have := (HY.ge ad ha).1; omega
  refine s_val 21 rfl rfl (.pointer (some ⟨p, 0, none⟩)) (run_nc _ rfl _ rfl) ?_
  refine nr ?_; intro U h; simp only [z0, z1] at h; subst h
  refine s_val 22 rfl rfl (.pointer (some ⟨p, 0, none⟩)) (run_fld 29 _ 0 rfl _ _ rfl _ (by kernel_rfl)) ?_
  refine nr ?_; intro U h; simp only [z0, z1] at h; subst h
  refine s_store rfl rfl 24 _ _ rfl p 0 rfl (.slice ao2 ((q ++ [y]).length) cap2) rfl 29 _ kp #[.slice ao2 ((q ++ [y]).length) cap2] rfl (by kernel_rfl) (Nat.le_of_ble_eq_true rfl) (by kernel_rfl) (c29 ⟨ao2, (q ++ [y]).length, cap2⟩) (by kernel_rfl) ?_
  intro w3 St
  replace HR := HR.st St hp2
  replace HY := HY.apart St hyp
  replace HF := fun x hx => (HF x hx).apart St (fun ad ha e => by obtain ⟨cur, hc⟩ := (HF x hx).blk5 ha; exact ne_type hc kp (by decide) e)
  replace GG := GG.st St (.inr (by simp))
  replace kp := St.new
  clear St
  refine wpList_nil ?_
  refine then_n ?_
  refine wp_seq ?_
  refine wp_region_lit ?_
  refine s_val 4 rfl rfl (.bool true) (rfl) ?_
  refine nr ?_; intro U h; simp only [z0, z1] at h; subst h
  refine wpList_nil ?_
  refine then_n ?_
  refine wp_ret ?_
  refine bodyPost_ret (results_tmp Try.results9 _ _ _) rfl ?_
  refine ⟨ao2, cap2, y, rfl, hyl, GG, ⟨kp, HR, fun x hx => ?_, H.base, by simp; omega, fun x hx => ?_, H.ty⟩, HY, hkp⟩
  · rcases List.mem_append.1 hx with hx | hx
    · exact HF x hx
    · cases List.mem_singleton.1 hx
      exact HY.mono hBl
  · rcases List.mem_append.1 hx with hx | hx
    · exact H.sm x hx
    · cases List.mem_singleton.1 hx
      rw [hyl]; exact hl
set_option maxRecDepth 100000 in
set_option maxHeartbeats 4000000 in
theorem rtwice_none (w : World) (p B : Nat) (ro : Option Addr) (rc : Nat) (q : List RV) (H : PK 29 w p B ro rc q) (i : Int) (h0 : q.length = 0) : Calls Try.prog 13 #[.pointer (some ⟨p, 0, none⟩), .int .i64 i] w fun e w' => e = .returned (.bool false) ∧ Gro w w' := by
  refine s_enter Try.func13 rfl Try.ntmps13 [.pointer (some ⟨p, 0, none⟩), .int .i64 i] [.pointer (some ⟨p, 0, none⟩), .int .i64 i, undef, undef, undef, undef, undef, undef, undef, undef, undef, undef, undef, undef, undef, undef, undef, undef, undef, undef] rfl ?_
  have GG := Gro.refl w
  have kp := H.box
  have hq := H.le
  have hpl := H.lt
  have hBl := H.bl
  refine wp_seq ?_
  refine wp_region_lit ?_
  refine s_val 4 rfl rfl (.bool false) (rfl) ?_
  refine nr ?_; intro U h; simp only [z0, z1] at h; subst h
  refine wpList_nil ?_
  refine then_n ?_
  refine wp_seq ?_
  refine wp_region_lit ?_
  refine s_val 6 rfl rfl (.pointer (some ⟨p, 0, none⟩)) (rfl) ?_
  refine nr ?_; intro U h; simp only [z0, z1] at h; subst h
  refine s_val 7 rfl rfl (.int .i64 i) (rfl) ?_
  refine nr ?_; intro U h; simp only [z0, z1] at h; subst h
  refine s_callv 8 rfl rfl _ 21 Try.call21 rfl rfl _ rfl [.pointer (some ⟨p, 0, none⟩), .int .i64 i] rfl (rplace_none _ p B ro rc q (H.gro GG) i h0) ?_
  intro w1 G
  replace kp := G.has kp
  replace GG := GG.trans G
  clear G
  refine nr ?_; intro U h; simp only [z0, z1] at h; subst h
  refine s_val 5 rfl rfl (.int .i64 (-1)) (rfl) ?_
  refine nr ?_; intro U h; simp only [z0, z1] at h; subst h
  refine wpList_nil ?_
  refine then_n ?_
  refine wp_seq ?_
  refine wp_seq ?_
  refine wp_region_lit ?_
  refine s_val 9 rfl rfl (.int .i64 (-1)) (rfl) ?_
  refine nr ?_; intro U h; simp only [z0, z1] at h; subst h
  refine s_val 10 rfl rfl (.bool true) (run_lssT 3 _ _ _ rfl (-1) 0 rfl rfl true (by first | exact decide_eq_true (by omega) | exact decide_eq_false (by omega)) _) ?_
  refine nr ?_; intro U h; simp only [z0, z1] at h; subst h
  refine wpList_nil ?_
  refine then_n ?_
  refine wp_cond_true rfl ?_
  refine wp_seq ?_
  refine wp_region_lit ?_
  refine s_val 4 rfl rfl (.bool false) (rfl) ?_
  refine nr ?_; intro U h; simp only [z0, z1] at h; subst h
  refine wpList_nil ?_
  refine then_n ?_
  refine wp_ret ?_
  refine then_r ?_
  refine bodyPost_ret (results_tmp Try.results13 _ _ _) rfl ?_
  exact ⟨rfl, GG⟩
set_option maxRecDepth 100000 in
set_option maxHeartbeats 4000000 in
theorem rtwice_full (w : World) (p B : Nat) (ro : Option Addr) (rc : Nat) (q : List RV) (H : PK 29 w p B ro rc q) (i : Int) (k : Nat) (hk : uN i % q.length = k) (x : RV) (hx : q[k]? = some x) (hf : 256 ≤ q.length) : Calls Try.prog 13 #[.pointer (some ⟨p, 0, none⟩), .int .i64 i] w fun e w' => e = .returned (.bool false) ∧ Gro w w' := by
  refine s_enter Try.func13 rfl Try.ntmps13 [.pointer (some ⟨p, 0, none⟩), .int .i64 i] [.pointer (some ⟨p, 0, none⟩), .int .i64 i, undef, undef, undef, undef, undef, undef, undef, undef, undef, undef, undef, undef, undef, undef, undef, undef, undef, undef] rfl ?_
  have GG := Gro.refl w
  have kp := H.box
  have hq := H.le
  have hpl := H.lt
  have hBl := H.bl
  have hkl : k < q.length := (List.getElem?_eq_some_iff.1 hx).1
  have hxq : x ∈ q := List.mem_of_getElem? hx
  obtain ⟨ad, hao, hcl⟩ := H.at hx
  refine wp_seq ?_
  refine wp_region_lit ?_
  refine s_val 4 rfl rfl (.bool false) (rfl) ?_
  refine nr ?_; intro U h; simp only [z0, z1] at h; subst h
  refine wpList_nil ?_
  refine then_n ?_
  refine wp_seq ?_
  refine wp_region_lit ?_
  refine s_val 6 rfl rfl (.pointer (some ⟨p, 0, none⟩)) (rfl) ?_
  refine nr ?_; intro U h; simp only [z0, z1] at h; subst h
  refine s_val 7 rfl rfl (.int .i64 i) (rfl) ?_
  refine nr ?_; intro U h; simp only [z0, z1] at h; subst h
  refine s_callv 8 rfl rfl _ 21 Try.call21 rfl rfl _ rfl [.pointer (some ⟨p, 0, none⟩), .int .i64 i] rfl (rplace_any _ p B ro rc q (H.gro GG) i k hk (by omega)) ?_
  intro w1 G
  replace kp := G.has kp
  replace GG := GG.trans G
  clear G
  refine nr ?_; intro U h; simp only [z0, z1] at h; subst h
  refine s_val 5 rfl rfl (.int .i64 ((k : Nat) : Int)) (rfl) ?_
  refine nr ?_; intro U h; simp only [z0, z1] at h; subst h
  refine wpList_nil ?_
  refine then_n ?_
  refine wp_seq ?_
  refine wp_seq ?_
  refine wp_region_lit ?_
  refine s_val 9 rfl rfl (.int .i64 ((k : Nat) : Int)) (rfl) ?_
  refine nr ?_; intro U h; simp only [z0, z1] at h; subst h
  refine s_val 10 rfl rfl (.bool false) (run_lssT 3 _ _ _ rfl ((k : Nat) : Int) 0 rfl rfl false (by first | exact decide_eq_true (by omega) | exact decide_eq_false (by omega)) _) ?_
  refine nr ?_; intro U h; simp only [z0, z1] at h; subst h
  refine wpList_nil ?_
  refine then_n ?_
  refine wp_cond_false rfl ?_
  refine wp_skip ?_
  refine then_n ?_
  refine wp_seq ?_
  refine wp_region_lit ?_
  refine s_val 11 rfl rfl (.pointer (some ⟨p, 0, none⟩)) (rfl) ?_
  refine nr ?_; intro U h; simp only [z0, z1] at h; subst h
  refine s_val 12 rfl rfl (.pointer (some ⟨p, 0, none⟩)) (rfl) ?_
  refine nr ?_; intro U h; simp only [z0, z1] at h; subst h
  refine s_val 13 rfl rfl (.pointer (some ⟨p, 0, none⟩)) (run_nc _ rfl _ rfl) ?_
  refine nr ?_; intro U h; simp only [z0, z1] at h; subst h
  refine s_val 14 rfl rfl (.pointer (some ⟨p, 0, none⟩)) (run_fld 29 _ 0 rfl _ _ rfl _ (by kernel_rfl)) ?_
  refine nr ?_; intro U h; simp only [z0, z1] at h; subst h
  refine s_val 15 rfl rfl (.slice ro q.length rc) (run_ldc 24 _ rfl p 0 rfl 29 _ kp (na24 _) _ rfl) ?_
  refine nr ?_; intro U h; simp only [z0, z1] at h; subst h
  refine s_val 16 rfl rfl (.int .i64 ((k : Nat) : Int)) (rfl) ?_
  refine nr ?_; intro U h; simp only [z0, z1] at h; subst h
  refine s_val 17 rfl rfl (.pointer (some (ad.add k))) (run_idx23 _ _ rfl ad q.length rc k (by exact congrArg (fun a => Value.slice a q.length rc) hao) rfl hkl _) ?_
  refine nr ?_; intro U h; simp only [z0, z1] at h; subst h
  refine s_val 18 rfl rfl (.slice x.ao x.l.length x.cap) (run_ld24 _ rfl _ rfl _ _ (gro_cell GG hcl)) ?_
  refine nr ?_; intro U h; simp only [z0, z1] at h; subst h
  refine s_callv 19 rfl rfl _ 9 Try.call9 rfl rfl _ rfl [.pointer (some ⟨p, 0, none⟩), .slice x.ao x.l.length x.cap] rfl (rput_full _ p B ro rc q (H.gro GG) hf x.ao x.cap x.l) ?_
  intro w2 G
  replace kp := G.has kp
  replace GG := GG.trans G
  clear G
  refine nr ?_; intro U h; simp only [z0, z1] at h; subst h
  refine s_val 4 rfl rfl (.bool false) (rfl) ?_
  refine nr ?_; intro U h; simp only [z0, z1] at h; subst h
  refine wpList_nil ?_
  refine then_n ?_
  refine wp_ret ?_
  refine bodyPost_ret (results_tmp Try.results13 _ _ _) rfl ?_
  exact ⟨rfl, GG⟩
set_option maxRecDepth 100000 in
set_option maxHeartbeats 4000000 in
theorem rtwice_ok (w : World) (p B : Nat) (ro : Option Addr) (rc : Nat) (q : List RV) (H : PK 29 w p B ro rc q) (i : Int) (k : Nat) (hk : uN i % q.length = k) (x : RV) (hx : q[k]? = some x) (hf : q.length < 256) : Calls Try.prog 13 #[.pointer (some ⟨p, 0, none⟩), .int .i64 i] w (PutP w p B ro q x.l 29) := by
  refine s_enter Try.func13 rfl Try.ntmps13 [.pointer (some ⟨p, 0, none⟩), .int .i64 i] [.pointer (some ⟨p, 0, none⟩), .int .i64 i, undef, undef, undef, undef, undef, undef, undef, undef, undef, undef, undef, undef, undef, undef, undef, undef, undef, undef] rfl ?_
  have GG := Gro.refl w
  have kp := H.box
  have hq := H.le
  have hpl := H.lt
  have hBl := H.bl
  have hkl : k < q.length := (List.getElem?_eq_some_iff.1 hx).1
  have hxq : x ∈ q := List.mem_of_getElem? hx
  obtain ⟨ad, hao, hcl⟩ := H.at hx
  refine wp_seq ?_
  refine wp_region_lit ?_
  refine s_val 4 rfl rfl (.bool false) (rfl) ?_
  refine nr ?_; intro U h; simp only [z0, z1] at h; subst h
  refine wpList_nil ?_
  refine then_n ?_
  refine wp_seq ?_
  refine wp_region_lit ?_
  refine s_val 6 rfl rfl (.pointer (some ⟨p, 0, none⟩)) (rfl) ?_
  refine nr ?_; intro U h; simp only [z0, z1] at h; subst h
  refine s_val 7 rfl rfl (.int .i64 i) (rfl) ?_
  refine nr ?_; intro U h; simp only [z0, z1] at h; subst h
  refine s_callv 8 rfl rfl _ 21 Try.call21 rfl rfl _ rfl [.pointer (some ⟨p, 0, none⟩), .int .i64 i] rfl (rplace_any _ p B ro rc q (H.gro GG) i k hk (by omega)) ?_
  intro w1 G
  replace kp := G.has kp
  replace GG := GG.trans G
  clear G
  refine nr ?_; intro U h; simp only [z0, z1] at h; subst h
  refine s_val 5 rfl rfl (.int .i64 ((k : Nat) : Int)) (rfl) ?_
  refine nr ?_; intro U h; simp only [z0, z1] at h; subst h
  refine wpList_nil ?_
  refine then_n ?_
  refine wp_seq ?_
  refine wp_seq ?_
  refine wp_region_lit ?_
  refine s_val 9 rfl rfl (.int .i64 ((k : Nat) : Int)) (rfl) ?_
  refine nr ?_; intro U h; simp only [z0, z1] at h; subst h
  refine s_val 10 rfl rfl (.bool false) (run_lssT 3 _ _ _ rfl ((k : Nat) : Int) 0 rfl rfl false (by first | exact decide_eq_true (by omega) | exact decide_eq_false (by omega)) _) ?_
  refine nr ?_; intro U h; simp only [z0, z1] at h; subst h
  refine wpList_nil ?_
  refine then_n ?_
  refine wp_cond_false rfl ?_
  refine wp_skip ?_
  refine then_n ?_
  refine wp_seq ?_
  refine wp_region_lit ?_
  refine s_val 11 rfl rfl (.pointer (some ⟨p, 0, none⟩)) (rfl) ?_
  refine nr ?_; intro U h; simp only [z0, z1] at h; subst h
  refine s_val 12 rfl rfl (.pointer (some ⟨p, 0, none⟩)) (rfl) ?_
  refine nr ?_; intro U h; simp only [z0, z1] at h; subst h
  refine s_val 13 rfl rfl (.pointer (some ⟨p, 0, none⟩)) (run_nc _ rfl _ rfl) ?_
  refine nr ?_; intro U h; simp only [z0, z1] at h; subst h
  refine s_val 14 rfl rfl (.pointer (some ⟨p, 0, none⟩)) (run_fld 29 _ 0 rfl _ _ rfl _ (by kernel_rfl)) ?_
  refine nr ?_; intro U h; simp only [z0, z1] at h; subst h
  refine s_val 15 rfl rfl (.slice ro q.length rc) (run_ldc 24 _ rfl p 0 rfl 29 _ kp (na24 _) _ rfl) ?_
  refine nr ?_; intro U h; simp only [z0, z1] at h; subst h
  refine s_val 16 rfl rfl (.int .i64 ((k : Nat) : Int)) (rfl) ?_
  refine nr ?_; intro U h; simp only [z0, z1] at h; subst h
  refine s_val 17 rfl rfl (.pointer (some (ad.add k))) (run_idx23 _ _ rfl ad q.length rc k (by exact congrArg (fun a => Value.slice a q.length rc) hao) rfl hkl _) ?_
  refine nr ?_; intro U h; simp only [z0, z1] at h; subst h
  refine s_val 18 rfl rfl (.slice x.ao x.l.length x.cap) (run_ld24 _ rfl _ rfl _ _ (gro_cell GG hcl)) ?_
  refine nr ?_; intro U h; simp only [z0, z1] at h; subst h
  refine s_callx 19 rfl rfl _ 9 Try.call9 rfl rfl _ rfl [.pointer (some ⟨p, 0, none⟩), .slice x.ao x.l.length x.cap] rfl ((rput_ok _ p B ro rc q (H.gro GG) hf x.ao x.cap x.l ((H.fr x hxq).gro GG).nc (fun ad ha _ hm => H.f5 H.own x hxq ad ha (List.mem_cons_of_mem _ hm)) (H.sm x hxq)).mono (fun e w' h => PutP.of GG h)) (fun _ _ ⟨_, _, _, he, _⟩ => ⟨_, he⟩) ?_
  rintro v w2 ⟨ao2, cap2, y, he, hy, G, HP, HY, hkp⟩
  cases he
  clear kp
  refine nr ?_; intro U h; simp only [z0, z1] at h; subst h
  refine s_val 4 rfl rfl (.bool true) (rfl) ?_
  refine nr ?_; intro U h; simp only [z0, z1] at h; subst h
  refine wpList_nil ?_
  refine then_n ?_
  refine wp_ret ?_
  refine bodyPost_ret (results_tmp Try.results13 _ _ _) rfl ?_
  exact ⟨ao2, cap2, y, rfl, hy, G, HP, HY, hkp⟩
set_option maxRecDepth 100000 in
set_option maxHeartbeats 4000000 in
theorem rtake_none (w : World) (p B : Nat) (ro : Option Addr) (rc : Nat) (q : List RV) (H : PK 29 w p B ro rc q) (i : Int) (h0 : q.length = 0) : Calls Try.prog 11 #[.pointer (some ⟨p, 0, none⟩), .int .i64 i] w fun e w' => e = .returned (.tuple #[.slice none 0 0, .bool false]) ∧ Gro w w' := by
  refine s_enter Try.func11 rfl Try.ntmps11 [.pointer (some ⟨p, 0, none⟩), .int .i64 i] [.pointer (some ⟨p, 0, none⟩), .int .i64 i, undef, undef, undef, undef, undef, undef, undef, undef, undef, undef, undef, undef, undef, undef, undef, undef, undef, undef, undef, undef, undef, undef, undef, undef, undef, undef, undef, undef, undef, undef, undef, undef, undef, undef, undef, undef, undef, undef, undef, undef, undef, undef, undef, undef, undef, undef, undef] rfl ?_
  have GG := Gro.refl w
  have kp := H.box
  have hq := H.le
  have hpl := H.lt
  have hBl := H.bl
  refine wp_seq ?_
  refine wp_region_lit ?_
  refine s_val 4 rfl rfl (.slice none 0 0) (rfl) ?_
  refine nr ?_; intro U h; simp only [z0, z1] at h; subst h
  refine s_val 5 rfl rfl (.bool false) (rfl) ?_
  refine nr ?_; intro U h; simp only [z0, z1] at h; subst h
  refine wpList_nil ?_
  refine then_n ?_
  refine wp_seq ?_
  refine wp_region_lit ?_
  refine s_val 10 rfl rfl (.pointer (some ⟨p, 0, none⟩)) (rfl) ?_
  refine nr ?_; intro U h; simp only [z0, z1] at h; subst h
  refine s_val 11 rfl rfl (.int .i64 i) (rfl) ?_
  refine nr ?_; intro U h; simp only [z0, z1] at h; subst h
  refine s_callv 12 rfl rfl _ 21 Try.call21 rfl rfl _ rfl [.pointer (some ⟨p, 0, none⟩), .int .i64 i] rfl (rplace_none _ p B ro rc q (H.gro GG) i h0) ?_
  intro w1 G
  replace kp := G.has kp
  replace GG := GG.trans G
  clear G
  refine nr ?_; intro U h; simp only [z0, z1] at h; subst h
  refine s_val 6 rfl rfl (.int .i64 (-1)) (rfl) ?_
  refine nr ?_; intro U h; simp only [z0, z1] at h; subst h
  refine wpList_nil ?_
  refine then_n ?_
  refine wp_seq ?_
  refine wp_seq ?_
  refine wp_region_lit ?_
  refine s_val 13 rfl rfl (.int .i64 (-1)) (rfl) ?_
  refine nr ?_; intro U h; simp only [z0, z1] at h; subst h
  refine s_val 14 rfl rfl (.bool true) (run_lssT 3 _ _ _ rfl (-1) 0 rfl rfl true (by first | exact decide_eq_true (by omega) | exact decide_eq_false (by omega)) _) ?_
  refine nr ?_; intro U h; simp only [z0, z1] at h; subst h
  refine wpList_nil ?_
  refine then_n ?_
  refine wp_cond_true rfl ?_
  refine wp_seq ?_
  refine wp_region_lit ?_
  refine s_val 4 rfl rfl (.slice none 0 0) (rfl) ?_
  refine nr ?_; intro U h; simp only [z0, z1] at h; subst h
  refine s_val 5 rfl rfl (.bool false) (rfl) ?_
  refine nr ?_; intro U h; simp only [z0, z1] at h; subst h
  refine wpList_nil ?_
  refine then_n ?_
  refine wp_ret ?_
  refine then_r ?_
  refine bodyPost_ret (results_tmp2 Try.results11 _ _ _) rfl ?_
  exact ⟨rfl, GG⟩
theorem erase_next {q : List RV} {j k : Nat} {u : RV} (hu : q[j]? = some u) (h : j ≠ k) : (q.take j).eraseIdx k ++ [u] = (q.take (j + 1)).eraseIdx k := by
  obtain ⟨hj, _⟩ := List.getElem?_eq_some_iff.1 hu
  have hl : (q.take j).length = j := by simp; omega
  rw [List.take_add_one, hu]
  show _ = (q.take j ++ [u]).eraseIdx k
  by_cases hk : k < j
  · rw [List.eraseIdx_append_of_lt_length (by omega)]
  · rw [List.eraseIdx_of_length_le (by omega), List.eraseIdx_append_of_length_le (by omega), List.eraseIdx_of_length_le (l := [u]) (by simp; omega)]
theorem erase_skip {q : List RV} {j k : Nat} (h : j = k) : (q.take j).eraseIdx k = (q.take (j + 1)).eraseIdx k := by
  subst h
  rw [List.eraseIdx_of_length_le (by simp; omega)]
  by_cases hj : j < q.length
  · rw [List.take_add_one, List.getElem?_eq_getElem hj]
    show _ = (q.take j ++ [q[j]]).eraseIdx j
    have hl : (q.take j).length = j := by simp; omega
    rw [List.eraseIdx_append_of_length_le (by omega), hl, Nat.sub_self]
    simp
  · rw [List.take_of_length_le (by omega), List.take_of_length_le (by omega), List.eraseIdx_of_length_le (by omega)]
/-- What the document's taking leaves behind it. -/
def RTakeP (w : World) (p B : Nat) (ro : Option Addr) (q : List RV) (k : Nat) (x : RV) (e : Ending) (w' : World) : Prop :=
  ∃ ao2 cap2, e = .returned (.tuple #[.slice x.ao x.l.length x.cap, .bool true]) ∧ GroS [p] w w' ∧ PK 29 w' p B ao2 cap2 (q.eraseIdx k) ∧ OB w' 5 .u8 B x.ao x.cap x.l ∧ Kept w.heap.size ro ao2
set_option maxRecDepth 100000 in
set_option maxHeartbeats 4000000 in
theorem rtake_ok (w : World) (p B : Nat) (ro : Option Addr) (rc : Nat) (q : List RV) (H : PK 29 w p B ro rc q) (i : Int) (k : Nat) (hk : uN i % q.length = k) (x : RV) (hx : q[k]? = some x) : Calls Try.prog 11 #[.pointer (some ⟨p, 0, none⟩), .int .i64 i] w (RTakeP w p B ro q k x) := by
  refine s_enter Try.func11 rfl Try.ntmps11 [.pointer (some ⟨p, 0, none⟩), .int .i64 i] [.pointer (some ⟨p, 0, none⟩), .int .i64 i, undef, undef, undef, undef, undef, undef, undef, undef, undef, undef, undef, undef, undef, undef, undef, undef, undef, undef, undef, undef, undef, undef, undef, undef, undef, undef, undef, undef, undef, undef, undef, undef, undef, undef, undef, undef, undef, undef, undef, undef, undef, undef, undef, undef, undef, undef, undef] rfl ?_
  have GG := Gro.refl w
  have kp := H.box
  have hq := H.le
  have hpl := H.lt
  have hBl := H.bl
  have hkl : k < q.length := (List.getElem?_eq_some_iff.1 hx).1
  have hxq : x ∈ q := List.mem_of_getElem? hx
  obtain ⟨ad, hao, hcl⟩ := H.at hx
  refine wp_seq ?_
  refine wp_region_lit ?_
  refine s_val 4 rfl rfl (.slice none 0 0) (rfl) ?_
  refine nr ?_; intro U h; simp only [z0, z1] at h; subst h
  refine s_val 5 rfl rfl (.bool false) (rfl) ?_
  refine nr ?_; intro U h; simp only [z0, z1] at h; subst h
  refine wpList_nil ?_
  refine then_n ?_
  refine wp_seq ?_
  refine wp_region_lit ?_
  refine s_val 10 rfl rfl (.pointer (some ⟨p, 0, none⟩)) (rfl) ?_
  refine nr ?_; intro U h; simp only [z0, z1] at h; subst h
  refine s_val 11 rfl rfl (.int .i64 i) (rfl) ?_
  refine nr ?_; intro U h; simp only [z0, z1] at h; subst h
  refine s_callv 12 rfl rfl _ 21 Try.call21 rfl rfl _ rfl [.pointer (some ⟨p, 0, none⟩), .int .i64 i] rfl (rplace_any _ p B ro rc q (H.gro GG) i k hk (by omega)) ?_
  intro w1 G
  replace kp := G.has kp
  replace GG := GG.trans G
  clear G
  refine nr ?_; intro U h; simp only [z0, z1] at h; subst h
  refine s_val 6 rfl rfl (.int .i64 ((k : Nat) : Int)) (rfl) ?_
  refine nr ?_; intro U h; simp only [z0, z1] at h; subst h
  refine wpList_nil ?_
  refine then_n ?_
  refine wp_seq ?_
  refine wp_seq ?_
  refine wp_region_lit ?_
  refine s_val 13 rfl rfl (.int .i64 ((k : Nat) : Int)) (rfl) ?_
  refine nr ?_; intro U h; simp only [z0, z1] at h; subst h
  refine s_val 14 rfl rfl (.bool false) (run_lssT 3 _ _ _ rfl ((k : Nat) : Int) 0 rfl rfl false (by first | exact decide_eq_true (by omega) | exact decide_eq_false (by omega)) _) ?_
  refine nr ?_; intro U h; simp only [z0, z1] at h; subst h
  refine wpList_nil ?_
  refine then_n ?_
  refine wp_cond_false rfl ?_
  refine wp_skip ?_
  refine then_n ?_
  refine wp_seq ?_
  refine wp_region_lit ?_
  refine s_val 15 rfl rfl (.pointer (some ⟨p, 0, none⟩)) (rfl) ?_
  refine nr ?_; intro U h; simp only [z0, z1] at h; subst h
  refine s_val 16 rfl rfl (.pointer (some ⟨p, 0, none⟩)) (run_nc _ rfl _ rfl) ?_
  refine nr ?_; intro U h; simp only [z0, z1] at h; subst h
  refine s_val 17 rfl rfl (.pointer (some ⟨p, 0, none⟩)) (run_fld 29 _ 0 rfl _ _ rfl _ (by kernel_rfl)) ?_
  refine nr ?_; intro U h; simp only [z0, z1] at h; subst h
  refine s_val 18 rfl rfl (.slice ro q.length rc) (run_ldc 24 _ rfl p 0 rfl 29 _ kp (na24 _) _ rfl) ?_
  refine nr ?_; intro U h; simp only [z0, z1] at h; subst h
  refine s_val 19 rfl rfl (.int .i64 ((k : Nat) : Int)) (rfl) ?_
  refine nr ?_; intro U h; simp only [z0, z1] at h; subst h
  refine s_val 20 rfl rfl (.pointer (some (ad.add k))) (run_idx23 _ _ rfl ad q.length rc k (by exact congrArg (fun a => Value.slice a q.length rc) hao) rfl hkl _) ?_
  refine nr ?_; intro U h; simp only [z0, z1] at h; subst h
  refine s_val 21 rfl rfl (.slice x.ao x.l.length x.cap) (run_ld24 _ rfl _ rfl _ _ (gro_cell GG hcl)) ?_
  refine nr ?_; intro U h; simp only [z0, z1] at h; subst h
  refine s_val 7 rfl rfl (.slice x.ao x.l.length x.cap) (rfl) ?_
  refine nr ?_; intro U h; simp only [z0, z1] at h; subst h
  refine wpList_nil ?_
  refine then_n ?_
  refine wp_seq ?_
  refine wp_region_lit ?_
  refine s_val 8 rfl rfl (.slice none 0 0) (rfl) ?_
  refine nr ?_; intro U h; simp only [z0, z1] at h; subst h
  refine wpList_nil ?_
  refine then_n ?_
  refine wp_seq ?_
  refine wp_seq ?_
  refine wp_region_lit ?_
  refine s_val 9 rfl rfl (.int .i64 0) (rfl) ?_
  refine nr ?_; intro U h; simp only [z0, z1] at h; subst h
  refine wpList_nil ?_
  refine then_n ?_
  refine wp_block ?_
  refine wp_loopN (fun mz az wv => ∃ (j : Nat) (aq : Option Addr) (cq : Nat) (z : List RV) (us1 : Nat → Value), mz = q.length - j ∧ az = ⟨[.pointer (some ⟨p, 0, none⟩), .int .i64 i, undef, undef, .slice none 0 0, .bool false, .int .i64 ((k : Nat) : Int), .slice x.ao x.l.length x.cap, .slice aq z.length cq, .int .i64 ((j : Nat) : Int), .pointer (some ⟨p, 0, none⟩), .int .i64 i, .int .i64 ((k : Nat) : Int), .int .i64 ((k : Nat) : Int), .bool false, .pointer (some ⟨p, 0, none⟩), .pointer (some ⟨p, 0, none⟩), .pointer (some ⟨p, 0, none⟩), .slice ro q.length rc, .int .i64 ((k : Nat) : Int), .pointer (some (ad.add k)), .slice x.ao x.l.length x.cap, us1 0, us1 1, us1 2, us1 3, us1 4, us1 5, us1 6, us1 7, us1 8, us1 9, us1 10, us1 11, us1 12, us1 13, us1 14, us1 15, us1 16, us1 17, us1 18, us1 19, us1 20, us1 21, undef, undef, undef, undef, undef].toArray, []⟩ ∧ j ≤ q.length ∧ z = ((q.take j).eraseIdx k) ∧ Gro w wv ∧ OY wv 30 1 w.heap.size aq cq z.length (z.map RV.v)) ?_ _ ⟨0, none, 0, [], (fun kz => ([undef, undef, undef, undef, undef, undef, undef, undef, undef, undef, undef, undef, undef, undef, undef, undef, undef, undef, undef, undef, undef, undef] : List Value).getD kz undef), rfl, rfl, Nat.zero_le _, (by simp), GG, OY.nil _ _ _ _⟩
  clear GG
  rintro mz az wv ⟨j, aq, cq, z, us1, rfl, rfl, hj, hz, GG, HQ⟩
  clear kp
  have kp := GG.has H.box
  have hzl : z.length ≤ j := by rw [hz]; exact Nat.le_trans (List.length_eraseIdx_le _ _) (by simp; omega)
  refine wp_seq ?_
  refine wp_seq ?_
  refine wp_region_lit ?_
  refine s_val 22 rfl rfl (.int .i64 ((j : Nat) : Int)) (rfl) ?_
  refine nr ?_; intro U h; simp only [z0, z1] at h; subst h
  refine s_val 23 rfl rfl (.pointer (some ⟨p, 0, none⟩)) (rfl) ?_
  refine nr ?_; intro U h; simp only [z0, z1] at h; subst h
  refine s_val 24 rfl rfl (.pointer (some ⟨p, 0, none⟩)) (run_nc _ rfl _ rfl) ?_
  refine nr ?_; intro U h; simp only [z0, z1] at h; subst h
  refine s_val 25 rfl rfl (.pointer (some ⟨p, 0, none⟩)) (run_fld 29 _ 0 rfl _ _ rfl _ (by kernel_rfl)) ?_
  refine nr ?_; intro U h; simp only [z0, z1] at h; subst h
  refine s_val 26 rfl rfl (.slice ro q.length rc) (run_ldc 24 _ rfl p 0 rfl 29 _ kp (na24 _) _ rfl) ?_
  refine nr ?_; intro U h; simp only [z0, z1] at h; subst h
  refine s_val 27 rfl rfl (.int .i64 ((q.length : Nat) : Int)) (run_len Try.underlying24 _ rfl _ _ _ rfl _) ?_
  refine nr ?_; intro U h; simp only [z0, z1] at h; subst h
  obtain ⟨p1, hp1⟩ : ∃ p, decide (((j : Nat) : Int) < ((q.length : Nat) : Int)) = p := ⟨_, rfl⟩
  refine s_val 28 rfl rfl (.bool p1) (run_lssT 3 _ _ _ rfl ((j : Nat) : Int) ((q.length : Nat) : Int) rfl rfl p1 hp1 _) ?_
  refine nr ?_; intro U h; simp only [z0, z1] at h; subst h
  cases p1
  · have hjn : j = q.length := by have := of_decide_eq_false hp1; omega
    refine wpList_nil ?_
    refine then_n ?_
    refine wp_cond_false rfl ?_
    refine wp_exit ?_
    refine then_x ?_
    refine then_x ?_
    refine blk_x ?_
    refine then_n ?_
    refine wp_seq ?_
    refine wp_region_lit ?_
    refine s_val 44 rfl rfl (.pointer (some ⟨p, 0, none⟩)) (rfl) ?_
    refine nr ?_; intro U h; simp only [z0, z1] at h; subst h
    refine s_val 45 rfl rfl (.slice aq z.length cq) (rfl) ?_
    refine nr ?_; intro U h; simp only [z0, z1] at h; subst h
    refine s_val 46 rfl rfl (.pointer (some ⟨p, 0, none⟩)) (run_nc _ rfl _ rfl) ?_
    refine nr ?_; intro U h; simp only [z0, z1] at h; subst h
    refine s_val 47 rfl rfl (.pointer (some ⟨p, 0, none⟩)) (run_fld 29 _ 0 rfl _ _ rfl _ (by kernel_rfl)) ?_
    refine nr ?_; intro U h; simp only [z0, z1] at h; subst h
    subst hjn
    rw [List.take_length] at hz
    refine s_store rfl rfl 24 _ _ rfl p 0 rfl (.slice aq z.length cq) rfl 29 _ kp #[.slice aq z.length cq] rfl si24 (Nat.le_of_ble_eq_true rfl) (by kernel_rfl) #[.slice aq z.length cq] (by kernel_rfl) ?_
    intro w2 St
    have hp2 : p ∉ blk aq := HQ.ne kp (by decide)
    have HQ2 := HQ.st St hp2
    have GS : GroS [p] w _ := (GroS.of GG).st St (.inr (by simp))
    replace kp := St.new
    clear St GG HQ
    refine wpList_nil ?_
    refine then_n ?_
    refine wp_seq ?_
    refine wp_region_lit ?_
    refine s_val 48 rfl rfl (.slice x.ao x.l.length x.cap) (rfl) ?_
    refine nr ?_; intro U h; simp only [z0, z1] at h; subst h
    refine s_val 4 rfl rfl (.slice x.ao x.l.length x.cap) (rfl) ?_
    refine nr ?_; intro U h; simp only [z0, z1] at h; subst h
    refine s_val 5 rfl rfl (.bool true) (rfl) ?_
    refine nr ?_; intro U h; simp only [z0, z1] at h; subst h
    refine wpList_nil ?_
    refine then_n ?_
    refine wp_ret ?_
    refine bodyPost_ret (results_tmp2 Try.results11 _ _ _) rfl ?_
    refine ⟨aq, cq, rfl, GS, ⟨by rw [← hz]; exact kp, by rw [← hz]; exact HQ2.mono hBl, fun y hy => ?_, H.base, by rw [List.length_eraseIdx_of_lt hkl]; omega, fun y hy => H.sm y (List.mem_of_mem_eraseIdx hy), H.ty⟩, (H.fr x hxq).gros GS (fun ad ha hm => H.f5 H.own x hxq ad ha (by rw [List.mem_singleton.1 hm]; exact List.mem_cons_self)), fun k hk => .inr (HQ2.base k hk)⟩
    exact (H.fr y (List.mem_of_mem_eraseIdx hy)).gros GS (fun ad ha hm => H.f5 H.own y (List.mem_of_mem_eraseIdx hy) ad ha (by rw [List.mem_singleton.1 hm]; exact List.mem_cons_self))
  have hjn : j < q.length := by have := of_decide_eq_true hp1; omega
  obtain ⟨u, hu⟩ : ∃ u, q[j]? = some u := ⟨_, List.getElem?_eq_getElem hjn⟩
  obtain ⟨adj, haoj, hclj⟩ := H.at hu
  refine wpList_nil ?_
  refine then_n ?_
  refine wp_cond_true rfl ?_
  refine wp_skip ?_
  refine then_n ?_
  refine wp_seq ?_
  refine wp_block ?_
  refine wp_seq ?_
  refine wp_region_lit ?_
  refine s_val 31 rfl rfl (.int .i64 ((j : Nat) : Int)) (rfl) ?_
  refine nr ?_; intro U h; simp only [z0, z1] at h; subst h
  refine s_val 32 rfl rfl (.int .i64 ((k : Nat) : Int)) (rfl) ?_
  refine nr ?_; intro U h; simp only [z0, z1] at h; subst h
  obtain ⟨p2, hp2⟩ : ∃ p, decide (j ≠ k) = p := ⟨_, rfl⟩
  refine s_val 33 rfl rfl (.bool p2) (run_neq_k 3 .i64 _ _ _ rfl Try.underlying3 ((j : Nat) : Int) ((k : Nat) : Int) rfl rfl p2 (by rw [← hp2]; exact dec_nn _ _) _) ?_
  refine nr ?_; intro U h; simp only [z0, z1] at h; subst h
  cases p2
  · have hjk : j = k := Decidable.of_not_not (of_decide_eq_false hp2)
    refine wpList_nil ?_
    refine then_n ?_
    refine wp_cond_false rfl ?_
    refine wp_skip ?_
    refine blk_n ?_
    refine then_n ?_
    refine wp_region_lit ?_
    refine s_val 29 rfl rfl (.int .i64 ((j : Nat) : Int)) (rfl) ?_
    refine nr ?_; intro U h; simp only [z0, z1] at h; subst h
    refine s_val 30 rfl rfl (.int .i64 ((j + 1 : Nat) : Int)) (run_add64 _ _ _ rfl ((j : Nat) : Int) 1 _ rfl rfl (by omega) (by omega) (by omega) _) ?_
    refine nr ?_; intro U h; simp only [z0, z1] at h; subst h
    refine s_val 9 rfl rfl (.int .i64 ((j + 1 : Nat) : Int)) (rfl) ?_
    refine nr ?_; intro U h; simp only [z0, z1] at h; subst h
    refine wpList_nil ?_
    refine then_n ?_
    exact ⟨_, (by omega : q.length - (j + 1) < q.length - j), j + 1, aq, cq, z, (fun kz => ([.int .i64 ((j : Nat) : Int), .pointer (some ⟨p, 0, none⟩), .pointer (some ⟨p, 0, none⟩), .pointer (some ⟨p, 0, none⟩), .slice ro q.length rc, .int .i64 ((q.length : Nat) : Int), .bool true, .int .i64 ((j : Nat) : Int), .int .i64 ((j + 1 : Nat) : Int), .int .i64 ((j : Nat) : Int), .int .i64 ((k : Nat) : Int), .bool false, us1 12, us1 13, us1 14, us1 15, us1 16, us1 17, us1 18, us1 19, us1 20, us1 21] : List Value).getD kz undef), rfl, rfl, hjn, (by rw [hz]; exact erase_skip hjk), GG, HQ⟩
  have hjk := of_decide_eq_true hp2
  refine wpList_nil ?_
  refine then_n ?_
  refine wp_cond_true rfl ?_
  refine wp_region_lit ?_
  refine s_val 34 rfl rfl (.slice aq z.length cq) (rfl) ?_
  refine nr ?_; intro U h; simp only [z0, z1] at h; subst h
  refine s_val 35 rfl rfl (.pointer (some ⟨p, 0, none⟩)) (rfl) ?_
  refine nr ?_; intro U h; simp only [z0, z1] at h; subst h
  refine s_val 36 rfl rfl (.pointer (some ⟨p, 0, none⟩)) (run_nc _ rfl _ rfl) ?_
  refine nr ?_; intro U h; simp only [z0, z1] at h; subst h
  refine s_val 37 rfl rfl (.pointer (some ⟨p, 0, none⟩)) (run_fld 29 _ 0 rfl _ _ rfl _ (by kernel_rfl)) ?_
  refine nr ?_; intro U h; simp only [z0, z1] at h; subst h
  refine s_val 38 rfl rfl (.slice ro q.length rc) (run_ldc 24 _ rfl p 0 rfl 29 _ kp (na24 _) _ rfl) ?_
  refine nr ?_; intro U h; simp only [z0, z1] at h; subst h
  refine s_val 39 rfl rfl (.int .i64 ((j : Nat) : Int)) (rfl) ?_
  refine nr ?_; intro U h; simp only [z0, z1] at h; subst h
  refine s_val 40 rfl rfl (.pointer (some (adj.add j))) (run_idx23 _ _ rfl adj q.length rc j (by exact congrArg (fun a => Value.slice a q.length rc) haoj) rfl hjn _) ?_
  refine nr ?_; intro U h; simp only [z0, z1] at h; subst h
  refine s_val 41 rfl rfl (.slice u.ao u.l.length u.cap) (run_ld24 _ rfl _ rfl _ _ (gro_cell GG hclj)) ?_
  refine nr ?_; intro U h; simp only [z0, z1] at h; subst h
  refine s_bsl 42 rfl rfl 24 1 _ rfl [(0, .slice u.ao u.l.length u.cap)] rfl #[.slice u.ao u.l.length u.cap] 30 (by kernel_rfl) ?_
  intro w2 gB G eB kgB
  clear eB
  replace kp := G.has kp
  replace HQ := HQ.gro G
  replace GG := GG.trans G
  clear G
  refine nr ?_; intro U h; simp only [z0, z1] at h; subst h
  refine s_appY rY 43 rfl rfl _ _ rfl rfl HQ rfl (xc_one kgB rfl) (by omega) (by decide) GG.size ?_
  intro aq2 cq2 w3 HX GX hkq
  replace GG := GX.gro GG HQ.base
  clear HQ GX hkq kgB kp
  have e1 : z.length + 1 = (z ++ [u]).length := by simp
  have e2 : z.map RV.v ++ [.slice u.ao u.l.length u.cap] = (z ++ [u]).map RV.v := by simp [RV.v]
  rw [e1, e2] at HX
  rw [e1]
  have HQ := HX
  clear HX
  refine nr ?_; intro U h; simp only [z0, z1] at h; subst h
  refine s_val 8 rfl rfl (.slice aq2 ((z ++ [u]).length) cq2) (rfl) ?_
  refine nr ?_; intro U h; simp only [z0, z1] at h; subst h
  refine wpList_nil ?_
  refine blk_n ?_
  refine then_n ?_
  refine wp_region_lit ?_
  refine s_val 29 rfl rfl (.int .i64 ((j : Nat) : Int)) (rfl) ?_
  refine nr ?_; intro U h; simp only [z0, z1] at h; subst h
  refine s_val 30 rfl rfl (.int .i64 ((j + 1 : Nat) : Int)) (run_add64 _ _ _ rfl ((j : Nat) : Int) 1 _ rfl rfl (by omega) (by omega) (by omega) _) ?_
  refine nr ?_; intro U h; simp only [z0, z1] at h; subst h
  refine s_val 9 rfl rfl (.int .i64 ((j + 1 : Nat) : Int)) (rfl) ?_
  refine nr ?_; intro U h; simp only [z0, z1] at h; subst h
  refine wpList_nil ?_
  refine then_n ?_
  exact ⟨_, (by omega : q.length - (j + 1) < q.length - j), j + 1, aq2, cq2, z ++ [u], (fun kz => ([.int .i64 ((j : Nat) : Int), .pointer (some ⟨p, 0, none⟩), .pointer (some ⟨p, 0, none⟩), .pointer (some ⟨p, 0, none⟩), .slice ro q.length rc, .int .i64 ((q.length : Nat) : Int), .bool true, .int .i64 ((j : Nat) : Int), .int .i64 ((j + 1 : Nat) : Int), .int .i64 ((j : Nat) : Int), .int .i64 ((k : Nat) : Int), .bool true, .slice aq z.length cq, .pointer (some ⟨p, 0, none⟩), .pointer (some ⟨p, 0, none⟩), .pointer (some ⟨p, 0, none⟩), .slice ro q.length rc, .int .i64 ((j : Nat) : Int), .pointer (some (adj.add j)), .slice u.ao u.l.length u.cap, .slice (some ⟨gB, 0, none⟩) 1 1, .slice aq2 ((z ++ [u]).length) cq2] : List Value).getD kz undef), rfl, rfl, hjn, (by rw [hz]; exact erase_next hu hjk), GG, HQ⟩
end Go.Proofs.Ytlonnbmkkmfmeaa
