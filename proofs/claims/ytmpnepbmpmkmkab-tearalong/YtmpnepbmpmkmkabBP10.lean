/- Calls on a table: new, how many, the entry of a key, one more, one less. -/
import Derived.Test.YtmpnepbmpmkmkabBP9
import Derived.Test.YtmpnepbmpmkmkabBLaw2
namespace Go.Proofs.Ytmpnepbmpmkmkab
open Go.RowKit Go.Maps
/-- A call that answers a new table. -/
def NewP (w : World) (room : Nat) (e : Ending) (w' : World) : Prop := ∃ t b, e = .returned (.pointer (some ⟨t, 0, none⟩)) ∧ Gro w w' ∧ w'.heap[t]? = some (.cells (tbA room b) 69 (0, 0)) ∧ TM w' b [] ∧ w.heap.size ≤ t ∧ w.heap.size ≤ b
theorem room_eq (most : Int) : min (max most 0) 128 = ((rmF most : Nat) : Int) := by unfold rmF; omega
theorem run_room {P : Program} {o : Oper} {A : Act} (x y : Operand) (ats : Array TypeId) (ho : o.op = .call { callee := .builtin .min, args := #[x, y], argTypes := ats }) (most : Int) (hx : A.eval x = .int .i64 (max most 0)) (hy : A.eval y = .int .i64 128) (w : World) : (execOp A.eval o).run P w = .ok (.value (.int .i64 ((rmF most : Nat) : Int))) w := by
  rw [run_minI x y ats ho _ _ hx hy w, room_eq]
theorem addC_1 {room : Nat} {l : List En} {x : En} (h : rgt x = false) : addC room l x = 1 := by unfold addC; rw [h]; rfl
theorem addC_7 {room : Nat} {l : List En} {x : En} (h : rgt x = true) (h2 : hasL l x.p = true) : addC room l x = 7 := by unfold addC; rw [if_pos h, if_pos h2]
theorem addC_5 {room : Nat} {l : List En} {x : En} (h : rgt x = true) (h2 : hasL l x.p = false) (h3 : room ≤ l.length) : addC room l x = 5 := by unfold addC; rw [if_pos h, h2, if_neg (by decide), if_pos h3]
theorem addC_ok {room : Nat} {l : List En} {x : En} (h : rgt x = true) (h2 : hasL l x.p = false) (h3 : l.length < room) : addC room l x = 0 := by unfold addC; rw [if_pos h, h2, if_neg (by decide), if_neg (by omega)]
theorem addL_no {room : Nat} {l : List En} {x : En} {c : Int} (h : addC room l x = c) (hc : c ≠ 0) : addL room l x = l := by unfold addL; rw [h, if_neg hc]
theorem addL_yes {room : Nat} {l : List En} {x : En} (h : addC room l x = 0) : addL room l x = insL x l := by unfold addL; rw [if_pos h]
section
variable {ops : Array Oper} {rest : List Oper} {o : Oper} {T : List Value} {ds : List Deferred} {w : World} {Q : Exit → Act → World → Prop} {b : Nat} {L : List En}
theorem s_mkT (dst : Nat) (hd : o.dst = some dst) (hgd : o.guard = none) (ho : o.op = .makeMap 67 none)
    (h : ∀ w' g, Gro w w' → w.heap.size = g → TM w' g [] → wpList Try.prog ops Q rest ⟨(T.set dst (.map (some g))).toArray, ds⟩ w') : wpList Try.prog ops Q (o :: rest) ⟨T.toArray, ds⟩ w := by
  refine wpList_plain hgd fun _ hK => ?_
  have he : (execOp (Act.eval ⟨T.toArray, ds⟩) o).run Try.prog w = .ok (.value (.map (some w.heap.size))) (w.alloc (.map #[] 0)) := by
    unfold execOp
    simp only [ho, Option.map_none, Sem.run_bind, run_makeMap, Result.andThen_ok, Sem.run_pure]
  unfold Oper.wp
  rw [he, Oper.upon_value, hd, put_list]
  exact hK _ _ (h _ _ (gro_alloc _ _) rfl (TM.made w))
theorem s_mputE (hgd : o.guard = none) (hdst : o.dst = none) (m x v : Operand) (ho : o.op = .mapUpdate 67 m x v) (h : TM w b L) (hm : (⟨T.toArray, ds⟩ : Act).eval m = .map (some b)) (q : En) (hx : (⟨T.toArray, ds⟩ : Act).eval x = .agg (paA q.p)) (hv : (⟨T.toArray, ds⟩ : Act).eval v = .agg (enA q)) (hq : q.ok) (hn : hasL L q.p = false)
    (hk : ∀ w', TM w' b (insL q L) → GroS [b] w w' → wpList Try.prog ops Q rest ⟨T.toArray, ds⟩ w') : wpList Try.prog ops Q (o :: rest) ⟨T.toArray, ds⟩ w := by
  refine wpList_plain hgd fun _ hK => ?_
  obtain ⟨w', hr, h1, h2⟩ := h.put hq hn
  have he : (execOp (Act.eval ⟨T.toArray, ds⟩) o).run Try.prog w = .ok (.value undef) w' ∨ (execOp (Act.eval ⟨T.toArray, ds⟩) o).run Try.prog w = .ok .skip w' := by
    unfold execOp
    simp [ho, hm, hx, hv, hr]
  have := hK _ _ (hk w' h1 h2)
  unfold Oper.wp
  rcases he with he | he <;> rw [he] <;> first | (rw [Oper.upon_value, hdst]; exact this) | (simp only [Oper.upon, hdst]; exact this)
theorem s_delE (hgd : o.guard = none) (hdst : o.dst = none) (m x : Operand) (ho : o.op = .call { callee := .builtin .delete, args := #[m, x], argTypes := #[67, 26] }) (h : TM w b L) (hm : (⟨T.toArray, ds⟩ : Act).eval m = .map (some b)) (q : Pa) (hx : (⟨T.toArray, ds⟩ : Act).eval x = .agg (paA q)) (hq : q.ok) (hn : hasL L q = true)
    (hk : ∀ w', TM w' b (delL q L) → GroS [b] w w' → wpList Try.prog ops Q rest ⟨T.toArray, ds⟩ w') : wpList Try.prog ops Q (o :: rest) ⟨T.toArray, ds⟩ w := by
  refine wpList_plain hgd fun _ hK => ?_
  obtain ⟨w', hr, h1, h2⟩ := h.del hq hn o.type
  have he : (execOp (Act.eval ⟨T.toArray, ds⟩) o).run Try.prog w = .ok (.value (.tuple #[])) w' := by
    unfold execOp
    simp [ho, resolve, invoke, builtin, hm, hx, hr, Result.andThen]
  have := hK _ _ (hk w' h1 h2)
  unfold Oper.wp
  rw [he, Oper.upon_value, hdst]
  exact this
end
set_option maxRecDepth 100000 in
set_option maxHeartbeats 4000000 in
theorem new_any (most : Int) (w : World) : Calls Try.prog 10 #[.int .i64 most] w (NewP w (rmF most)) := by
  refine s_enter Try.func10 rfl Try.ntmps10 [.int .i64 most] [.int .i64 most, undef, undef, undef, undef, undef, undef, undef, undef] rfl ?_
  have GG := Gro.refl w
  refine wp_seq ?_
  refine wp_region_lit ?_
  refine s_val 2 rfl rfl (.pointer none) (rfl) ?_
  refine nr ?_; intro U h; simp only [z0, z1] at h; subst h
  refine wpList_nil ?_
  refine then_n ?_
  refine wp_seq ?_
  refine wp_region_lit ?_
  refine s_val 3 rfl rfl (.int .i64 most) (rfl) ?_
  refine nr ?_; intro U h; simp only [z0, z1] at h; subst h
  refine s_val 4 rfl rfl (.int .i64 (max most 0)) (run_maxI _ _ _ rfl most 0 rfl rfl _) ?_
  refine nr ?_; intro U h; simp only [z0, z1] at h; subst h
  refine s_val 5 rfl rfl (.int .i64 ((rmF most : Nat) : Int)) (run_room _ _ _ rfl most rfl rfl _) ?_
  refine nr ?_; intro U h; simp only [z0, z1] at h; subst h
  refine s_mkT 6 rfl rfl rfl ?_
  intro w1 b G eb HT
  have bb := size_base GG eb
  replace GG := GG.trans G
  clear G
  clear eb
  refine nr ?_; intro U h; simp only [z0, z1] at h; subst h
  refine s_val 7 rfl rfl (.agg (tbA (rmF most) b)) (run_bd 69 _ rfl [(0, .int .i64 ((rmF most : Nat) : Int)), (1, .map (some b))] rfl _ (by kernel_rfl)) ?_
  refine nr ?_; intro U h; simp only [z0, z1] at h; subst h
  refine s_box 8 rfl rfl 69 _ rfl _ rfl (tbA (rmF most) b) rfl ?_
  intro w2 t G et kt
  have bt := size_base GG et
  replace HT := HT.gro G
  replace GG := GG.trans G
  clear G
  clear et
  refine nr ?_; intro U h; simp only [z0, z1] at h; subst h
  refine s_val 2 rfl rfl (.pointer (some ⟨t, 0, none⟩)) (rfl) ?_
  refine nr ?_; intro U h; simp only [z0, z1] at h; subst h
  refine wpList_nil ?_
  refine then_n ?_
  refine wp_ret ?_
  refine bodyPost_ret (results_tmp Try.results10 _ _ _) rfl ?_
  exact ⟨t, b, rfl, GG, kt, HT, bt, bb⟩
set_option maxRecDepth 100000 in
set_option maxHeartbeats 4000000 in
theorem len_any (w : World) (t b room : Nat) (L : List En) (kt : w.heap[t]? = some (.cells (tbA room b) 69 (0, 0))) (HT : TM w b L) : Calls Try.prog 9 #[.pointer (some ⟨t, 0, none⟩)] w (fun e w' => e = .returned (.int .i64 ((L.length : Nat) : Int)) ∧ Gro w w') := by
  refine s_enter Try.func9 rfl Try.ntmps9 [.pointer (some ⟨t, 0, none⟩)] [.pointer (some ⟨t, 0, none⟩), undef, undef, undef, undef, undef, undef, undef, undef, undef] rfl ?_
  have GG := Gro.refl w
  refine wp_seq ?_
  refine wp_region_lit ?_
  refine s_val 2 rfl rfl (.int .i64 0) (rfl) ?_
  refine nr ?_; intro U h; simp only [z0, z1] at h; subst h
  refine wpList_nil ?_
  refine then_n ?_
  refine wp_seq ?_
  refine wp_seq ?_
  refine wp_region_lit ?_
  refine s_val 3 rfl rfl (.pointer (some ⟨t, 0, none⟩)) (rfl) ?_
  refine nr ?_; intro U h; simp only [z0, z1] at h; subst h
  refine s_val 4 rfl rfl (.bool false) (run_eqnp 37 _ _ _ rfl _ rfl rfl Try.underlying37 _) ?_
  refine nr ?_; intro U h; simp only [z0, z1] at h; subst h
  refine wpList_nil ?_
  refine then_n ?_
  refine wp_cond_false rfl ?_
  refine wp_skip ?_
  refine then_n ?_
  refine wp_seq ?_
  refine wp_region_lit ?_
  refine s_val 5 rfl rfl (.pointer (some ⟨t, 0, none⟩)) (rfl) ?_
  refine nr ?_; intro U h; simp only [z0, z1] at h; subst h
  refine s_val 6 rfl rfl (.pointer (some ⟨t, 0, none⟩)) (run_nc _ rfl _ rfl) ?_
  refine nr ?_; intro U h; simp only [z0, z1] at h; subst h
  refine s_val 7 rfl rfl (.pointer (some ⟨t, 1, none⟩)) (run_fld 69 _ 1 rfl t 0 rfl 1 (by kernel_rfl)) ?_
  refine nr ?_; intro U h; simp only [z0, z1] at h; subst h
  refine s_val 8 rfl rfl (.map (some b)) (ldTm _ rfl t rfl (kt)) ?_
  refine nr ?_; intro U h; simp only [z0, z1] at h; subst h
  refine s_val 9 rfl rfl (.int .i64 ((L.length : Nat) : Int)) (run_mlen (HT) _ rfl rfl) ?_
  refine nr ?_; intro U h; simp only [z0, z1] at h; subst h
  refine s_val 2 rfl rfl (.int .i64 ((L.length : Nat) : Int)) (rfl) ?_
  refine nr ?_; intro U h; simp only [z0, z1] at h; subst h
  refine wpList_nil ?_
  refine then_n ?_
  refine wp_ret ?_
  refine bodyPost_ret (results_tmp Try.results9 _ _ _) rfl ?_
  exact ⟨rfl, GG⟩
set_option maxRecDepth 100000 in
set_option maxHeartbeats 4000000 in
theorem get_any (w : World) (t b room : Nat) (L : List En) (kt : w.heap[t]? = some (.cells (tbA room b) 69 (0, 0))) (HT : TM w b L) (p : Pa) (hp : p.ok) : Calls Try.prog 7 #[.pointer (some ⟨t, 0, none⟩), .agg (paA p)] w (fun e w' => e = .returned (.tuple #[.agg (enA (getV L p)), .bool (hasL L p)]) ∧ Gro w w') := by
  refine s_enter Try.func7 rfl Try.ntmps7 [.pointer (some ⟨t, 0, none⟩), .agg (paA p)] [.pointer (some ⟨t, 0, none⟩), .agg (paA p), undef, undef, undef, undef, undef, undef, undef, undef, undef, undef, undef, undef, undef, undef, undef, undef, undef, undef, undef, undef] rfl ?_
  have GG := Gro.refl w
  refine wp_seq ?_
  refine wp_region_lit ?_
  refine s_box 3 rfl rfl 26 _ rfl _ rfl (paA p) rfl ?_
  intro w1 g1 G eg1 kg1
  have bg1 := size_base GG eg1
  have dtg1 := lt_new kt eg1
  replace kt := G.has kt
  replace HT := HT.gro G
  replace GG := GG.trans G
  clear G
  clear eg1
  refine nr ?_; intro U h; simp only [z0, z1] at h; subst h
  refine s_alloc 4 rfl rfl 39 rfl _ zero33 (enA zE) rfl ?_
  intro w2 g2 G eg2 kg2
  have bg2 := size_base GG eg2
  have dtg2 := lt_new kt eg2
  have dg1g2 := lt_new kg1 eg2
  have dHTg2 := HT.ne eg2
  replace kt := G.has kt
  replace kg1 := G.has kg1
  replace HT := HT.gro G
  replace GG := GG.trans G
  clear G
  clear eg2
  refine nr ?_; intro U h; simp only [z0, z1] at h; subst h
  refine s_val 5 rfl rfl (.bool false) (rfl) ?_
  refine nr ?_; intro U h; simp only [z0, z1] at h; subst h
  refine wpList_nil ?_
  refine then_n ?_
  refine wp_seq ?_
  refine wp_seq ?_
  refine wp_region_lit ?_
  refine s_val 8 rfl rfl (.pointer (some ⟨t, 0, none⟩)) (rfl) ?_
  refine nr ?_; intro U h; simp only [z0, z1] at h; subst h
  refine s_val 9 rfl rfl (.bool false) (run_eqnp 37 _ _ _ rfl _ rfl rfl Try.underlying37 _) ?_
  refine nr ?_; intro U h; simp only [z0, z1] at h; subst h
  refine wpList_nil ?_
  refine then_n ?_
  refine wp_cond_false rfl ?_
  refine wp_skip ?_
  refine then_n ?_
  refine wp_seq ?_
  refine wp_region_grow2 11 [(0, 12), (1, 13), (2, 14), (3, 15), (4, 16), (5, 17), (6, 11), (7, 18), (8, 19), (9, 6)] [.val (.pointer (some ⟨t, 0, none⟩)), .val (.pointer (some ⟨t, 0, none⟩)), .val (.pointer (some ⟨t, 1, none⟩)), .val (.map (some b)), .val (.agg (paA p)), .val (.tuple #[.agg (enA (getV L p)), .bool (hasL L p)]), .val (.tuple #[.agg (enA (getV L p)), .bool (hasL L p)]), .val (.agg (enA (getV L p))), .val (.bool (hasL L p)), .new 39 (enA zE) (enA (getV L p)) 10, .put 9] follows (by kernel_rfl) (by kernel_rfl) rfl (opsOK2_cons ?o0x1 (opsOK2_cons ?o1x1 (opsOK2_cons ?o2x1 (opsOK2_cons ?o3x1 (opsOK2_cons ?o4x1 (opsOK2_cons ?o5x1 (opsOK2_cons ?o6x1 (opsOK2_cons ?o7x1 (opsOK2_cons ?o8x1 (opsOK2_cons ?o9x1 (opsOK2_cons ?o10x1 opsOK2_nil))))))))))) ?restx1
  case o0x1 => exact fun _ _ _ _ _ _ => OpOK2.of_val (ok_value (v := .pointer (some ⟨t, 0, none⟩)) rfl rfl)
  case o1x1 => exact fun _ _ _ _ _ _ => OpOK2.of_val (ok_value (v := .pointer (some ⟨t, 0, none⟩)) rfl (run_nc _ rfl _ rfl))
  case o2x1 => exact fun _ _ _ _ _ _ => OpOK2.of_val (ok_value (v := .pointer (some ⟨t, 1, none⟩)) rfl (run_fld 69 _ 1 rfl t 0 rfl 1 (by kernel_rfl)))
  case o3x1 => exact fun _ _ _ hw _ _ => OpOK2.of_val (ok_value (v := .map (some b)) rfl (ldTm _ rfl t rfl (hw.has kt)))
  case o4x1 => exact fun _ _ _ hw _ _ => OpOK2.of_val (ok_value (v := .agg (paA p)) rfl (ldP0 _ rfl g1 rfl (hw.has kg1)))
  case o5x1 => exact fun _ _ _ hw _ _ => OpOK2.of_val (ok_value (v := .tuple #[.agg (enA (getV L p)), .bool (hasL L p)]) rfl (run_lkE (HT.gro ((Gro.refl _).drew.trans hw)) _ _ rfl rfl p rfl hp (hasL L p) rfl))
  case o6x1 => exact fun _ _ _ _ _ _ => OpOK2.of_val (ok_value (v := .tuple #[.agg (enA (getV L p)), .bool (hasL L p)]) rfl rfl)
  case o7x1 => exact fun _ _ _ _ _ _ => OpOK2.of_val (ok_value (v := .agg (enA (getV L p))) rfl (rfl))
  case o8x1 => exact fun _ _ _ _ _ _ => OpOK2.of_val (ok_value (v := .bool (hasL L p)) rfl (rfl))
  case o9x1 => exact fun _ _ _ _ _ _ => OpOK2.of_new (ok_alloc rfl 39 rfl _ zero33)
  case o10x1 =>
    intro ptrs Lq wq hw hn hL
    obtain ⟨⟨gq, pq, kq, cq⟩, hz⟩ := hn
    have hL' : Lq 10 = false := hL
    have p' : ptrs 9 = .pointer (some ⟨gq, 0, none⟩) := pq
    have k' : wq.heap[gq]? = some (.cells (if Lq 10 = true then (enA (getV L p)) else (enA zE)) 39 (0, 0)) := kq
    rw [hL'] at k'
    refine ok2_store rfl 39 _ _ rfl gq ?_ (enA (getV L p)) rfl (enA zE) k' (si33' _) (enA_sz _ _) (enA_one _) rfl p' _
    show ptrs 9 = _
    exact p'
  intro ptrs Lz w3 GD hLz hnz hapz
  obtain ⟨⟨g6, pz, kz, cz⟩, hzz⟩ := hnz
  simp only [full, foldSlots, filled2, postAt2, List.foldl_cons, List.foldl_nil, List.getD_cons_zero, List.getD_cons_succ, PostS.fill, PostS.val, PostS.new, PostS.put, List.set_cons_zero, List.set_cons_succ, List.drop_succ_cons, List.drop_zero, pz]
  have kg6 : w3.heap[g6]? = some (.cells (enA (getV L p)) 39 (0, 0)) := by
    have hL' : Lz 10 = true := by rw [hLz]; rfl
    have kk : w3.heap[g6]? = some (.cells (if Lz 10 = true then (enA (getV L p)) else (enA zE)) 39 (0, 0)) := kz
    rw [hL'] at kk
    exact kk
  clear kz hzz hapz hLz
  have dtg6 : t < g6 := Nat.lt_of_lt_of_le (lt_of_heap kt) cz
  have dg1g6 : g1 < g6 := Nat.lt_of_lt_of_le (lt_of_heap kg1) cz
  have dg2g6 : g2 < g6 := Nat.lt_of_lt_of_le (lt_of_heap kg2) cz
  have dHTg6 : b ≠ g6 := Nat.ne_of_lt (Nat.lt_of_lt_of_le HT.lt cz)
  replace kt := GD.has kt
  replace kg1 := GD.has kg1
  replace kg2 := GD.has kg2
  replace HT := HT.gro ((Gro.refl _).drew.trans GD)
  have bg6 := Nat.le_trans GG.size cz
  replace GG := GG.drew.trans GD
  clear GD pz cz
  refine s_val 7 rfl rfl (.bool (hasL L p)) (rfl) ?_
  refine nr ?_; intro U h; simp only [z0, z1] at h; subst h
  refine wpList_nil ?_
  refine then_n ?_
  refine wp_seq ?_
  refine wp_region_lit ?_
  refine s_val 20 rfl rfl (.agg (enA (getV L p))) (ldE0 _ rfl g6 rfl (kg6)) ?_
  refine nr ?_; intro U h; simp only [z0, z1] at h; subst h
  refine s_val 21 rfl rfl (.bool (hasL L p)) (rfl) ?_
  refine nr ?_; intro U h; simp only [z0, z1] at h; subst h
  refine s_store rfl rfl 39 _ _ rfl g2 0 rfl (.agg (enA (getV L p))) rfl 39 _ kg2 (enA (getV L p)) rfl (si33' _) (enA_fit _ _) (enA_one _) (enA (getV L p)) (splice_whole _ _ (enA_sz _ _)) ?_
  intro w4 St
  have kS := kg2
  replace kt := St.has (by omega) kt
  replace kg1 := St.has (by omega) kg1
  replace kg6 := St.has (by omega) kg6
  replace HT := HT.st St dHTg2
  replace GG := GG.store St bg2
  replace kg2 := St.new
  clear St
  refine s_val 5 rfl rfl (.bool (hasL L p)) (rfl) ?_
  refine nr ?_; intro U h; simp only [z0, z1] at h; subst h
  refine wpList_nil ?_
  refine then_n ?_
  refine wp_ret ?_
  refine bodyPost_ret (results_cell_tmp Try.results7 _ _ g2 39 _ (0, 0) _ rfl (.bool (hasL L p)) rfl kg2 Try.underlying39 rfl (si33' _)) rfl ?_
  exact ⟨rfl, GG⟩
set_option maxRecDepth 100000 in
set_option maxHeartbeats 4000000 in
theorem add_any (w : World) (t b room : Nat) (L : List En) (kt : w.heap[t]? = some (.cells (tbA room b) 69 (0, 0))) (HT : TM w b L) (x : En) (hx : x.ok) : Calls Try.prog 11 #[.pointer (some ⟨t, 0, none⟩), .agg (enA x)] w (fun e w' => e = .returned (.int .i64 (addC room L x)) ∧ TM w' b (addL room L x) ∧ GroS [b] w w') := by
  refine s_enter Try.func11 rfl Try.ntmps11 [.pointer (some ⟨t, 0, none⟩), .agg (enA x)] [.pointer (some ⟨t, 0, none⟩), .agg (enA x), undef, undef, undef, undef, undef, undef, undef, undef, undef, undef, undef, undef, undef, undef, undef, undef, undef, undef, undef, undef, undef, undef, undef, undef, undef, undef, undef, undef, undef, undef, undef, undef, undef, undef] rfl ?_
  have GG := GroS.refl [b] w
  refine wp_seq ?_
  refine wp_region_lit ?_
  refine s_box 3 rfl rfl 39 _ rfl _ rfl (enA x) rfl ?_
  intro w1 g1 G eg1 kg1
  have bg1 := size_basS GG eg1
  have dtg1 := lt_new kt eg1
  replace kt := G.has kt
  replace HT := HT.gro G
  replace GG := GG.tg G
  clear G
  clear eg1
  refine nr ?_; intro U h; simp only [z0, z1] at h; subst h
  refine s_val 4 rfl rfl (.int .i64 0) (rfl) ?_
  refine nr ?_; intro U h; simp only [z0, z1] at h; subst h
  refine wpList_nil ?_
  refine then_n ?_
  refine wp_seq ?_
  refine wp_seq ?_
  cases hr : decide (rgt x = true)
  · refine wp_region_opq ?_
    intro OPS hY
    have y2 := hY 2 9 rfl
    clear hY
    refine s_val 7 rfl rfl (.pointer (some ⟨t, 0, none⟩)) (rfl) ?_
    refine nr ?_; intro U h; simp only [z0, z1] at h; subst h
    refine s_val 8 rfl rfl (.bool false) (run_eqnp 37 _ _ _ rfl _ rfl rfl Try.underlying37 _) ?_
    refine nr ?_; intro U h; simp only [z0, z1] at h; subst h
    refine s_val 9 rfl rfl (.bool false) (rfl) ?_
    refine nr ?_; intro U h; simp only [z0, z1] at h; subst h
    refine s_gvalY 10 rfl rfl y2 rfl (.agg (enA x)) (ldE0 _ rfl g1 rfl (kg1)) ?_
    refine nr ?_; intro U h; simp only [z0, z1] at h; subst h
    refine s_gcallvY 11 rfl rfl y2 rfl _ 16 Try.call16 rfl rfl _ rfl [.agg (enA x)] rfl (Calls.bool (right_any x hx _) (Bool.eq_false_iff.2 (of_decide_eq_false hr))) ?_
    intro w2 G
    replace kt := G.has kt
    replace kg1 := G.has kg1
    replace HT := HT.gro G
    replace GG := GG.tg G
    clear G
    refine nr ?_; intro U h; simp only [z0, z1] at h; subst h
    refine s_gvalY 12 rfl rfl y2 rfl (.bool true) (run_nt _ _ rfl false rfl) ?_
    refine nr ?_; intro U h; simp only [z0, z1] at h; subst h
    refine s_val 13 rfl rfl (.bool true) (rfl) ?_
    refine nr ?_; intro U h; simp only [z0, z1] at h; subst h
    refine wpList_nil ?_
    refine then_n ?_
    refine wp_cond_true rfl ?_
    refine wp_seq ?_
    refine wp_region_lit ?_
    refine s_val 4 rfl rfl (.int .i64 1) (rfl) ?_
    refine nr ?_; intro U h; simp only [z0, z1] at h; subst h
    refine wpList_nil ?_
    refine then_n ?_
    refine wp_ret ?_
    refine then_r ?_
    refine bodyPost_ret (results_tmp Try.results11 _ _ _) rfl ?_
    have ec : addC room L x = _ := addC_1 (Bool.eq_false_iff.2 (of_decide_eq_false hr))
    exact ⟨congrArg (fun z => Ending.returned (.int .i64 z)) ec.symm, by rw [addL_no ec (by decide)]; exact HT, GG⟩
  · refine wp_region_opq ?_
    intro OPS hY
    have y2 := hY 2 9 rfl
    clear hY
    refine s_val 7 rfl rfl (.pointer (some ⟨t, 0, none⟩)) (rfl) ?_
    refine nr ?_; intro U h; simp only [z0, z1] at h; subst h
    refine s_val 8 rfl rfl (.bool false) (run_eqnp 37 _ _ _ rfl _ rfl rfl Try.underlying37 _) ?_
    refine nr ?_; intro U h; simp only [z0, z1] at h; subst h
    refine s_val 9 rfl rfl (.bool false) (rfl) ?_
    refine nr ?_; intro U h; simp only [z0, z1] at h; subst h
    refine s_gvalY 10 rfl rfl y2 rfl (.agg (enA x)) (ldE0 _ rfl g1 rfl (kg1)) ?_
    refine nr ?_; intro U h; simp only [z0, z1] at h; subst h
    refine s_gcallvY 11 rfl rfl y2 rfl _ 16 Try.call16 rfl rfl _ rfl [.agg (enA x)] rfl (Calls.bool (right_any x hx _) (of_decide_eq_true hr)) ?_
    intro w2 G
    replace kt := G.has kt
    replace kg1 := G.has kg1
    replace HT := HT.gro G
    replace GG := GG.tg G
    clear G
    refine nr ?_; intro U h; simp only [z0, z1] at h; subst h
    refine s_gvalY 12 rfl rfl y2 rfl (.bool false) (run_nt _ _ rfl true rfl) ?_
    refine nr ?_; intro U h; simp only [z0, z1] at h; subst h
    refine s_val 13 rfl rfl (.bool false) (rfl) ?_
    refine nr ?_; intro U h; simp only [z0, z1] at h; subst h
    refine wpList_nil ?_
    refine then_n ?_
    refine wp_cond_false rfl ?_
    refine wp_skip ?_
    refine then_n ?_
    refine wp_seq ?_
    refine wp_seq ?_
    cases hh : decide (hasL L x.p = true)
    · refine wp_region_lit ?_
      refine s_val 15 rfl rfl (.pointer (some ⟨t, 0, none⟩)) (rfl) ?_
      refine nr ?_; intro U h; simp only [z0, z1] at h; subst h
      refine s_val 16 rfl rfl (.pointer (some ⟨g1, 0, none⟩)) (run_fld 39 _ 0 rfl g1 0 rfl 0 (by kernel_rfl)) ?_
      refine nr ?_; intro U h; simp only [z0, z1] at h; subst h
      refine s_val 17 rfl rfl (.agg (paA x.p)) (ldEp _ rfl g1 rfl (kg1)) ?_
      refine nr ?_; intro U h; simp only [z0, z1] at h; subst h
      refine s_callv 18 rfl rfl _ 7 Try.call7 rfl rfl _ rfl [.pointer (some ⟨t, 0, none⟩), .agg (paA x.p)] rfl (Calls.valV (get_any _ t b room L kt HT x.p hx.p) (by rw [(Bool.eq_false_iff.2 (of_decide_eq_false hh))])) ?_
      intro w3 G
      replace kt := G.has kt
      replace kg1 := G.has kg1
      replace HT := HT.gro G
      replace GG := GG.tg G
      clear G
      refine nr ?_; intro U h; simp only [z0, z1] at h; subst h
      refine s_val 14 rfl rfl (.tuple #[.agg (enA (getV L x.p)), .bool false]) (rfl) ?_
      refine nr ?_; intro U h; simp only [z0, z1] at h; subst h
      refine s_val 19 rfl rfl (.agg (enA (getV L x.p))) (rfl) ?_
      refine nr ?_; intro U h; simp only [z0, z1] at h; subst h
      refine s_val 20 rfl rfl (.bool false) (rfl) ?_
      refine nr ?_; intro U h; simp only [z0, z1] at h; subst h
      refine s_alloc 5 rfl rfl 39 rfl _ zero33 (enA zE) rfl ?_
      intro w4 g2 G eg2 kg2
      have bg2 := size_basS GG eg2
      have dtg2 := lt_new kt eg2
      have dg1g2 := lt_new kg1 eg2
      have dHTg2 := HT.ne eg2
      replace kt := G.has kt
      replace kg1 := G.has kg1
      replace HT := HT.gro G
      replace GG := GG.tg G
      clear G
      clear eg2
      refine nr ?_; intro U h; simp only [z0, z1] at h; subst h
      refine s_store rfl rfl 39 _ _ rfl g2 0 rfl (.agg (enA (getV L x.p))) rfl 39 _ kg2 (enA (getV L x.p)) rfl (si33' _) (enA_fit _ _) (enA_one _) (enA (getV L x.p)) (splice_whole _ _ (enA_sz _ _)) ?_
      intro w5 St
      have kS := kg2
      replace kt := St.has (by omega) kt
      replace kg1 := St.has (by omega) kg1
      replace HT := HT.st St dHTg2
      replace GG := GG.st St (.inl bg2)
      replace kg2 := St.new
      clear St
      refine s_val 6 rfl rfl (.bool false) (rfl) ?_
      refine nr ?_; intro U h; simp only [z0, z1] at h; subst h
      refine wpList_nil ?_
      refine then_n ?_
      refine wp_seq ?_
      refine wp_region_lit ?_
      refine s_val 21 rfl rfl (.bool false) (rfl) ?_
      refine nr ?_; intro U h; simp only [z0, z1] at h; subst h
      refine wpList_nil ?_
      refine then_n ?_
      refine wp_cond_false rfl ?_
      refine wp_skip ?_
      refine then_n ?_
      refine wp_seq ?_
      refine wp_seq ?_
      refine wp_region_exA (A := ?Ax2) 6 [(0, 22), (1, 23), (2, 24), (3, 25), (4, 26), (5, 27)] [.val (.pointer (some ⟨t, 0, none⟩)), .val (.int .i64 ((L.length : Nat) : Int)), .val (.pointer (some ⟨t, 0, none⟩)), .val (.pointer (some ⟨t, 0, none⟩)), .val (.pointer (some ⟨t, 0, none⟩)), .val (.int .i64 ((room : Nat) : Int))] follows (by kernel_rfl) rfl ?hAx2 (opsA_cons ?o0x2 (opsA_cons ?o1x2 (opsA_cons ?o2x2 (opsA_cons ?o3x2 (opsA_cons ?o4x2 (opsA_cons ?o5x2 opsA_nil)))))) ?restx2
      case hAx2 =>
        intro ptrs
        simp only [full, foldSlots, filledE, postE, List.foldl_cons, List.foldl_nil, List.getD_cons_zero, List.getD_cons_succ, fill_val, List.set_cons_zero, List.set_cons_succ]
        exact rfl
      case o0x2 => exact fun _ _ _ _ => opE_move (v := .pointer (some ⟨t, 0, none⟩)) _ rfl rfl rfl
      case o1x2 =>
        intro ptrs w' hw hE
        exact opE_call (.val (.int .i64 ((L.length : Nat) : Int))) rfl _ 9 Try.call9 rfl rfl _ rfl [.pointer (some ⟨t, 0, none⟩)] rfl ((len_any _ t b room L (hw.has kt) (HT.gro ((Gro.refl _).drew.trans hw))).mono fun e w' ⟨he, hg⟩ => ⟨_, he, hg, rfl⟩)
      case o2x2 => exact fun _ _ _ _ => opE_move (v := .pointer (some ⟨t, 0, none⟩)) _ rfl rfl rfl
      case o3x2 => exact fun _ _ _ _ => opE_value (v := .pointer (some ⟨t, 0, none⟩)) rfl (run_nc _ rfl _ rfl)
      case o4x2 => exact fun _ _ _ _ => opE_value (v := .pointer (some ⟨t, 0, none⟩)) rfl (run_fld 69 _ 0 rfl t 0 rfl 0 (by kernel_rfl))
      case o5x2 => exact fun _ _ hw _ => opE_value (v := .int .i64 ((room : Nat) : Int)) rfl (ldTr _ rfl t rfl (hw.has kt))
      intro ptrs w6 GD hxE
      simp only [List.drop_succ_cons, List.drop_zero]
      replace kt := GD.has kt
      replace kg1 := GD.has kg1
      replace kg2 := GD.has kg2
      replace HT := HT.gro ((Gro.refl _).drew.trans GD)
      replace GG := GG.drew.tg GD
      clear GD
      cases hf : decide (((room : Nat) : Int) ≤ ((L.length : Nat) : Int))
      · refine s_val 28 rfl rfl (.bool false) (run_geqT 3 _ _ _ rfl ((L.length : Nat) : Int) ((room : Nat) : Int) rfl rfl false hf _) ?_
        refine nr ?_; intro U h; simp only [z0, z1] at h; subst h
        refine wpList_nil ?_
        refine then_n ?_
        refine wp_cond_false rfl ?_
        refine wp_skip ?_
        refine then_n ?_
        refine wp_seq ?_
        refine wp_region_exA (A := ?Ax3) 7 [(0, 29), (1, 30), (2, 31), (3, 32), (4, 33), (5, 34), (6, 35)] [.val (.pointer (some ⟨t, 0, none⟩)), .val (.pointer (some ⟨t, 0, none⟩)), .val (.pointer (some ⟨t, 1, none⟩)), .val (.map (some b)), .val (.pointer (some ⟨g1, 0, none⟩)), .val (.agg (paA x.p)), .val (.agg (enA x))] follows (by kernel_rfl) rfl ?hAx3 (opsA_cons ?o0x3 (opsA_cons ?o1x3 (opsA_cons ?o2x3 (opsA_cons ?o3x3 (opsA_cons ?o4x3 (opsA_cons ?o5x3 (opsA_cons ?o6x3 opsA_nil))))))) ?restx3
        case hAx3 =>
          intro ptrs
          simp only [full, foldSlots, filledE, postE, List.foldl_cons, List.foldl_nil, List.getD_cons_zero, List.getD_cons_succ, fill_val, List.set_cons_zero, List.set_cons_succ]
          exact rfl
        case o0x3 => exact fun _ _ _ _ => opE_move (v := .pointer (some ⟨t, 0, none⟩)) _ rfl rfl rfl
        case o1x3 => exact fun _ _ _ _ => opE_value (v := .pointer (some ⟨t, 0, none⟩)) rfl (run_nc _ rfl _ rfl)
        case o2x3 => exact fun _ _ _ _ => opE_value (v := .pointer (some ⟨t, 1, none⟩)) rfl (run_fld 69 _ 1 rfl t 0 rfl 1 (by kernel_rfl))
        case o3x3 => exact fun _ _ hw _ => opE_value (v := .map (some b)) rfl (ldTm _ rfl t rfl (hw.has kt))
        case o4x3 => exact fun _ _ _ _ => opE_value (v := .pointer (some ⟨g1, 0, none⟩)) rfl (run_fld 39 _ 0 rfl g1 0 rfl 0 (by kernel_rfl))
        case o5x3 => exact fun _ _ hw _ => opE_value (v := .agg (paA x.p)) rfl (ldEp _ rfl g1 rfl (hw.has kg1))
        case o6x3 => exact fun _ _ hw _ => opE_value (v := .agg (enA x)) rfl (ldE0 _ rfl g1 rfl (hw.has kg1))
        intro ptrs w7 GD hxE
        simp only [List.drop_succ_cons, List.drop_zero]
        replace kt := GD.has kt
        replace kg1 := GD.has kg1
        replace kg2 := GD.has kg2
        replace HT := HT.gro ((Gro.refl _).drew.trans GD)
        replace GG := GG.drew.tg GD
        clear GD
        refine s_mputE rfl rfl _ _ _ rfl HT rfl x rfl rfl hx (Bool.eq_false_iff.2 (of_decide_eq_false hh)) ?_
        intro w8 HT2 G2
        clear HT
        have HT := HT2
        clear HT2
        replace GG := GG.trans G2
        clear kt
        clear kg1
        clear kg2
        clear G2
        refine wpList_nil ?_
        refine then_n ?_
        refine wp_seq ?_
        refine wp_region_lit ?_
        refine s_val 4 rfl rfl (.int .i64 0) (rfl) ?_
        refine nr ?_; intro U h; simp only [z0, z1] at h; subst h
        refine wpList_nil ?_
        refine then_n ?_
        refine wp_ret ?_
        refine bodyPost_ret (results_tmp Try.results11 _ _ _) rfl ?_
        have ec : addC room L x = _ := addC_ok (of_decide_eq_true hr) (Bool.eq_false_iff.2 (of_decide_eq_false hh)) (by have := of_decide_eq_false hf; omega)
        exact ⟨congrArg (fun z => Ending.returned (.int .i64 z)) ec.symm, by rw [addL_yes ec]; exact HT, GG⟩
      · refine s_val 28 rfl rfl (.bool true) (run_geqT 3 _ _ _ rfl ((L.length : Nat) : Int) ((room : Nat) : Int) rfl rfl true hf _) ?_
        refine nr ?_; intro U h; simp only [z0, z1] at h; subst h
        refine wpList_nil ?_
        refine then_n ?_
        refine wp_cond_true rfl ?_
        refine wp_seq ?_
        refine wp_region_lit ?_
        refine s_val 4 rfl rfl (.int .i64 5) (rfl) ?_
        refine nr ?_; intro U h; simp only [z0, z1] at h; subst h
        refine wpList_nil ?_
        refine then_n ?_
        refine wp_ret ?_
        refine then_r ?_
        refine bodyPost_ret (results_tmp Try.results11 _ _ _) rfl ?_
        have ec : addC room L x = _ := addC_5 (of_decide_eq_true hr) (Bool.eq_false_iff.2 (of_decide_eq_false hh)) (by have := of_decide_eq_true hf; omega)
        exact ⟨congrArg (fun z => Ending.returned (.int .i64 z)) ec.symm, by rw [addL_no ec (by decide)]; exact HT, GG⟩
    · refine wp_region_lit ?_
      refine s_val 15 rfl rfl (.pointer (some ⟨t, 0, none⟩)) (rfl) ?_
      refine nr ?_; intro U h; simp only [z0, z1] at h; subst h
      refine s_val 16 rfl rfl (.pointer (some ⟨g1, 0, none⟩)) (run_fld 39 _ 0 rfl g1 0 rfl 0 (by kernel_rfl)) ?_
      refine nr ?_; intro U h; simp only [z0, z1] at h; subst h
      refine s_val 17 rfl rfl (.agg (paA x.p)) (ldEp _ rfl g1 rfl (kg1)) ?_
      refine nr ?_; intro U h; simp only [z0, z1] at h; subst h
      refine s_callv 18 rfl rfl _ 7 Try.call7 rfl rfl _ rfl [.pointer (some ⟨t, 0, none⟩), .agg (paA x.p)] rfl (Calls.valV (get_any _ t b room L kt HT x.p hx.p) (by rw [(of_decide_eq_true hh)])) ?_
      intro w3 G
      replace kt := G.has kt
      replace kg1 := G.has kg1
      replace HT := HT.gro G
      replace GG := GG.tg G
      clear G
      refine nr ?_; intro U h; simp only [z0, z1] at h; subst h
      refine s_val 14 rfl rfl (.tuple #[.agg (enA (getV L x.p)), .bool true]) (rfl) ?_
      refine nr ?_; intro U h; simp only [z0, z1] at h; subst h
      refine s_val 19 rfl rfl (.agg (enA (getV L x.p))) (rfl) ?_
      refine nr ?_; intro U h; simp only [z0, z1] at h; subst h
      refine s_val 20 rfl rfl (.bool true) (rfl) ?_
      refine nr ?_; intro U h; simp only [z0, z1] at h; subst h
      refine s_alloc 5 rfl rfl 39 rfl _ zero33 (enA zE) rfl ?_
      intro w4 g2 G eg2 kg2
      have bg2 := size_basS GG eg2
      have dtg2 := lt_new kt eg2
      have dg1g2 := lt_new kg1 eg2
      have dHTg2 := HT.ne eg2
      replace kt := G.has kt
      replace kg1 := G.has kg1
      replace HT := HT.gro G
      replace GG := GG.tg G
      clear G
      clear eg2
      refine nr ?_; intro U h; simp only [z0, z1] at h; subst h
      refine s_store rfl rfl 39 _ _ rfl g2 0 rfl (.agg (enA (getV L x.p))) rfl 39 _ kg2 (enA (getV L x.p)) rfl (si33' _) (enA_fit _ _) (enA_one _) (enA (getV L x.p)) (splice_whole _ _ (enA_sz _ _)) ?_
      intro w5 St
      have kS := kg2
      replace kt := St.has (by omega) kt
      replace kg1 := St.has (by omega) kg1
      replace HT := HT.st St dHTg2
      replace GG := GG.st St (.inl bg2)
      replace kg2 := St.new
      clear St
      refine s_val 6 rfl rfl (.bool true) (rfl) ?_
      refine nr ?_; intro U h; simp only [z0, z1] at h; subst h
      refine wpList_nil ?_
      refine then_n ?_
      refine wp_seq ?_
      refine wp_region_lit ?_
      refine s_val 21 rfl rfl (.bool true) (rfl) ?_
      refine nr ?_; intro U h; simp only [z0, z1] at h; subst h
      refine wpList_nil ?_
      refine then_n ?_
      refine wp_cond_true rfl ?_
      refine wp_seq ?_
      refine wp_region_lit ?_
      refine s_val 4 rfl rfl (.int .i64 7) (rfl) ?_
      refine nr ?_; intro U h; simp only [z0, z1] at h; subst h
      refine wpList_nil ?_
      refine then_n ?_
      refine wp_ret ?_
      refine then_r ?_
      refine bodyPost_ret (results_tmp Try.results11 _ _ _) rfl ?_
      have ec : addC room L x = _ := addC_7 (of_decide_eq_true hr) (of_decide_eq_true hh)
      exact ⟨congrArg (fun z => Ending.returned (.int .i64 z)) ec.symm, by rw [addL_no ec (by decide)]; exact HT, GG⟩
set_option maxRecDepth 100000 in
set_option maxHeartbeats 4000000 in
theorem rem_any (w : World) (t b room : Nat) (L : List En) (kt : w.heap[t]? = some (.cells (tbA room b) 69 (0, 0))) (HT : TM w b L) (p : Pa) (hp : p.ok) : Calls Try.prog 21 #[.pointer (some ⟨t, 0, none⟩), .agg (paA p)] w (fun e w' => e = .returned (.tuple #[.agg (enA (getV L p)), .bool (hasL L p)]) ∧ TM w' b (delL p L) ∧ GroS [b] w w') := by
  refine s_enter Try.func21 rfl Try.ntmps21 [.pointer (some ⟨t, 0, none⟩), .agg (paA p)] [.pointer (some ⟨t, 0, none⟩), .agg (paA p), undef, undef, undef, undef, undef, undef, undef, undef, undef, undef, undef, undef, undef, undef, undef, undef, undef, undef, undef, undef] rfl ?_
  have GG := GroS.refl [b] w
  refine wp_seq ?_
  refine wp_region_lit ?_
  refine s_box 3 rfl rfl 26 _ rfl _ rfl (paA p) rfl ?_
  intro w1 g1 G eg1 kg1
  have bg1 := size_basS GG eg1
  have dtg1 := lt_new kt eg1
  replace kt := G.has kt
  replace HT := HT.gro G
  replace GG := GG.tg G
  clear G
  clear eg1
  refine nr ?_; intro U h; simp only [z0, z1] at h; subst h
  refine s_alloc 4 rfl rfl 39 rfl _ zero33 (enA zE) rfl ?_
  intro w2 g2 G eg2 kg2
  have bg2 := size_basS GG eg2
  have dtg2 := lt_new kt eg2
  have dg1g2 := lt_new kg1 eg2
  have dHTg2 := HT.ne eg2
  replace kt := G.has kt
  replace kg1 := G.has kg1
  replace HT := HT.gro G
  replace GG := GG.tg G
  clear G
  clear eg2
  refine nr ?_; intro U h; simp only [z0, z1] at h; subst h
  refine s_val 5 rfl rfl (.bool false) (rfl) ?_
  refine nr ?_; intro U h; simp only [z0, z1] at h; subst h
  refine wpList_nil ?_
  refine then_n ?_
  refine wp_seq ?_
  cases hh : decide (hasL L p = true)
  · refine wp_region_lit ?_
    refine s_val 9 rfl rfl (.pointer (some ⟨t, 0, none⟩)) (rfl) ?_
    refine nr ?_; intro U h; simp only [z0, z1] at h; subst h
    refine s_val 10 rfl rfl (.agg (paA p)) (ldP0 _ rfl g1 rfl (kg1)) ?_
    refine nr ?_; intro U h; simp only [z0, z1] at h; subst h
    refine s_callv 11 rfl rfl _ 7 Try.call7 rfl rfl _ rfl [.pointer (some ⟨t, 0, none⟩), .agg (paA p)] rfl (Calls.valV (get_any _ t b room L kt HT p hp) (by rw [(Bool.eq_false_iff.2 (of_decide_eq_false hh))])) ?_
    intro w3 G
    replace kt := G.has kt
    replace kg1 := G.has kg1
    replace kg2 := G.has kg2
    replace HT := HT.gro G
    replace GG := GG.tg G
    clear G
    refine nr ?_; intro U h; simp only [z0, z1] at h; subst h
    refine s_val 8 rfl rfl (.tuple #[.agg (enA (getV L p)), .bool false]) (rfl) ?_
    refine nr ?_; intro U h; simp only [z0, z1] at h; subst h
    refine s_val 12 rfl rfl (.agg (enA (getV L p))) (rfl) ?_
    refine nr ?_; intro U h; simp only [z0, z1] at h; subst h
    refine s_val 13 rfl rfl (.bool false) (rfl) ?_
    refine nr ?_; intro U h; simp only [z0, z1] at h; subst h
    refine s_alloc 6 rfl rfl 39 rfl _ zero33 (enA zE) rfl ?_
    intro w4 g3 G eg3 kg3
    have bg3 := size_basS GG eg3
    have dtg3 := lt_new kt eg3
    have dg1g3 := lt_new kg1 eg3
    have dg2g3 := lt_new kg2 eg3
    have dHTg3 := HT.ne eg3
    replace kt := G.has kt
    replace kg1 := G.has kg1
    replace kg2 := G.has kg2
    replace HT := HT.gro G
    replace GG := GG.tg G
    clear G
    clear eg3
    refine nr ?_; intro U h; simp only [z0, z1] at h; subst h
    refine s_store rfl rfl 39 _ _ rfl g3 0 rfl (.agg (enA (getV L p))) rfl 39 _ kg3 (enA (getV L p)) rfl (si33' _) (enA_fit _ _) (enA_one _) (enA (getV L p)) (splice_whole _ _ (enA_sz _ _)) ?_
    intro w5 St
    have kS := kg3
    replace kt := St.has (by omega) kt
    replace kg1 := St.has (by omega) kg1
    replace kg2 := St.has (by omega) kg2
    replace HT := HT.st St dHTg3
    replace GG := GG.st St (.inl bg3)
    replace kg3 := St.new
    clear St
    refine s_val 7 rfl rfl (.bool false) (rfl) ?_
    refine nr ?_; intro U h; simp only [z0, z1] at h; subst h
    refine wpList_nil ?_
    refine then_n ?_
    refine wp_seq ?_
    refine wp_seq ?_
    refine wp_region_lit ?_
    refine s_val 14 rfl rfl (.bool false) (rfl) ?_
    refine nr ?_; intro U h; simp only [z0, z1] at h; subst h
    refine wpList_nil ?_
    refine then_n ?_
    refine wp_cond_false rfl ?_
    refine wp_skip ?_
    refine then_n ?_
    refine wp_seq ?_
    refine wp_region_lit ?_
    refine s_val 20 rfl rfl (.agg (enA (getV L p))) (ldE0 _ rfl g3 rfl (kg3)) ?_
    refine nr ?_; intro U h; simp only [z0, z1] at h; subst h
    refine s_val 21 rfl rfl (.bool false) (rfl) ?_
    refine nr ?_; intro U h; simp only [z0, z1] at h; subst h
    refine s_store rfl rfl 39 _ _ rfl g2 0 rfl (.agg (enA (getV L p))) rfl 39 _ kg2 (enA (getV L p)) rfl (si33' _) (enA_fit _ _) (enA_one _) (enA (getV L p)) (splice_whole _ _ (enA_sz _ _)) ?_
    intro w6 St
    have kS := kg2
    replace kt := St.has (by omega) kt
    replace kg1 := St.has (by omega) kg1
    replace kg3 := St.has (by omega) kg3
    replace HT := HT.st St dHTg2
    replace GG := GG.st St (.inl bg2)
    replace kg2 := St.new
    clear St
    refine s_val 5 rfl rfl (.bool false) (rfl) ?_
    refine nr ?_; intro U h; simp only [z0, z1] at h; subst h
    refine wpList_nil ?_
    refine then_n ?_
    refine wp_ret ?_
    refine bodyPost_ret (results_cell_tmp Try.results21 _ _ g2 39 _ (0, 0) _ rfl (.bool false) rfl kg2 Try.underlying39 rfl (si33' _)) rfl ?_
    exact ⟨by rw [(Bool.eq_false_iff.2 (of_decide_eq_false hh))], by rw [delL_no (hasL_no (Bool.eq_false_iff.2 (of_decide_eq_false hh)))]; exact HT, GG⟩
  · refine wp_region_lit ?_
    refine s_val 9 rfl rfl (.pointer (some ⟨t, 0, none⟩)) (rfl) ?_
    refine nr ?_; intro U h; simp only [z0, z1] at h; subst h
    refine s_val 10 rfl rfl (.agg (paA p)) (ldP0 _ rfl g1 rfl (kg1)) ?_
    refine nr ?_; intro U h; simp only [z0, z1] at h; subst h
    refine s_callv 11 rfl rfl _ 7 Try.call7 rfl rfl _ rfl [.pointer (some ⟨t, 0, none⟩), .agg (paA p)] rfl (Calls.valV (get_any _ t b room L kt HT p hp) (by rw [(of_decide_eq_true hh)])) ?_
    intro w3 G
    replace kt := G.has kt
    replace kg1 := G.has kg1
    replace kg2 := G.has kg2
    replace HT := HT.gro G
    replace GG := GG.tg G
    clear G
    refine nr ?_; intro U h; simp only [z0, z1] at h; subst h
    refine s_val 8 rfl rfl (.tuple #[.agg (enA (getV L p)), .bool true]) (rfl) ?_
    refine nr ?_; intro U h; simp only [z0, z1] at h; subst h
    refine s_val 12 rfl rfl (.agg (enA (getV L p))) (rfl) ?_
    refine nr ?_; intro U h; simp only [z0, z1] at h; subst h
    refine s_val 13 rfl rfl (.bool true) (rfl) ?_
    refine nr ?_; intro U h; simp only [z0, z1] at h; subst h
    refine s_alloc 6 rfl rfl 39 rfl _ zero33 (enA zE) rfl ?_
    intro w4 g3 G eg3 kg3
    have bg3 := size_basS GG eg3
    have dtg3 := lt_new kt eg3
    have dg1g3 := lt_new kg1 eg3
    have dg2g3 := lt_new kg2 eg3
    have dHTg3 := HT.ne eg3
    replace kt := G.has kt
    replace kg1 := G.has kg1
    replace kg2 := G.has kg2
    replace HT := HT.gro G
    replace GG := GG.tg G
    clear G
    clear eg3
    refine nr ?_; intro U h; simp only [z0, z1] at h; subst h
    refine s_store rfl rfl 39 _ _ rfl g3 0 rfl (.agg (enA (getV L p))) rfl 39 _ kg3 (enA (getV L p)) rfl (si33' _) (enA_fit _ _) (enA_one _) (enA (getV L p)) (splice_whole _ _ (enA_sz _ _)) ?_
    intro w5 St
    have kS := kg3
    replace kt := St.has (by omega) kt
    replace kg1 := St.has (by omega) kg1
    replace kg2 := St.has (by omega) kg2
    replace HT := HT.st St dHTg3
    replace GG := GG.st St (.inl bg3)
    replace kg3 := St.new
    clear St
    refine s_val 7 rfl rfl (.bool true) (rfl) ?_
    refine nr ?_; intro U h; simp only [z0, z1] at h; subst h
    refine wpList_nil ?_
    refine then_n ?_
    refine wp_seq ?_
    refine wp_seq ?_
    refine wp_region_lit ?_
    refine s_val 14 rfl rfl (.bool true) (rfl) ?_
    refine nr ?_; intro U h; simp only [z0, z1] at h; subst h
    refine wpList_nil ?_
    refine then_n ?_
    refine wp_cond_true rfl ?_
    refine wp_region_exA (A := ?Ax4) 5 [(0, 15), (1, 16), (2, 17), (3, 18), (4, 19)] [.val (.pointer (some ⟨t, 0, none⟩)), .val (.pointer (some ⟨t, 0, none⟩)), .val (.pointer (some ⟨t, 1, none⟩)), .val (.map (some b)), .val (.agg (paA p))] follows (by kernel_rfl) rfl ?hAx4 (opsA_cons ?o0x4 (opsA_cons ?o1x4 (opsA_cons ?o2x4 (opsA_cons ?o3x4 (opsA_cons ?o4x4 opsA_nil))))) ?restx4
    case hAx4 =>
      intro ptrs
      simp only [full, foldSlots, filledE, postE, List.foldl_cons, List.foldl_nil, List.getD_cons_zero, List.getD_cons_succ, fill_val, List.set_cons_zero, List.set_cons_succ]
      exact rfl
    case o0x4 => exact fun _ _ _ _ => opE_move (v := .pointer (some ⟨t, 0, none⟩)) _ rfl rfl rfl
    case o1x4 => exact fun _ _ _ _ => opE_value (v := .pointer (some ⟨t, 0, none⟩)) rfl (run_nc _ rfl _ rfl)
    case o2x4 => exact fun _ _ _ _ => opE_value (v := .pointer (some ⟨t, 1, none⟩)) rfl (run_fld 69 _ 1 rfl t 0 rfl 1 (by kernel_rfl))
    case o3x4 => exact fun _ _ hw _ => opE_value (v := .map (some b)) rfl (ldTm _ rfl t rfl (hw.has kt))
    case o4x4 => exact fun _ _ hw _ => opE_value (v := .agg (paA p)) rfl (ldP0 _ rfl g1 rfl (hw.has kg1))
    intro ptrs w6 GD hxE
    simp only [List.drop_succ_cons, List.drop_zero]
    replace kt := GD.has kt
    replace kg1 := GD.has kg1
    replace kg2 := GD.has kg2
    replace kg3 := GD.has kg3
    replace HT := HT.gro ((Gro.refl _).drew.trans GD)
    replace GG := GG.drew.tg GD
    clear GD
    refine s_delE rfl rfl _ _ rfl HT rfl p rfl hp (of_decide_eq_true hh) ?_
    intro w7 HT2 G2
    replace kt := G2.has kt (by simpa using HT.nec kt)
    replace kg1 := G2.has kg1 (by simpa using HT.nec kg1)
    replace kg2 := G2.has kg2 (by simpa using HT.nec kg2)
    replace kg3 := G2.has kg3 (by simpa using HT.nec kg3)
    clear HT
    have HT := HT2
    clear HT2
    replace GG := GG.trans G2
    clear G2
    refine wpList_nil ?_
    refine then_n ?_
    refine wp_seq ?_
    refine wp_region_lit ?_
    refine s_val 20 rfl rfl (.agg (enA (getV L p))) (ldE0 _ rfl g3 rfl (kg3)) ?_
    refine nr ?_; intro U h; simp only [z0, z1] at h; subst h
    refine s_val 21 rfl rfl (.bool true) (rfl) ?_
    refine nr ?_; intro U h; simp only [z0, z1] at h; subst h
    refine s_store rfl rfl 39 _ _ rfl g2 0 rfl (.agg (enA (getV L p))) rfl 39 _ kg2 (enA (getV L p)) rfl (si33' _) (enA_fit _ _) (enA_one _) (enA (getV L p)) (splice_whole _ _ (enA_sz _ _)) ?_
    intro w8 St
    have kS := kg2
    replace kt := St.has (by omega) kt
    replace kg1 := St.has (by omega) kg1
    replace kg3 := St.has (by omega) kg3
    replace HT := HT.st St dHTg2
    replace GG := GG.st St (.inl bg2)
    replace kg2 := St.new
    clear St
    refine s_val 5 rfl rfl (.bool true) (rfl) ?_
    refine nr ?_; intro U h; simp only [z0, z1] at h; subst h
    refine wpList_nil ?_
    refine then_n ?_
    refine wp_ret ?_
    refine bodyPost_ret (results_cell_tmp Try.results21 _ _ g2 39 _ (0, 0) _ rfl (.bool true) rfl kg2 Try.underlying39 rfl (si33' _)) rfl ?_
    exact ⟨by rw [(of_decide_eq_true hh)], HT, GG⟩
end Go.Proofs.Ytmpnepbmpmkmkab
