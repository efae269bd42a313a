/- Lists of a table: those that are asked for, by their keys. -/
import Derived.Test.YtmpnepbmpmkmkabBP10
namespace Go.Proofs.Ytmpnepbmpmkmkab
open Go.RowKit Go.Maps
def SZ (n : Nat) (w : World) : Prop := n ≤ w.heap.size
section
variable {w w' : World} {b r g n : Nat} {L S : List En}
theorem SZ.gro (h : SZ n w) (G : Gro w w') : SZ n w' := Nat.le_trans h G.size
theorem SZ.le (h : SZ n w) (e : w.heap.size ≤ w'.heap.size) : SZ n w' := Nat.le_trans h e
theorem SZ.ne (_ : SZ n w) (_ : w.heap.size = g) : True := trivial
theorem SZ.st {x : Obj} (h : SZ n w) (St : Stored w w' g x) (_ : True) : SZ n w' := Nat.le_trans h (Nat.le_of_eq St.size.symm)
theorem RgM.ne (h : RgM w b r L S) (e : w.heap.size = g) : b ≠ g ∧ r ≠ g := by
  have h1 := h.tm.lt
  have h2 := h.lt
  omega
theorem RgM.stp {x : Obj} (h : RgM w b r L S) (St : Stored w w' g x) (hn : b ≠ g ∧ r ≠ g) : RgM w' b r L S := h.st St hn.1 hn.2
variable {ops : Array Oper} {rest : List Oper} {o : Oper} {T : List Value} {ds : List Deferred} {Q : Exit → Act → World → Prop}
theorem s_rangeE (dst : Nat) (hd : o.dst = some dst) (hgd : o.guard = none) (m : Operand) (ho : o.op = .range 67 m) (h : TM w b L) (hm : (⟨T.toArray, ds⟩ : Act).eval m = .map (some b))
    (hk : ∀ w' r, RgM w' b r L [] → Gro w w' → w.heap.size = r → w'.heap.size = r + 1 → wpList Try.prog ops Q rest ⟨(T.set dst (.pointer (some ⟨r, 0, none⟩))).toArray, ds⟩ w') : wpList Try.prog ops Q (o :: rest) ⟨T.toArray, ds⟩ w := by
  refine wpList_plain hgd fun _ hK => ?_
  have h' : ∃ w', (Instr.range 67 (.map (some b))).run Try.prog w = .ok (.pointer (some ⟨w.heap.size, 0, none⟩)) w' ∧ RgM w' b w.heap.size L [] ∧ Gro w w' ∧ w'.heap.size = w.heap.size + 1 := ⟨_, h.range.1, h.range.2, gro_alloc _ _, by simp⟩
  obtain ⟨w', hr, h1, h2, h3⟩ := h'
  have he : (execOp (Act.eval ⟨T.toArray, ds⟩) o).run Try.prog w = .ok (.value (.pointer (some ⟨w.heap.size, 0, none⟩))) w' := by
    unfold execOp
    simp only [ho, hm, Sem.run_bind, hr, Result.andThen_ok, Sem.run_pure]
  unfold Oper.wp
  rw [he, Oper.upon_value, hd, put_list]
  exact hK _ _ (hk _ _ h1 h2 rfl h3)
theorem s_nextE (dst : Nat) (hd : o.dst = some dst) (hgd : o.guard = none) (it : Operand) (ho : o.op = .next it false) (h : RgM w b r L S) (hi : (⟨T.toArray, ds⟩ : Act).eval it = .pointer (some ⟨r, 0, none⟩))
    (h0 : S.Perm L → wpList Try.prog ops Q rest ⟨(T.set dst (.tuple #[.bool false])).toArray, ds⟩ w)
    (h1 : ∀ x w', x ∈ L → RgM w' b r L (S ++ [x]) → GroS [r] w w' → (Instr.entry (.pointer (some ⟨r, 0, none⟩))).run Try.prog w' = .ok (.tuple #[.agg (paA x.p), .agg (enA x)]) w' → wpList Try.prog ops Q rest ⟨(T.set dst (.tuple #[.bool true, .agg (paA x.p), .agg (enA x)])).toArray, ds⟩ w') : wpList Try.prog ops Q (o :: rest) ⟨T.toArray, ds⟩ w := by
  refine wpList_plain hgd fun _ hK => ?_
  unfold Oper.wp
  rcases h.next o.type with ⟨hp, hr⟩ | ⟨x, w', hx, hr, h2, h3, h4⟩
  · have he : (execOp (Act.eval ⟨T.toArray, ds⟩) o).run Try.prog w = .ok (.value (.tuple #[.bool false])) w := by
      unfold execOp
      simp only [ho, hi, Sem.run_bind, hr, Result.andThen_ok, Sem.run_pure]
    rw [he, Oper.upon_value, hd, put_list]
    exact hK _ _ (h0 hp)
  · have he : (execOp (Act.eval ⟨T.toArray, ds⟩) o).run Try.prog w = .ok (.value (.tuple #[.bool true, .agg (paA x.p), .agg (enA x)])) w' := by
      unfold execOp
      simp only [ho, hi, Sem.run_bind, hr, Result.andThen_ok, Sem.run_pure]
    rw [he, Oper.upon_value, hd, put_list]
    exact hK _ _ (h1 x w' hx h2 h3 h4)
theorem run_entE {A : Act} {v : Value} (it : Operand) (ho : o.op = .entry it) (p : Value) (hi : A.eval it = p) (h : (Instr.entry p).run Try.prog w = .ok v w) : (execOp A.eval o).run Try.prog w = .ok (.value v) w := by
  unfold execOp
  simp only [ho, hi, Sem.run_bind, h, Result.andThen_ok, Sem.run_pure]
end
theorem fil_step (F : En → Bool) (S : List En) (x : En) : (S ++ [x]).filter F = S.filter F ++ if F x = true then [x] else [] := by
  rw [List.filter_append]
  congr 1
  cases h : F x <;> simp [h]
set_option maxRecDepth 100000 in
set_option maxHeartbeats 4000000 in
theorem via_c (x : En) (n : Int) (h : Nat) (_hx : x.ok) (w : World) (kh : w.heap[h]? = some (.cells #[.int .i64 n] 3 (0, 0))) : Calls Try.prog 20 #[.agg (enA x), .pointer (some ⟨h, 0, none⟩)] w (fun e w' => e = .returned (.bool (viaF n x)) ∧ Gro w w') := by
  refine s_enter Try.func20 rfl Try.ntmps20 [.agg (enA x), .pointer (some ⟨h, 0, none⟩)] [.agg (enA x), .pointer (some ⟨h, 0, none⟩), undef, undef, undef, undef, undef, undef, undef, undef, undef, undef, undef, undef, undef, undef, undef, undef] rfl ?_
  have GG := Gro.refl w
  refine wp_seq ?_
  refine wp_region_lit ?_
  refine s_box 2 rfl rfl 39 _ rfl _ rfl (enA x) rfl ?_
  intro w1 g1 G eg1 kg1
  have bg1 := size_base GG eg1
  have dhg1 := lt_new kh eg1
  replace kh := G.has kh
  replace GG := GG.trans G
  clear G
  clear eg1
  refine nr ?_; intro U h; simp only [z0, z1] at h; subst h
  refine s_val 3 rfl rfl (.bool false) (rfl) ?_
  refine nr ?_; intro U h; simp only [z0, z1] at h; subst h
  refine wpList_nil ?_
  refine then_n ?_
  refine wp_seq ?_
  cases h1 : decide (0 ≤ n)
  · refine wp_region_opq ?_
    intro OPS hY
    have y2 := hY 2 6 rfl
    have y7 := hY 7 11 rfl
    clear hY
    refine s_val 4 rfl rfl (.int .i64 n) (ldN0 _ rfl h rfl (kh)) ?_
    refine nr ?_; intro U h; simp only [z0, z1] at h; subst h
    refine s_val 5 rfl rfl (.bool false) (run_geqT 3 _ _ _ rfl n 0 rfl rfl false h1 _) ?_
    refine nr ?_; intro U h; simp only [z0, z1] at h; subst h
    refine s_val 6 rfl rfl (.bool false) (rfl) ?_
    refine nr ?_; intro U h; simp only [z0, z1] at h; subst h
    refine s_skipY 7 rfl rfl y2 rfl ?_
    refine nr ?_; intro U h; simp only [z0, z1] at h; subst h
    refine s_skipY 8 rfl rfl y2 rfl ?_
    refine nr ?_; intro U h; simp only [z0, z1] at h; subst h
    refine s_skipY 9 rfl rfl y2 rfl ?_
    refine nr ?_; intro U h; simp only [z0, z1] at h; subst h
    refine s_skipY 10 rfl rfl y2 rfl ?_
    refine nr ?_; intro U h; simp only [z0, z1] at h; subst h
    refine s_skipY 11 rfl rfl y2 rfl ?_
    refine nr ?_; intro U h; simp only [z0, z1] at h; subst h
    refine s_skipY 12 rfl rfl y7 rfl ?_
    refine nr ?_; intro U h; simp only [z0, z1] at h; subst h
    refine s_skipY 13 rfl rfl y7 rfl ?_
    refine nr ?_; intro U h; simp only [z0, z1] at h; subst h
    refine s_skipY 14 rfl rfl y7 rfl ?_
    refine nr ?_; intro U h; simp only [z0, z1] at h; subst h
    refine s_skipY 15 rfl rfl y7 rfl ?_
    refine nr ?_; intro U h; simp only [z0, z1] at h; subst h
    refine s_skipY 16 rfl rfl y2 rfl ?_
    refine nr ?_; intro U h; simp only [z0, z1] at h; subst h
    refine s_val 17 rfl rfl (.bool false) (rfl) ?_
    refine nr ?_; intro U h; simp only [z0, z1] at h; subst h
    refine s_val 3 rfl rfl (.bool false) (rfl) ?_
    refine nr ?_; intro U h; simp only [z0, z1] at h; subst h
    refine wpList_nil ?_
    refine then_n ?_
    refine wp_ret ?_
    refine bodyPost_ret (results_tmp Try.results20 _ _ _) rfl ?_
    exact ⟨congrArg (fun b => Ending.returned (.bool b)) (by unfold viaF; rw [h1]; rfl), GG⟩
  · cases h2 : decide (x.na = n)
    · cases h3 : decide (x.nb = n)
      · refine wp_region_opq ?_
        intro OPS hY
        have y2 := hY 2 6 rfl
        have y7 := hY 7 11 rfl
        clear hY
        refine s_val 4 rfl rfl (.int .i64 n) (ldN0 _ rfl h rfl (kh)) ?_
        refine nr ?_; intro U h; simp only [z0, z1] at h; subst h
        refine s_val 5 rfl rfl (.bool true) (run_geqT 3 _ _ _ rfl n 0 rfl rfl true h1 _) ?_
        refine nr ?_; intro U h; simp only [z0, z1] at h; subst h
        refine s_val 6 rfl rfl (.bool true) (rfl) ?_
        refine nr ?_; intro U h; simp only [z0, z1] at h; subst h
        refine s_gvalY 7 rfl rfl y2 rfl (.pointer (some ⟨g1, 49, none⟩)) (run_fld 39 _ 3 rfl g1 0 rfl 49 (by kernel_rfl)) ?_
        refine nr ?_; intro U h; simp only [z0, z1] at h; subst h
        refine s_gvalY 8 rfl rfl y2 rfl (.int .i64 x.na) (ldEna _ rfl g1 rfl (kg1)) ?_
        refine nr ?_; intro U h; simp only [z0, z1] at h; subst h
        refine s_gvalY 9 rfl rfl y2 rfl (.int .i64 n) (ldN0 _ rfl h rfl (kh)) ?_
        refine nr ?_; intro U h; simp only [z0, z1] at h; subst h
        refine s_gvalY 10 rfl rfl y2 rfl (.bool false) (run_eq_k 3 .i64 _ _ _ rfl Try.underlying3 x.na n rfl rfl false h2 _) ?_
        refine nr ?_; intro U h; simp only [z0, z1] at h; subst h
        refine s_gvalY 11 rfl rfl y2 rfl (.bool false) (rfl) ?_
        refine nr ?_; intro U h; simp only [z0, z1] at h; subst h
        refine s_gvalY 12 rfl rfl y7 rfl (.pointer (some ⟨g1, 50, none⟩)) (run_fld 39 _ 4 rfl g1 0 rfl 50 (by kernel_rfl)) ?_
        refine nr ?_; intro U h; simp only [z0, z1] at h; subst h
        refine s_gvalY 13 rfl rfl y7 rfl (.int .i64 x.nb) (ldEnb _ rfl g1 rfl (kg1)) ?_
        refine nr ?_; intro U h; simp only [z0, z1] at h; subst h
        refine s_gvalY 14 rfl rfl y7 rfl (.int .i64 n) (ldN0 _ rfl h rfl (kh)) ?_
        refine nr ?_; intro U h; simp only [z0, z1] at h; subst h
        refine s_gvalY 15 rfl rfl y7 rfl (.bool false) (run_eq_k 3 .i64 _ _ _ rfl Try.underlying3 x.nb n rfl rfl false h3 _) ?_
        refine nr ?_; intro U h; simp only [z0, z1] at h; subst h
        refine s_gvalY 16 rfl rfl y2 rfl (.bool false) (rfl) ?_
        refine nr ?_; intro U h; simp only [z0, z1] at h; subst h
        refine s_val 17 rfl rfl (.bool false) (rfl) ?_
        refine nr ?_; intro U h; simp only [z0, z1] at h; subst h
        refine s_val 3 rfl rfl (.bool false) (rfl) ?_
        refine nr ?_; intro U h; simp only [z0, z1] at h; subst h
        refine wpList_nil ?_
        refine then_n ?_
        refine wp_ret ?_
        refine bodyPost_ret (results_tmp Try.results20 _ _ _) rfl ?_
        exact ⟨congrArg (fun b => Ending.returned (.bool b)) (by unfold viaF; rw [h1, h2, h3]; rfl), GG⟩
      · refine wp_region_opq ?_
        intro OPS hY
        have y2 := hY 2 6 rfl
        have y7 := hY 7 11 rfl
        clear hY
        refine s_val 4 rfl rfl (.int .i64 n) (ldN0 _ rfl h rfl (kh)) ?_
        refine nr ?_; intro U h; simp only [z0, z1] at h; subst h
        refine s_val 5 rfl rfl (.bool true) (run_geqT 3 _ _ _ rfl n 0 rfl rfl true h1 _) ?_
        refine nr ?_; intro U h; simp only [z0, z1] at h; subst h
        refine s_val 6 rfl rfl (.bool true) (rfl) ?_
        refine nr ?_; intro U h; simp only [z0, z1] at h; subst h
        refine s_gvalY 7 rfl rfl y2 rfl (.pointer (some ⟨g1, 49, none⟩)) (run_fld 39 _ 3 rfl g1 0 rfl 49 (by kernel_rfl)) ?_
        refine nr ?_; intro U h; simp only [z0, z1] at h; subst h
        refine s_gvalY 8 rfl rfl y2 rfl (.int .i64 x.na) (ldEna _ rfl g1 rfl (kg1)) ?_
        refine nr ?_; intro U h; simp only [z0, z1] at h; subst h
        refine s_gvalY 9 rfl rfl y2 rfl (.int .i64 n) (ldN0 _ rfl h rfl (kh)) ?_
        refine nr ?_; intro U h; simp only [z0, z1] at h; subst h
        refine s_gvalY 10 rfl rfl y2 rfl (.bool false) (run_eq_k 3 .i64 _ _ _ rfl Try.underlying3 x.na n rfl rfl false h2 _) ?_
        refine nr ?_; intro U h; simp only [z0, z1] at h; subst h
        refine s_gvalY 11 rfl rfl y2 rfl (.bool false) (rfl) ?_
        refine nr ?_; intro U h; simp only [z0, z1] at h; subst h
        refine s_gvalY 12 rfl rfl y7 rfl (.pointer (some ⟨g1, 50, none⟩)) (run_fld 39 _ 4 rfl g1 0 rfl 50 (by kernel_rfl)) ?_
        refine nr ?_; intro U h; simp only [z0, z1] at h; subst h
        refine s_gvalY 13 rfl rfl y7 rfl (.int .i64 x.nb) (ldEnb _ rfl g1 rfl (kg1)) ?_
        refine nr ?_; intro U h; simp only [z0, z1] at h; subst h
        refine s_gvalY 14 rfl rfl y7 rfl (.int .i64 n) (ldN0 _ rfl h rfl (kh)) ?_
        refine nr ?_; intro U h; simp only [z0, z1] at h; subst h
        refine s_gvalY 15 rfl rfl y7 rfl (.bool true) (run_eq_k 3 .i64 _ _ _ rfl Try.underlying3 x.nb n rfl rfl true h3 _) ?_
        refine nr ?_; intro U h; simp only [z0, z1] at h; subst h
        refine s_gvalY 16 rfl rfl y2 rfl (.bool true) (rfl) ?_
        refine nr ?_; intro U h; simp only [z0, z1] at h; subst h
        refine s_val 17 rfl rfl (.bool true) (rfl) ?_
        refine nr ?_; intro U h; simp only [z0, z1] at h; subst h
        refine s_val 3 rfl rfl (.bool true) (rfl) ?_
        refine nr ?_; intro U h; simp only [z0, z1] at h; subst h
        refine wpList_nil ?_
        refine then_n ?_
        refine wp_ret ?_
        refine bodyPost_ret (results_tmp Try.results20 _ _ _) rfl ?_
        exact ⟨congrArg (fun b => Ending.returned (.bool b)) (by unfold viaF; rw [h1, h2, h3]; rfl), GG⟩
    · refine wp_region_opq ?_
      intro OPS hY
      have y2 := hY 2 6 rfl
      have y7 := hY 7 11 rfl
      clear hY
      refine s_val 4 rfl rfl (.int .i64 n) (ldN0 _ rfl h rfl (kh)) ?_
      refine nr ?_; intro U h; simp only [z0, z1] at h; subst h
      refine s_val 5 rfl rfl (.bool true) (run_geqT 3 _ _ _ rfl n 0 rfl rfl true h1 _) ?_
      refine nr ?_; intro U h; simp only [z0, z1] at h; subst h
      refine s_val 6 rfl rfl (.bool true) (rfl) ?_
      refine nr ?_; intro U h; simp only [z0, z1] at h; subst h
      refine s_gvalY 7 rfl rfl y2 rfl (.pointer (some ⟨g1, 49, none⟩)) (run_fld 39 _ 3 rfl g1 0 rfl 49 (by kernel_rfl)) ?_
      refine nr ?_; intro U h; simp only [z0, z1] at h; subst h
      refine s_gvalY 8 rfl rfl y2 rfl (.int .i64 x.na) (ldEna _ rfl g1 rfl (kg1)) ?_
      refine nr ?_; intro U h; simp only [z0, z1] at h; subst h
      refine s_gvalY 9 rfl rfl y2 rfl (.int .i64 n) (ldN0 _ rfl h rfl (kh)) ?_
      refine nr ?_; intro U h; simp only [z0, z1] at h; subst h
      refine s_gvalY 10 rfl rfl y2 rfl (.bool true) (run_eq_k 3 .i64 _ _ _ rfl Try.underlying3 x.na n rfl rfl true h2 _) ?_
      refine nr ?_; intro U h; simp only [z0, z1] at h; subst h
      refine s_gvalY 11 rfl rfl y2 rfl (.bool true) (rfl) ?_
      refine nr ?_; intro U h; simp only [z0, z1] at h; subst h
      refine s_skipY 12 rfl rfl y7 rfl ?_
      refine nr ?_; intro U h; simp only [z0, z1] at h; subst h
      refine s_skipY 13 rfl rfl y7 rfl ?_
      refine nr ?_; intro U h; simp only [z0, z1] at h; subst h
      refine s_skipY 14 rfl rfl y7 rfl ?_
      refine nr ?_; intro U h; simp only [z0, z1] at h; subst h
      refine s_skipY 15 rfl rfl y7 rfl ?_
      refine nr ?_; intro U h; simp only [z0, z1] at h; subst h
      refine s_gvalY 16 rfl rfl y2 rfl (.bool true) (rfl) ?_
      refine nr ?_; intro U h; simp only [z0, z1] at h; subst h
      refine s_val 17 rfl rfl (.bool true) (rfl) ?_
      refine nr ?_; intro U h; simp only [z0, z1] at h; subst h
      refine s_val 3 rfl rfl (.bool true) (rfl) ?_
      refine nr ?_; intro U h; simp only [z0, z1] at h; subst h
      refine wpList_nil ?_
      refine then_n ?_
      refine wp_ret ?_
      refine bodyPost_ret (results_tmp Try.results20 _ _ _) rfl ?_
      exact ⟨congrArg (fun b => Ending.returned (.bool b)) (by unfold viaF; rw [h1, h2]; rfl), GG⟩
set_option maxRecDepth 100000 in
set_option maxHeartbeats 4000000 in
theorem those_any (w : World) (t b room : Nat) (L : List En) (kt : w.heap[t]? = some (.cells (tbA room b) 69 (0, 0))) (HT : TM w b L) (f : Nat) (cb : Array Value) (F : En → Bool) (hen0 : ∀ args w, (callFunc f args).run Try.prog w = .ok (.enter f args) w) (hF : ∀ y, Gro w y → ∀ x, x.ok → Calls Try.prog f (#[.agg (enA x)] ++ cb) y fun e w' => e = .returned (.bool (F x)) ∧ Gro y w') (hris : Ris L) (hlen : L.length ≤ 1000) : Calls Try.prog 19 #[.pointer (some ⟨t, 0, none⟩), .func (.func f) #[] cb] w (RowP w (L.filter F)) := by
  refine s_enter Try.func19 rfl Try.ntmps19 [.pointer (some ⟨t, 0, none⟩), .func (.func f) #[] cb] [.pointer (some ⟨t, 0, none⟩), .func (.func f) #[] cb, undef, undef, undef, undef, undef, undef, undef, undef, undef, undef, undef, undef, undef, undef, undef, undef, undef, undef, undef, undef, undef, undef, undef, undef, undef, undef, undef] rfl ?_
  have GG := Gro.refl w
  have hall := HT.all
  refine wp_seq ?_
  refine wp_region_lit ?_
  refine s_val 4 rfl rfl (.slice none 0 0) (rfl) ?_
  refine nr ?_; intro U h; simp only [z0, z1] at h; subst h
  refine wpList_nil ?_
  refine then_n ?_
  refine wp_seq ?_
  refine wp_seq ?_
  refine wp_region_lit ?_
  refine s_val 8 rfl rfl (.pointer (some ⟨t, 0, none⟩)) (rfl) ?_
  refine nr ?_; intro U h; simp only [z0, z1] at h; subst h
  refine s_val 9 rfl rfl (.bool false) (run_eqnp 37 _ _ _ rfl _ rfl rfl Try.underlying37 _) ?_
  refine nr ?_; intro U h; simp only [z0, z1] at h; subst h
  refine wpList_nil ?_
  refine then_n ?_
  refine wp_cond_false rfl ?_
  refine wp_skip ?_
  refine then_n ?_
  refine wp_seq ?_
  refine wp_region_lit ?_
  refine s_val 5 rfl rfl (.slice none 0 0) (rfl) ?_
  refine nr ?_; intro U h; simp only [z0, z1] at h; subst h
  refine wpList_nil ?_
  refine then_n ?_
  refine wp_seq ?_
  refine wp_seq ?_
  refine wp_region_lit ?_
  refine s_val 10 rfl rfl (.pointer (some ⟨t, 0, none⟩)) (rfl) ?_
  refine nr ?_; intro U h; simp only [z0, z1] at h; subst h
  refine s_val 11 rfl rfl (.pointer (some ⟨t, 0, none⟩)) (run_nc _ rfl _ rfl) ?_
  refine nr ?_; intro U h; simp only [z0, z1] at h; subst h
  refine s_val 12 rfl rfl (.pointer (some ⟨t, 1, none⟩)) (run_fld 69 _ 1 rfl t 0 rfl 1 (by kernel_rfl)) ?_
  refine nr ?_; intro U h; simp only [z0, z1] at h; subst h
  refine s_val 13 rfl rfl (.map (some b)) (ldTm _ rfl t rfl (kt)) ?_
  refine nr ?_; intro U h; simp only [z0, z1] at h; subst h
  refine s_rangeE 14 rfl rfl _ rfl HT rfl ?_
  intro w1 r RG G er hsz
  have hbr : b < r := by rw [← er]; exact HT.lt
  have hwr : w.heap.size ≤ r := by rw [← er]; exact GG.size
  replace GG := GG.trans G
  have HZ : SZ (r + 1) w1 := Nat.le_of_eq hsz.symm
  clear kt HT G er hsz
  refine nr ?_; intro U h; simp only [z0, z1] at h; subst h
  refine wpList_nil ?_
  refine then_n ?_
  refine wp_block ?_
  refine wp_loopN (fun mz az wv => ∃ (S : List En) (ao : Option Addr) (cap : Nat) (l2 : List En) (us1 : Nat → Value), mz = L.length + 1 - S.length ∧ az = ⟨[.pointer (some ⟨t, 0, none⟩), .func (.func f) #[] cb, undef, undef, .slice none 0 0, .slice ao l2.length cap, undef, us1 0, .pointer (some ⟨t, 0, none⟩), .bool false, .pointer (some ⟨t, 0, none⟩), .pointer (some ⟨t, 0, none⟩), .pointer (some ⟨t, 1, none⟩), .map (some b), .pointer (some ⟨r, 0, none⟩), us1 1, us1 2, us1 3, us1 4, us1 5, us1 6, us1 7, us1 8, us1 9, us1 10, us1 11, undef, undef, undef].toArray, []⟩ ∧ Gro w wv ∧ RgM wv b r L S ∧ SZ (r + 1) wv ∧ OE wv (r + 1) ao cap l2 ∧ l2 = S.filter F) ?_ _ ⟨[], none, 0, [], (fun kz => ([undef, undef, undef, undef, undef, undef, undef, undef, undef, undef, undef, undef] : List Value).getD kz undef), rfl, rfl, GG, RG, HZ, OE.nil _ _, rfl⟩
  clear GG RG HZ
  rintro mz az wv ⟨S, ao, cap, l2, us1, rfl, rfl, GG, RG, HZ, HO, hl2⟩
  refine wp_seq ?_
  refine wp_region_lit ?_
  refine s_nextE 15 rfl rfl _ rfl RG rfl ?_ ?_
  · intro hp
    refine nr ?_; intro U h; simp only [z0, z1] at h; subst h
    refine s_val 16 rfl rfl (.bool false) (rfl) ?_
    refine nr ?_; intro U h; simp only [z0, z1] at h; subst h
    refine wpList_nil ?_
    refine then_n ?_
    refine wp_seq ?_
    refine wp_cond_false rfl ?_
    refine wp_exit ?_
    refine then_x ?_
    refine then_x ?_
    refine blk_x ?_
    refine then_n ?_
    refine wp_seq ?_
    refine wp_region_lit ?_
    refine s_val 26 rfl rfl (.slice ao l2.length cap) (rfl) ?_
    refine nr ?_; intro U h; simp only [z0, z1] at h; subst h
    have hkn : KN l2 := by rw [hl2]; exact (hris.fil F).kn.perm (hp.symm.filter F)
    have hln : l2.length ≤ 1000000 := by have := RG.len; have e0 := List.length_filter_le F S; rw [hl2]; omega
    refine s_callx 27 rfl rfl _ 27 Try.call27 rfl rfl _ rfl [.slice ao l2.length cap, .func (.func 28) #[] #[]] rfl (sort_any _ (r + 1) ao cap l2 HO hkn hln) (by rintro _ _ ⟨he, _⟩; exact ⟨_, he⟩) ?_
    rintro v w2 ⟨he, S2, hp2, hr2, G2, HO2⟩
    cases he
    replace GG := G2.gro GG (fun k hk => by have := HO.own.base k hk; omega)
    clear G2
    refine nr ?_; intro U h; simp only [z0, z1] at h; subst h
    refine wpList_nil ?_
    refine then_n ?_
    refine wp_seq ?_
    refine wp_region_lit ?_
    refine s_val 28 rfl rfl (.slice ao l2.length cap) (rfl) ?_
    refine nr ?_; intro U h; simp only [z0, z1] at h; subst h
    refine s_val 4 rfl rfl (.slice ao l2.length cap) (rfl) ?_
    refine nr ?_; intro U h; simp only [z0, z1] at h; subst h
    refine wpList_nil ?_
    refine then_n ?_
    refine wp_ret ?_
    refine bodyPost_ret (results_tmp Try.results19 _ _ _) rfl ?_
    have e1 : S2 = L.filter F := Ris.uniq hr2 (hris.fil F) (hp2.trans (by rw [hl2]; exact hp.filter F))
    have e2 : l2.length = (L.filter F).length := by rw [← e1]; exact hp2.length_eq.symm
    rw [e1] at HO2
    exact ⟨ao, cap, by rw [e2]; rfl, GG, HO2.mono (by omega)⟩
  · intro x w2 hxL RG2 G2 hen
    clear RG
    have RG := RG2
    clear RG2
    replace HO := HO.gros G2 (fun k hk hm => by have := HO.own.base k hk; rw [List.mem_singleton] at hm; omega)
    replace HZ := HZ.le G2.size
    replace GG := G2.gro GG (by simpa using hwr)
    have hx := hall x hxL
    clear G2
    refine nr ?_; intro U h; simp only [z0, z1] at h; subst h
    refine s_val 16 rfl rfl (.bool true) (rfl) ?_
    refine nr ?_; intro U h; simp only [z0, z1] at h; subst h
    refine wpList_nil ?_
    refine then_n ?_
    refine wp_seq ?_
    refine wp_cond_true rfl ?_
    refine wp_skip ?_
    refine then_n ?_
    refine wp_block ?_
    refine wp_seq ?_
    refine wp_region_lit ?_
    refine s_val 17 rfl rfl (.tuple #[.agg (paA x.p), .agg (enA x)]) (run_entE _ rfl _ rfl hen) ?_
    refine nr ?_; intro U h; simp only [z0, z1] at h; subst h
    refine s_val 18 rfl rfl (.agg (enA x)) (rfl) ?_
    refine nr ?_; intro U h; simp only [z0, z1] at h; subst h
    refine s_alloc 7 rfl rfl 39 rfl _ zero33 (enA zE) rfl ?_
    intro w3 g1 G eg1 kg1
    have bg1 := size_base GG eg1
    have dRGg1 := RG.ne eg1
    have dHZg1 := HZ.ne eg1
    have dHOg1 := HO.ne eg1
    replace RG := RG.gro G
    replace HZ := HZ.gro G
    replace HO := HO.gro G
    replace GG := GG.trans G
    clear G
    clear eg1
    refine nr ?_; intro U h; simp only [z0, z1] at h; subst h
    refine s_store rfl rfl 39 _ _ rfl g1 0 rfl (.agg (enA x)) rfl 39 _ kg1 (enA x) rfl (si33' _) (enA_fit _ _) (enA_one _) (enA x) (splice_whole _ _ (enA_sz _ _)) ?_
    intro w4 St
    have kS := kg1
    replace RG := RG.stp St dRGg1
    replace HZ := HZ.st St dHZg1
    replace HO := HO.st St dHOg1
    replace GG := GG.store St bg1
    replace kg1 := St.new
    clear St
    refine wpList_nil ?_
    refine then_n ?_
    refine wp_seq ?_
    cases hq : decide (F x = true)
    · refine wp_region_lit ?_
      refine s_val 19 rfl rfl (.func (.func f) #[] cb) (rfl) ?_
      refine nr ?_; intro U h; simp only [z0, z1] at h; subst h
      refine s_val 20 rfl rfl (.agg (enA x)) (ldE0 _ rfl g1 rfl (kg1)) ?_
      refine nr ?_; intro U h; simp only [z0, z1] at h; subst h
      refine s_callF 21 rfl rfl _ f cb hen0 rfl _ rfl rfl _ rfl [.agg (enA x)] rfl (Calls.bool (hF _ GG x hx) (Bool.eq_false_iff.2 (of_decide_eq_false hq))) ?_
      intro w5 G
      replace kg1 := G.has kg1
      replace RG := RG.gro G
      replace HZ := HZ.gro G
      replace HO := HO.gro G
      replace GG := GG.trans G
      clear G
      refine nr ?_; intro U h; simp only [z0, z1] at h; subst h
      refine wpList_nil ?_
      refine then_n ?_
      refine wp_cond_false rfl ?_
      refine wp_skip ?_
      refine blk_n ?_
      refine then_n ?_
      exact ⟨L.length + 1 - (S ++ [x]).length, by have := RG.len; simp only [List.length_append, List.length_cons, List.length_nil] at *; omega, S ++ [x], ao, cap, l2, (fun kz => ([.pointer (some ⟨g1, 0, none⟩), .tuple #[.bool true, .agg (paA x.p), .agg (enA x)], .bool true, .tuple #[.agg (paA x.p), .agg (enA x)], .agg (enA x), .func (.func f) #[] cb, .agg (enA x), .bool false, us1 8, us1 9, us1 10, us1 11] : List Value).getD kz undef), rfl, rfl, GG, RG, HZ, HO, by rw [hl2, fil_step, if_neg (by rw [(Bool.eq_false_iff.2 (of_decide_eq_false hq))]; decide), List.append_nil]⟩
    · refine wp_region_lit ?_
      refine s_val 19 rfl rfl (.func (.func f) #[] cb) (rfl) ?_
      refine nr ?_; intro U h; simp only [z0, z1] at h; subst h
      refine s_val 20 rfl rfl (.agg (enA x)) (ldE0 _ rfl g1 rfl (kg1)) ?_
      refine nr ?_; intro U h; simp only [z0, z1] at h; subst h
      refine s_callF 21 rfl rfl _ f cb hen0 rfl _ rfl rfl _ rfl [.agg (enA x)] rfl (Calls.bool (hF _ GG x hx) (of_decide_eq_true hq)) ?_
      intro w5 G
      replace kg1 := G.has kg1
      replace RG := RG.gro G
      replace HZ := HZ.gro G
      replace HO := HO.gro G
      replace GG := GG.trans G
      clear G
      refine nr ?_; intro U h; simp only [z0, z1] at h; subst h
      refine wpList_nil ?_
      refine then_n ?_
      refine wp_cond_true rfl ?_
      refine wp_region_lit ?_
      refine s_val 22 rfl rfl (.slice ao l2.length cap) (rfl) ?_
      refine nr ?_; intro U h; simp only [z0, z1] at h; subst h
      refine s_val 23 rfl rfl (.agg (enA x)) (ldE0 _ rfl g1 rfl (kg1)) ?_
      refine nr ?_; intro U h; simp only [z0, z1] at h; subst h
      refine s_bsl 24 rfl rfl 63 1 _ rfl [(0, .agg (enA x))] rfl (flE ([x] : List En)).toArray 39 (bs1 x _) ?_
      intro w6 q1 G eq1 kq1
      have bq1 := size_base GG eq1
      replace kg1 := G.has kg1
      replace RG := RG.gro G
      replace HZ := HZ.gro G
      replace HO := HO.gro G
      replace GG := GG.trans G
      clear G
      have HR1 : RE _ (some ⟨q1, 0, none⟩) ([x] : List En).length ([x] : List En) := RE.blk kq1 (AllE.one hx) (Nat.le_refl _)
      clear eq1
      refine nr ?_; intro U h; simp only [z0, z1] at h; subst h
      refine s_appE 25 rfl rfl _ _ rfl rfl HO rfl HR1 (by have := RG.len; have e0 := List.length_filter_le F S; rw [hl2]; simp only [List.length_append, List.length_cons, List.length_nil] at *; omega) HZ ?_
      intro ao2 cap2 w7 HO2 G2 _
      have GB := HO.belowB G2 HZ
      replace RG := RG.below GB (by omega) (by omega)
      replace GG := G2.gro GG (fun k hk => by have := HO.own.base k hk; omega)
      replace HZ := HZ.le G2.size
      clear G2 GB HO
      have HO := HO2
      clear HO2
      refine nr ?_; intro U h; simp only [z0, z1] at h; subst h
      refine s_val 5 rfl rfl (.slice ao2 ((l2 ++ [x]).length) cap2) (rfl) ?_
      refine nr ?_; intro U h; simp only [z0, z1] at h; subst h
      refine wpList_nil ?_
      refine blk_n ?_
      refine then_n ?_
      exact ⟨L.length + 1 - (S ++ [x]).length, by have := RG.len; simp only [List.length_append, List.length_cons, List.length_nil] at *; omega, S ++ [x], ao2, cap2, l2 ++ [x], (fun kz => ([.pointer (some ⟨g1, 0, none⟩), .tuple #[.bool true, .agg (paA x.p), .agg (enA x)], .bool true, .tuple #[.agg (paA x.p), .agg (enA x)], .agg (enA x), .func (.func f) #[] cb, .agg (enA x), .bool true, .slice ao l2.length cap, .agg (enA x), .slice (some ⟨q1, 0, none⟩) (([x] : List En).length) (([x] : List En).length), .slice ao2 ((l2 ++ [x]).length) cap2] : List Value).getD kz undef), rfl, rfl, GG, RG, HZ, HO, by rw [hl2, fil_step, if_pos (of_decide_eq_true hq)]⟩
set_option maxRecDepth 100000 in
set_option maxHeartbeats 4000000 in
theorem via_any (w : World) (t b room : Nat) (L : List En) (kt : w.heap[t]? = some (.cells (tbA room b) 69 (0, 0))) (HT : TM w b L) (n : Int) (hris : Ris L) (hlen : L.length ≤ 1000) : Calls Try.prog 13 #[.pointer (some ⟨t, 0, none⟩), .int .i64 n] w (RowP w (L.filter (viaF n))) := by
  refine s_enter Try.func13 rfl Try.ntmps13 [.pointer (some ⟨t, 0, none⟩), .int .i64 n] [.pointer (some ⟨t, 0, none⟩), .int .i64 n, undef, undef, undef, undef, undef, undef] rfl ?_
  have GG := Gro.refl w
  refine wp_seq ?_
  refine wp_region_lit ?_
  refine s_box 3 rfl rfl 3 _ rfl _ rfl #[.int .i64 n] rfl ?_
  intro w1 g1 G eg1 kg1
  have bg1 := size_base GG eg1
  have dtg1 := lt_new kt eg1
  replace kt := G.has kt
  replace HT := HT.gro G
  replace GG := GG.trans G
  clear G
  clear eg1
  refine nr ?_; intro U h; simp only [z0, z1] at h; subst h
  refine s_val 4 rfl rfl (.slice none 0 0) (rfl) ?_
  refine nr ?_; intro U h; simp only [z0, z1] at h; subst h
  refine wpList_nil ?_
  refine then_n ?_
  refine wp_seq ?_
  refine wp_region_lit ?_
  refine s_val 5 rfl rfl (.pointer (some ⟨t, 0, none⟩)) (rfl) ?_
  refine nr ?_; intro U h; simp only [z0, z1] at h; subst h
  refine s_val 6 rfl rfl (.func (.func 20) #[] #[.pointer (some ⟨g1, 0, none⟩)]) (run_mkF 20 _ rfl _ rfl) ?_
  refine nr ?_; intro U h; simp only [z0, z1] at h; subst h
  refine s_callx 7 rfl rfl _ 19 Try.call19 rfl rfl _ rfl [.pointer (some ⟨t, 0, none⟩), .func (.func 20) #[] #[.pointer (some ⟨g1, 0, none⟩)]] rfl (those_any _ t b room L kt HT 20 #[.pointer (some ⟨g1, 0, none⟩)] (viaF n) Try.call20 (fun y G x hx => via_c x n g1 hx y (G.has kg1)) hris hlen) (by rintro _ _ ⟨_, _, he, _⟩; exact ⟨_, he⟩) ?_
  rintro v w2 ⟨ao1, cap1, he, G, HO1⟩
  cases he
  replace HO1 := HO1.mono GG.size
  replace kt := G.has kt
  replace kg1 := G.has kg1
  replace HT := HT.gro G
  replace GG := GG.trans G
  clear G
  have HR1 := HO1.re
  refine nr ?_; intro U h; simp only [z0, z1] at h; subst h
  refine s_val 4 rfl rfl (.slice ao1 ((L.filter (viaF n)).length) cap1) (rfl) ?_
  refine nr ?_; intro U h; simp only [z0, z1] at h; subst h
  refine wpList_nil ?_
  refine then_n ?_
  refine wp_ret ?_
  refine bodyPost_ret (results_tmp Try.results13 _ _ _) rfl ?_
  exact ⟨ao1, cap1, rfl, GG, HO1⟩
end Go.Proofs.Ytmpnepbmpmkmkab
