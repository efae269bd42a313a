import Derived.Test.YtgfnjekpafempaaGreatBV5
import Derived.Test.YtgfnjekpafempaaGreatBV10
import Derived.Test.YtgfnjekpafempaaGreatBV7
import Derived.Test.YtgfnjekpafempaaGreatBAb
namespace Go.Proofs.YtgfnjekpafempaaGreat
open Go.Proofs.Tryz
open Go.RowKit
def NCs (w : World) (l : List IM) : Prop := ∀ x ∈ l, NC w .u8 x.ao x.cap x.val
theorem NCs.gro {w w' : World} {l : List IM} (h : NCs w l) (G : Gro w w') : NCs w' l := fun x hx => (h x hx).gro G
section
variable {w w' : World} {g B : Nat} {l : List IM} {x : Obj}
def NCn (l : List IM) (g : Nat) : Prop := ∀ x ∈ l, NE x.ao x.val.length g
theorem NCs.ne (h : NCs w l) (e : w.heap.size = g) : NCn l g := fun x hx => (h x hx).ne e
theorem NCs.neG (h : NCs w l) (c : w.heap.size ≤ g) : NCn l g := fun x hx => (h x hx).neG c
theorem NCs.st (h : NCs w l) (S : Stored w w' g x) (hn : NCn l g) : NCs w' l := fun y hy => (h y hy).st S (hn y hy)
theorem NCs.at (h : NCs w l) {j : Nat} (hj : j < l.length) : NC w .u8 (l.getD j zM).ao (l.getD j zM).cap (l.getD j zM).val := h _ (by rw [List.getD_eq_getElem?_getD, List.getElem?_eq_getElem hj]; exact List.getElem_mem hj)
theorem NCs.snoc (h : NCs w l) {y : IM} (hy : NC w .u8 y.ao y.cap y.val) : NCs w (l ++ [y]) := fun z hz => by
  rcases List.mem_append.1 hz with hz | hz
  · exact h z hz
  · rw [List.mem_singleton.1 hz]; exact hy
theorem NCs.gros {S : List Nat} (h : NCs w l) (G : GroS S w w') (hs : ∀ x ∈ l, ∀ ad, x.ao = some ad → 0 < x.val.length → ad.block ∉ S) : NCs w' l := fun x hx => G.nc (h x hx) (hs x hx)
theorem NCs.perm {m : List IM} (h : NCs w l) (p : l.Perm m) : NCs w m := fun x hx => h x (p.mem_iff.2 hx)
end
theorem all_eq2 {M : List (Nat × IM)} {L : List It} (hM : MRel M L) (hk : ∀ x ∈ M, x.2.key = x.1) (_kn : KNM M) (hL : SKv L) {S : List IM} {R : List IM} {Y : List (Nat × IM)} (hR : R.Perm S) (hRM : R.map IM.it = (Y.map (·.2)).map IM.it) (hY : Y.Perm M) (hS : RisI S) : S.map IM.it = L := by
  have hSK : SKv (S.map IM.it) := by
    unfold SKv
    rw [List.pairwise_map]
    exact hS
  refine lkV_ext hSK hL fun k => ?_
  rw [← hM k]
  have hp : (S.map IM.it).Perm ((M.map (·.2)).map IM.it) := by
    have h1 := hR.symm.map IM.it
    rw [hRM] at h1
    exact h1.trans ((hY.map _).map _)
  cases hg : getM M k with
  | none =>
    cases hl : lkV (S.map IM.it) k with
    | none => rfl
    | some z =>
      obtain ⟨h1, h2⟩ := yC hl
      obtain ⟨y, hy, rfl⟩ := List.mem_map.1 (hp.mem_iff.1 h1)
      obtain ⟨m, hm, rfl⟩ := List.mem_map.1 hy
      exact absurd ((hk m hm).symm.trans h2) (uI hg m hm)
  | some y =>
    have h1 : y.it ∈ S.map IM.it := hp.mem_iff.2 (List.mem_map_of_mem (List.mem_map_of_mem (zh hg)))
    have h2 := vU hSK h1
    have h3 : y.it.key = k := hk _ (zh hg)
    rw [h3] at h2
    rw [h2]
    rfl
theorem Below.gro {B : Nat} {a b c : World} (h : Below B a b) (k : Gro b c) (hB : B ≤ a.heap.size) : Below B a c := Below.trans h (k.mono (Nat.le_trans hB h.size))
theorem made_K {α : Type} (K : Kd α) (zc : Array Value) (hz : zc.toList = K.E K.z) (n : Nat) : madeCells zc (n * K.sz) = ((List.replicate n K.z).flatMap K.E).toArray := by
  have hs : zc.size = K.sz := by rw [← Array.length_toList, hz, K.len]
  apply Array.toList_inj.1
  apply List.ext_getElem?
  intro i
  have hl : ((List.replicate n K.z).flatMap K.E).length = n * K.sz := by rw [yn K.len, List.length_replicate]
  by_cases hi : i < n * K.sz
  · have h0 : 0 < K.sz := Nat.pos_of_ne_zero fun h => by rw [h, Nat.mul_zero] at hi; omega
    have hq : i / K.sz < n := Nat.div_lt_of_lt_mul (by rw [Nat.mul_comm]; exact hi)
    have hr : i % K.sz < K.sz := Nat.mod_lt _ h0
    have ej : i / K.sz * K.sz + i % K.sz = i := by rw [Nat.mul_comm]; exact Nat.div_add_mod i K.sz
    have h2 := JG K.len K.z (List.replicate n K.z) (i / K.sz) (by rw [List.length_replicate]; exact hq) (i % K.sz) hr
    have hg : (List.replicate n K.z).getD (i / K.sz) K.z = K.z := by simp [List.getD_eq_getElem?_getD, hq]
    rw [ej, hg, ← hz] at h2
    rw [h2]
    simp only [madeCells, Array.toList_map, Array.toList_range, List.getElem?_map, List.getElem?_range hi, Option.map_some, hs]
    rw [Array.getElem?_toList]
    generalize i % K.sz = k at *
    rw [getElem!_pos zc k (by omega), Array.getElem?_eq_getElem (by omega)]
  · rw [List.getElem?_eq_none (by simp only [madeCells, Array.toList_map, Array.toList_range, List.length_map, List.length_range]; omega), List.getElem?_eq_none (by rw [hl]; omega)]
section
variable {α : Type} {K : Kd α} {e t b : TypeId} {z : Value} {ops : Array Oper} {rest : List Oper} {T : List Value} {ds : List Deferred} {w : World} {Q : Exit → Act → World → Prop} {o : Oper} {B : Nat}
theorem s_mkE (R : RowT Tryz.prog t e K.sz b z) (hzc : z.cells.toList = K.E K.z) (dst : Nat) (hd : o.dst = some dst) (hgd : o.guard = none) (x y : Operand) (ho : o.op = .makeSlice t x y) (n : Nat) (hx : (⟨T.toArray, ds⟩ : Act).eval x = .int .i64 0) (hy : (⟨T.toArray, ds⟩ : Act).eval y = .int .i64 (n : Int)) (hb : n ≤ 1000000) (hb2 : b ≤ 100) (hB : B ≤ w.heap.size)
    (h : ∀ w' g, Gro w w' → w.heap.size = g → OW K e w' B (some ⟨g, 0, none⟩) n [] → wpList Tryz.prog ops Q rest ⟨(T.set dst (.slice (some ⟨g, 0, none⟩) 0 n)).toArray, ds⟩ w') : wpList Tryz.prog ops Q (o :: rest) ⟨T.toArray, ds⟩ w := by
  obtain ⟨i, hi, hz, hsz, hby⟩ := R.info
  have hm : n * b ≤ 100000000 := Nat.mul_le_mul hb hb2
  have hr := run_make (P := Tryz.prog) w t e i _ R.und hi hz .i64 .i64 0 (n : Int) (by omega) (by omega) (by rw [hby, ← Int.natCast_mul]; have h9 : b * n ≤ 100000000 := (by rw [Nat.mul_comm]; exact hm); exact Int.le_trans (Int.ofNat_le.2 h9) (by decide)) (by omega)
  simp only [Int.toNat_natCast, hsz, made_K K z.cells hzc n] at hr
  refine wpList_plain hgd fun _ hK => ?_
  have he : (execOp (Act.eval ⟨T.toArray, ds⟩) o).run Tryz.prog w = .ok (.value (.slice (some ⟨w.heap.size, 0, none⟩) 0 n)) (w.alloc (.cells ((List.replicate n K.z).flatMap K.E).toArray e)) := by
    unfold execOp
    simp only [ho, hx, hy, Sem.run_bind, hr, Result.andThen_ok, Sem.run_pure]
    rfl
  unfold Oper.wp
  rw [he, Oper.upon_value, hd, jX]
  refine hK _ _ (h _ _ (zl _ _) rfl ⟨⟨by simp, .inr ⟨w.heap.size, 0, _, rfl, hB, heap_alloc_new _ _, Nat.zero_le _, by unfold maxLen; omega, ?_, by simp⟩, fun _ h => by cases h⟩, fun _ h => by cases h⟩)
  simp only [List.size_toArray, yn K.len, List.length_replicate]
  omega
end
def OBs (w : World) (B : Nat) (l : List IM) : Prop := ∀ x ∈ l, OB w 5 .u8 B x.ao x.cap x.val
section
variable {w w' : World} {g B : Nat} {l : List IM} {x : Obj}
def NEs (l : List IM) (g : Nat) : Prop := ∀ x ∈ l, NEo x.ao g
theorem OBs.gro (h : OBs w B l) (G : Gro w w') : OBs w' B l := fun x hx => (h x hx).gro G
theorem OBs.ne (h : OBs w B l) (e : w.heap.size = g) : NEs l g := fun x hx => (h x hx).ne e
theorem OBs.neG (h : OBs w B l) (c : w.heap.size ≤ g) : NEs l g := fun x hx => (h x hx).neG c
theorem OBs.st (h : OBs w B l) (S : Stored w w' g x) (hn : NEs l g) : OBs w' B l := fun y hy => (h y hy).st S (hn y hy)
theorem OBs.mono {C : Nat} (h : OBs w B l) (hB : C ≤ B) : OBs w C l := fun x hx => (h x hx).mono hB
theorem OBs.snoc (h : OBs w B l) {y : IM} (hy : OB w 5 .u8 B y.ao y.cap y.val) : OBs w B (l ++ [y]) := fun z hz => by
  rcases List.mem_append.1 hz with hz | hz
  · exact h z hz
  · rw [List.mem_singleton.1 hz]; exact hy
theorem OBs.nc (h : OBs w B l) : NCs w l := fun x hx => (h x hx).nc
theorem OBs.perm {m : List IM} (h : OBs w B l) (p : l.Perm m) : OBs w B m := fun x hx => h x (p.mem_iff.2 hx)
theorem OBs.gros {S : List Nat} (h : OBs w B l) (G : GroS S w w') (hs : ∀ k ∈ S, ∀ c, w.heap[k]? ≠ some (.cells c 5 (0, 0))) : OBs w' B l := fun x hx => (h x hx).gros G fun ad ha hm => by
  obtain ⟨cur, hc⟩ := (h x hx).blk5 ha
  exact hs _ hm _ hc
theorem OBs.nil (w : World) (B : Nat) : OBs w B [] := fun _ h => by cases h
theorem RgMM.gros {κ ε : Type} {kv : κ → Value} {ok : κ → Prop} {ev : ε → Value} {b r : Nat} {L S : List (κ × ε)} {U : List Nat} (h : RgMM kv ok ev w b r L S) (G : GroS U w w') (hb : b ∉ U) (hr : r ∉ U) : RgMM kv ok ev w' b r L S := by
  obtain ⟨Y, c, Z, seen, q, h2, h3, h4, h5, h6⟩ := h
  exact ⟨Y, c, Z, seen, ⟨G.has q.at_ hb, q.perm, q.lt, q.nd, q.all, q.kn⟩, G.has h2 hr, h3, h4, h5, h6⟩
theorem RgMM.it {κ ε : Type} {kv : κ → Value} {ok : κ → Prop} {ev : ε → Value} {b r : Nat} {L S : List (κ × ε)} (h : RgMM kv ok ev w b r L S) : ∀ c t f, w.heap[r]? ≠ some (.cells c t f) := fun c t f e => by
  obtain ⟨Y, c', Z, seen, q, h2, h3, h4, h5, h6⟩ := h
  rw [h2] at e
  cases e
theorem OW.blkt {α : Type} {K : Kd α} {e : TypeId} {ao : Option Addr} {cap : Nat} {q : List α} (h : OW K e w B ao cap q) {k : Nat} (hk : k ∈ Go.Proofs.YtgfnjekpafempaaGreat.blk ao) : ∃ cur, w.heap[k]? = some (.cells cur e (0, 0)) ∧ B ≤ k := by
  obtain ⟨ad, ha, rfl⟩ := mem_blk.1 hk
  rcases h.own.row with ⟨h1, _, _⟩ | ⟨g, d, cur, h1, h2, h3, _⟩
  · rw [h1] at ha; cases ha
  · rw [h1] at ha
    cases ha
    exact ⟨cur, h3, h2⟩
theorem OW.keep {α : Type} {K : Kd α} {e : TypeId} {ao : Option Addr} {cap : Nat} {q : List α} (h : OW K e w B ao cap q) {S : List Nat} (G : GroS S w w') (hs : ∀ k ∈ S, ∀ c, w.heap[k]? ≠ some (.cells c e (0, 0))) : OW K e w' B ao cap q := h.gros G fun k hk hm => by
  obtain ⟨cur, hc, _⟩ := h.blkt hk
  exact hs k hm cur hc
end
theorem jai {M : List (Nat × IM)} {L : List It} (hM : MRel M L) (kn : KNM M) (hL : SKv L) : M.length = L.length := by
  have h2 : (L.map (·.key)).Nodup := by
    rw [List.nodup_iff_pairwise_ne, List.pairwise_map]
    exact List.Pairwise.imp (fun {a b} h => Nat.ne_of_lt h) hL
  have hp : (M.map (·.1)).Perm (L.map (·.key)) := (List.perm_ext_iff_of_nodup kn h2).2 fun k => by
    constructor
    · intro h
      obtain ⟨x, hx, rfl⟩ := List.mem_map.1 h
      have h3 := Yd kn hx
      have h4 := hM x.1
      rw [h3, Option.map_some] at h4
      obtain ⟨h5, h6⟩ := yC h4.symm
      exact List.mem_map.2 ⟨_, h5, h6⟩
    · intro h
      obtain ⟨x, hx, rfl⟩ := List.mem_map.1 h
      have h3 := vU hL hx
      obtain ⟨y, hy, _⟩ := hM.some h3
      exact List.mem_map.2 ⟨_, zh hy, rfl⟩
  have := hp.length_eq
  rwa [List.length_map, List.length_map] at this
theorem tkV_len (L : List It) (x : It) : (tkV L x).length ≤ L.length + 1 := by
  have key : ∀ L : List It, (L.filter (fun z => decide (z.key < x.key))).length + (L.filter (fun z => decide (x.key < z.key))).length ≤ L.length := fun L => by
    induction L with
    | nil => exact Nat.le_refl _
    | cons a L ih =>
      rw [List.filter_cons, List.filter_cons, List.length_cons]
      by_cases c1 : a.key < x.key
      · rw [if_pos (decide_eq_true c1), if_neg (by simp; omega), List.length_cons]
        omega
      · rw [if_neg (by simpa using c1)]
        split
        · rw [List.length_cons]
          omega
        · omega
  have key2 : (L.filter (fun z => decide (z.key < x.key)) ++ x :: L.filter (fun z => decide (x.key < z.key))).length ≤ L.length + 1 := by
    have := key L
    rw [List.length_append, List.length_cons]
    omega
  unfold tkV
  split
  · split
    · exact key2
    · omega
  · exact key2
theorem Ki {rs : List (List Nat)} : ∀ {s s' : List It × Nat}, rs.foldlM hldR s = some s' → s'.1.length ≤ s.1.length + rs.length := by
  induction rs with
  | nil =>
    intro s s' h
    cases h
    simp
  | cons r rs ih =>
    intro s s' h
    rw [List.foldlM_cons] at h
    cases hr : hldR s r with
    | none => rw [hr] at h; cases h
    | some s1 =>
      rw [hr] at h
      have h1 := ih h
      have h2 : s1.1.length ≤ s.1.length + 1 := by
        unfold hldR at hr
        cases hv : readV r with
        | none => rw [hv] at hr; cases hr
        | some v =>
          rw [hv, Option.bind_some] at hr
          cases v with
          | inl n =>
            have hr2 : (if s.2 < n then some (s.1, n) else none) = some s1 := hr
            split at hr2
            · cases hr2; exact Nat.le_succ _
            · cases hr2
          | inr x =>
            cases hr
            exact tkV_len _ _
      simp only [List.length_cons]
      omega
theorem Good.few {L : List Nat} {n : Nat} {h : Hd} {rs : List (List Nat)} (H : Good L n h rs) (hn : n ≤ 4096) {Lx : List It} {c : Nat} (hh : hld rs = some (Lx, c)) : Lx.length ≤ 4096 := by
  have h1 := Ki hh
  simp only [List.length_nil] at h1
  have h2 := H.num
  have h3 := H.cnt
  have h4 := H.fit
  omega
set_option maxRecDepth 100000 in
set_option maxHeartbeats 4000000 in
theorem all_any (U : List Nat) (w : World) (vp lp p sg mb n : Nat) (L : List Nat) (pw dn : Int) (h : Hd) (dw : Bool) (inc : Int) (M : List (Nat × IM)) (H : VK U w vp lp p sg mb n L pw dn h dw inc M) (L0 : List It) (hML : MRel M L0) (hL0 : SKv L0) (hfew : L0.length ≤ 4096) : Calls Tryz.prog 19 #[vP vp 0] w (fun e w' => ∃ ao cap Z, e = .returned (.slice ao (List.length Z) cap) ∧ Gro w w' ∧ OW kM 42 w' w.heap.size ao cap Z ∧ OBs w' w.heap.size Z ∧ RisI Z ∧ Z.map IM.it = L0) := by
  have hMl : M.length ≤ 4096 := by rw [jai hML H.vb.map.kn hL0]; exact hfew
  refine eN func19 rfl ntmps19 [vP vp 0] ?_
  have GG := Gro.refl w
  have GA := Gro.refl w
  have kvp := H.vb.box
  refine qE (qG (mv (.slice none 0 0) rfl (nq ?_)))
  refine qL (qE (qE (qG (mv (vP vp 0) rfl (sv (vF) (jT 30 _ _ _ rfl _ rfl rfl underlying30 _) rfl (nq ?_))))))
  refine qL (qF rfl (qK (qE (qG (mv (vP vp 0) rfl (sv (vP vp 0) (jl _ rfl _ rfl) rfl (sv (vP vp 2) (je 78 _ 2 rfl vp 0 rfl 2 (by kernel_rfl)) rfl (sv (.map (some mb)) (ldVtm _ rfl vp rfl (kvp)) rfl (sv (nK M.length) (KO mT ((H.vb.map.gro GA)) _ rfl rfl) rfl (nq ?_))))))))))
  refine s_mkE rM rfl 13 rfl rfl _ _ rfl M.length rfl rfl (by omega) (by decide) (B := w.heap.size) GG.size ?_
  intro w1 q G eq HO
  replace kvp := G.has kvp
  replace GA := GA.gro G
  replace GG := GG.trans G
  clear G
  clear eq
  refine nq ?_
  refine mv (.slice (some ⟨q, 0, none⟩) 0 M.length) rfl (nq ?_)
  refine qL (qE (qE (qG (mv (vP vp 0) rfl (sv (vP vp 0) (jl _ rfl _ rfl) rfl (sv (vP vp 2) (je 78 _ 2 rfl vp 0 rfl 2 (by kernel_rfl)) rfl (sv (.map (some mb)) (ldVtm _ rfl vp rfl (kvp)) rfl (nq ?_))))))))
  refine jbt mT 18 rfl rfl _ rfl (H.vb.map.gro GA) rfl ?_
  intro w2 r HR G er _
  have br := jh GG er
  replace kvp := G.has kvp
  replace GA := GA.gro G
  replace HO := HO.gro G
  replace GG := GG.trans G
  clear G
  clear er
  refine nq ?_
  refine qL (qB ?_)
  refine jO (fun mz az wv => ∃ (S : List (Nat × IM)) (R : List IM) (ao : Option Addr) (cap : Nat) (us1 : Nat → Value), mz = M.length + 1 - S.length ∧ az = ⟨[vP vp 0, uD, .slice none 0 0, .slice ao R.length cap, uD, us1 5, vP vp 0, vF, vP vp 0, vP vp 0, vP vp 2, .map (some mb), nK M.length, .slice (some ⟨q, 0, none⟩) 0 M.length, vP vp 0, vP vp 0, vP vp 2, .map (some mb), vP r 0, us1 19, us1 20, us1 21, us1 22, us1 23, us1 24, us1 25, us1 26, us1 27, uD, uD, uD].toArray, []⟩ ∧ Gro w wv ∧ RgMM kvM okM evM wv mb r M S ∧ OW kM 42 wv w.heap.size ao cap R ∧ OBs wv w.heap.size R ∧ R.map IM.it = (S.map (·.2)).map IM.it) ?_ _ ⟨[], [], _, _, usK ⟨GG, HR, HO, OBs.nil _ _, rfl⟩⟩
  clear GG GA HO HR
  rintro mz az wv ⟨S, R, ao, cap, us1, rfl, rfl, GG, HR, HO, HS, hRS⟩
  refine qS ?_
  refine s_nextM 19 rfl rfl _ rfl HR rfl (fun hSM => ?_) ?_
  refine nr ?_; intro U h; simp only [z0, z1] at h; subst h
  refine mv (vF) rfl (nq ?_)
  refine qL (qE (qF rfl (wp_exit (jG (jG (zp (jC (qE (qG (mv (.slice ao R.length cap) rfl (nq ?_)))))))))))
  have hRk : R.map (·.key) = S.map (·.1) := by
    have h1 := congrArg (List.map It.key) hRS
    simp only [List.map_map] at h1
    refine Eq.trans h1 (List.map_congr_left fun y hy => ?_)
    exact H.mr.key y (hSM.mem_iff.1 hy)
  have hKN : KNi R := by
    unfold KNi
    rw [hRk]
    exact (List.Perm.nodup_iff (hSM.map _)).2 H.vb.map.kn
  have hlR : R.length ≤ 4096 := by
    have h2 := congrArg List.length hRS
    simp only [List.length_map] at h2
    have h3 := hSM.length_eq
    omega
  refine jq 29 rfl rfl _ 40 call40 rfl rfl _ rfl [.slice ao R.length cap, .func (.func 41) #[] #[]] rfl (KD _ w.heap.size ao cap R HO hKN (by omega)) (by rintro _ _ ⟨he, _, _, _, _, _⟩; exact ⟨_, he⟩) ?_
  rintro v w3 ⟨he, Z, hP, hZ, G, HZ⟩
  cases he
  replace HS := (HS.gros G (fun k hk c e => by obtain ⟨cur, h1, _⟩ := HO.blkt hk; rw [h1] at e; cases e)).perm hP.symm
  replace GG := G.gro GG (fun k hk => (HO.blkt hk).choose_spec.2)
  have hlS := hP.length_eq
  refine nq ?_
  refine qL (qE (qG (mv (.slice ao R.length cap) rfl (mv (.slice ao R.length cap) rfl (nq ?_)))))
  refine qL (qR ?_)
  refine bodyPost_ret (results_tmp results19 _ _ _) rfl ?_
  refine ⟨ao, cap, Z, by rw [hlS]; rfl, GG, HZ, HS, hZ, ?_⟩
  exact all_eq2 hML H.mr.key H.vb.map.kn hL0 hP.symm hRS hSM hZ
  intro x w3 hx HR2 G hent
  have hit := HR.it
  replace HO := HO.keep G (fun k hk c => by rw [List.mem_singleton.1 hk]; exact hit c _ _)
  replace HS := HS.gros G (fun k hk c => by rw [List.mem_singleton.1 hk]; exact hit c _ _)
  clear HR
  have HR := HR2
  clear HR2
  replace GG := G.gro GG (fun k hk => by rw [List.mem_singleton.1 hk]; exact br)
  clear G hit
  refine nq ?_
  refine mv (vT) rfl (nq ?_)
  refine qL (qE (qT rfl (qK (qB (qE (qG (sv (.tuple #[kvM x.1, evM x.2]) (jcj _ rfl _ rfl hent) rfl (nq ?_))))))))
  clear hent
  refine mv (iA x.2) rfl (nq ?_)
  refine jH 5 rfl rfl 42 rfl _ zeroIt (itA zM) rfl ?_
  intro w4 g1 G eg1 kg1
  have bg1 := jh GG eg1
  have dHRg1 := HR.ne eg1
  have dHOg1 := HO.ne eg1
  have dHSg1 := HS.ne eg1
  replace HR := HR.gro G
  replace HO := HO.gro G
  replace HS := HS.gro G
  replace GG := GG.trans G
  clear G
  clear eg1
  refine nq ?_
  refine stI x.2 rfl rfl rfl kg1 rfl ?_
  intro w5 St
  replace HR := HR.st St dHRg1
  replace HO := HO.st St dHOg1
  replace HS := HS.st St dHSg1
  replace GG := GG.store St bg1
  replace kg1 := St.new
  clear St
  refine qL (qG (mv (.slice ao R.length cap) rfl (sv (iA x.2) (ldIt0 _ rfl g1 rfl (kg1)) rfl (nq ?_))))
  refine jq 25 rfl rfl _ 35 call35 rfl rfl _ rfl [iA x.2] rfl (vH x.2 _ ((H.mr.row x hx).nc.gro GG) (by have := H.mr.len x hx; omega)) (by rintro _ _ ⟨_, _, he, _, _⟩; exact ⟨_, he⟩) ?_
  have lzg1 := ji kg1
  rintro v w6 ⟨ao2, cap2, he, G, HV⟩
  cases he
  have dHVg1 := HV.neB lzg1
  replace HV := HV.mono GG.size
  replace kg1 := G.has kg1
  replace HR := HR.gro G
  replace HO := HO.gro G
  replace HS := HS.gro G
  replace GG := GG.trans G
  clear G
  refine nq ?_
  refine ye 26 rfl rfl 58 1 _ rfl [(0, iA (x.2.re ao2 cap2))] rfl ([x.2.re ao2 cap2].flatMap kM.E).toArray 42 (bsM _ _) ?_
  intro w7 q2 G eq2 kq2
  replace kg1 := G.has kg1
  replace HR := HR.gro G
  replace HO := HO.gro G
  replace HS := HS.gro G
  replace HV := HV.gro G
  replace GG := GG.trans G
  clear G
  have HQ : RK kM w7 (some ⟨q2, 0, none⟩) 1 [x.2.re ao2 cap2] := RK.blk kq2 (vg ((H.vb.ok x hx).re _ _)) (Nat.le_refl _)
  clear eq2 kq2
  refine nq ?_
  have hlR : R.length ≤ 4096 := by
    have h1 := HR.len
    have h2 := congrArg List.length hRS
    simp only [List.length_map] at h2
    rw [List.length_append] at h1
    omega
  refine ZJ rM (by decide) 27 rfl rfl _ _ rfl rfl HO (l' := [x.2.re ao2 cap2]) rfl HQ (by simp only [List.length_singleton]; omega) GG.size ?_
  intro ao3 cap3 w8 HO2 G _
  replace HS := (HS.gros G (fun k hk c e => by obtain ⟨cur, h1, _⟩ := HO.blkt hk; rw [h1] at e; cases e))
  replace HV := HV.gros G (fun ad ha hm => by
    obtain ⟨cur, h1, _⟩ := HO.blkt hm
    obtain ⟨cur2, h2⟩ := HV.blk5 ha
    rw [h1] at h2
    cases h2)
  replace HR := HR.gros G (fun hm => by
    obtain ⟨cur, h1, _⟩ := HO.blkt hm
    exact HR.tm.nec h1 rfl) (fun hm => by
    obtain ⟨cur, h1, _⟩ := HO.blkt hm
    exact HR.it _ _ _ h1)
  replace GG := G.gro GG (fun k hk => (HO.blkt hk).choose_spec.2)
  clear G HQ HO
  have HO := HO2
  clear HO2
  replace HS := HS.snoc (y := x.2.re ao2 cap2) HV
  have hRS2 : (R ++ [x.2.re ao2 cap2]).map IM.it = ((S ++ [x]).map (·.2)).map IM.it := by
    rw [List.map_append, hRS, List.map_append, List.map_append]
    rfl
  refine nq ?_
  refine mv (.slice ao3 (R ++ [x.2.re ao2 cap2]).length cap3) rfl (nq ?_)
  refine qN (zb (jC ?_))
  exact ⟨_, by have := HR.len; rw [List.length_append] at this ⊢; simp only [List.length_singleton] at this ⊢; omega, S ++ [x], _, _, _, usK ⟨GG, HR, HO, HS, hRS2⟩⟩
end Go.Proofs.YtgfnjekpafempaaGreat
