/- The document's Same of items; whether a vault holds what it must. -/
import Derived.Test.YtgfnjekpafempaaGV11
import Derived.Test.YtgfnjekpafempaaGAb
namespace Go.Proofs.Ytgfnjekpafempaa
open Go.RowKit
structure Sg where
  key : Nat
  n : Int
  who : Nat
  val : List Nat
def IM.sg (x : IM) : Sg := ⟨x.key, x.n, x.who, x.val⟩
theorem sg_iff {a b : IM} : a.sg = b.sg ↔ a.key = b.key ∧ eqV a.ver b.ver = true ∧ a.val = b.val := by
  unfold IM.sg eqV IM.ver
  constructor
  · intro h
    injection h with h1 h2 h3 h4
    exact ⟨h1, by simp [h2, h3], h4⟩
  · rintro ⟨h1, h2, h3⟩
    simp only [Bool.and_eq_true, decide_eq_true_eq] at h2
    rw [h1, h2.1, h2.2, h3]
def sameM (l m : List IM) : Prop := l.map IM.sg = m.map IM.sg
theorem sgs_eq {l m : List IM} (hl : l.length = m.length) (h : ∀ j, j < l.length → (l.getD j zM).sg = (m.getD j zM).sg) : sameM l m := by
  apply List.ext_getElem
  · rw [List.length_map, List.length_map, hl]
  · intro j h1 h2
    rw [List.length_map] at h1 h2
    have := h j h1
    rw [List.getD_eq_getElem?_getD, List.getElem?_eq_getElem h1, List.getD_eq_getElem?_getD, List.getElem?_eq_getElem h2] at this
    simpa using this
theorem Vv {l m : List IM} (h : sameM l m) (j : Nat) : (l.getD j zM).sg = (m.getD j zM).sg := by
  have h1 : (l.map IM.sg)[j]? = (m.map IM.sg)[j]? := by rw [h]
  rw [List.getElem?_map, List.getElem?_map] at h1
  rw [List.getD_eq_getElem?_getD, List.getD_eq_getElem?_getD]
  cases hl : l[j]? with
  | none =>
    rw [hl] at h1
    cases hm : m[j]? with
    | none => rfl
    | some y => rw [hm] at h1; cases h1
  | some x =>
    rw [hl] at h1
    cases hm : m[j]? with
    | none => rw [hm] at h1; cases h1
    | some y =>
      rw [hm] at h1
      injection h1
theorem jcn {l m : List IM} (h : sameM l m) : l.length = m.length := by
  have := congrArg List.length h
  rwa [List.length_map, List.length_map] at this
theorem jbz {a b : List Nat} {w : World} {ao bo : Option Addr} {ac bc : Nat} (ha : NC w .u8 ao ac a) (hb : NC w .u8 bo bc b) : bas a = bas b ↔ a = b := ⟨fun h => bas_inj ha.lt256 hb.lt256 h, fun h => by rw [h]⟩
set_option maxRecDepth 100000 in
set_option maxHeartbeats 4000000 in
theorem Kw (w : World) (ao bo : Option Addr) (cap bc : Nat) (l m : List IM) (HA : RK kM w ao cap l) (HB : RK kM w bo bc m) (NA : NCs w l) (NB : NCs w m) (hll : l.length ≤ 4611686018427387904) (q : Bool) (hp : sameM l m → q = true) (hq : ¬ sameM l m → q = false) : Calls Try.prog 16 #[.slice ao l.length cap, .slice bo m.length bc] w (fun e w' => e = .returned (.bool q) ∧ Gro w w') := by
  refine js Try.func16 rfl Try.ntmps16 [.slice ao l.length cap, .slice bo m.length bc] [.slice ao l.length cap, .slice bo m.length bc, uD, uD, uD, uD, uD, uD, uD, uD, uD, uD, uD, uD, uD, uD, uD, uD, uD, uD, uD, uD, uD, uD, uD, uD, uD, uD, uD, uD, uD, uD, uD, uD, uD, uD, uD, uD, uD, uD, uD, uD, uD, uD, uD, uD, uD, uD, uD, uD, uD, uD, uD, uD, uD, uD] rfl ?_
  have GG := Gro.refl w
  refine qS ?_
  refine ja 4 rfl rfl (vF) (rfl) ?_
  refine nr ?_; intro U h; simp only [z0, z1] at h; subst h
  refine qL (qE (qE ?_))
  cases t1 : decide (((l.length : Nat) : Int) = ((m.length : Nat) : Int))
  have hc := of_decide_eq_false t1
  refine qG ?_
  refine ja 6 rfl rfl (.slice ao l.length cap) (rfl) ?_
  refine ja 7 rfl rfl (nK l.length) (jA Try.underlying45 _ rfl _ _ _ rfl _) ?_
  refine ja 8 rfl rfl (.slice bo m.length bc) (rfl) ?_
  refine ja 9 rfl rfl (nK m.length) (jA Try.underlying45 _ rfl _ _ _ rfl _) ?_
  refine ja 10 rfl rfl (vT) (jh 3 .i64 _ _ _ rfl Try.underlying3 ((l.length : Nat) : Int) ((m.length : Nat) : Int) rfl rfl true t1 _) ?_
  refine nr ?_; intro U h; simp only [z0, z1] at h; subst h
  refine qL (qT rfl (qS ?_))
  refine ja 4 rfl rfl (vF) (rfl) ?_
  refine nr ?_; intro U h; simp only [z0, z1] at h; subst h
  refine qL (qR (jr ?_))
  refine bodyPost_ret (results_tmp Try.results16 _ _ _) rfl ?_
  refine ⟨?_, GG⟩
  rw [hq (fun e => hc (by rw [jcn e]))]
  rfl
  have hlm : l.length = m.length := by have := of_decide_eq_true t1; omega
  refine qG ?_
  refine ja 6 rfl rfl (.slice ao l.length cap) (rfl) ?_
  refine ja 7 rfl rfl (nK l.length) (jA Try.underlying45 _ rfl _ _ _ rfl _) ?_
  refine ja 8 rfl rfl (.slice bo m.length bc) (rfl) ?_
  refine ja 9 rfl rfl (nK m.length) (jA Try.underlying45 _ rfl _ _ _ rfl _) ?_
  refine ja 10 rfl rfl (vF) (jh 3 .i64 _ _ _ rfl Try.underlying3 ((l.length : Nat) : Int) ((m.length : Nat) : Int) rfl rfl false t1 _) ?_
  refine nr ?_; intro U h; simp only [z0, z1] at h; subst h
  refine qL (qF rfl (qK (qE (qS ?_))))
  refine ja 5 rfl rfl (iK 0) (rfl) ?_
  refine nr ?_; intro U h; simp only [z0, z1] at h; subst h
  refine qL (qB ?_)
  refine jV (fun mz az wv => ∃ (i : Nat) (us1 : Nat → Value), mz = l.length - i ∧ az = ⟨[.slice ao l.length cap, .slice bo m.length bc, uD, uD, us1 0, nK i, .slice ao l.length cap, nK l.length, .slice bo m.length bc, nK m.length, vF, us1 1, us1 2, us1 3, us1 4, us1 5, us1 6, us1 7, us1 8, us1 9, us1 10, us1 11, us1 12, us1 13, us1 14, us1 15, us1 16, us1 17, us1 18, us1 19, us1 20, us1 21, us1 22, us1 23, us1 24, us1 25, us1 26, us1 27, us1 28, us1 29, us1 30, us1 31, us1 32, us1 33, us1 34, us1 35, us1 36, us1 37, us1 38, us1 39, us1 40, us1 41, us1 42, us1 43, us1 44, us1 45].toArray, []⟩ ∧ Gro w wv ∧ i ≤ l.length ∧ (∀ j, j < i → (l.getD j zM).sg = (m.getD j zM).sg)) ?_ _ ⟨0, (fun kz => ([vF, uD, uD, uD, uD, uD, uD, uD, uD, uD, uD, uD, uD, uD, uD, uD, uD, uD, uD, uD, uD, uD, uD, uD, uD, uD, uD, uD, uD, uD, uD, uD, uD, uD, uD, uD, uD, uD, uD, uD, uD, uD, uD, uD, uD, uD] : List Value).getD kz uD), rfl, rfl, GG, Nat.zero_le _, fun _ h => absurd h (Nat.not_lt_zero _)⟩
  clear GG
  rintro mz az wv ⟨i, us1, rfl, rfl, GG, hi, hE⟩
  refine qE (qE ?_)
  cases t2 : decide (((i : Nat) : Int) < ((l.length : Nat) : Int))
  refine qG ?_
  refine ja 11 rfl rfl (nK i) (rfl) ?_
  refine ja 12 rfl rfl (.slice ao l.length cap) (rfl) ?_
  refine ja 13 rfl rfl (nK l.length) (jA Try.underlying45 _ rfl _ _ _ rfl _) ?_
  refine ja 14 rfl rfl (vF) (jE 3 _ _ _ rfl ((i : Nat) : Int) ((l.length : Nat) : Int) rfl rfl false t2 _) ?_
  refine nr ?_; intro U h; simp only [z0, z1] at h; subst h
  refine qL (qF rfl (wp_exit (jL (jL (zC (jG (qS ?_)))))))
  refine ja 4 rfl rfl (vT) (rfl) ?_
  refine nr ?_; intro U h; simp only [z0, z1] at h; subst h
  refine qL (qR ?_)
  refine bodyPost_ret (results_tmp Try.results16 _ _ _) rfl ?_
  have hil : i = l.length := by have := of_decide_eq_false t2; omega
  refine ⟨?_, GG⟩
  rw [hp (sgs_eq hlm (fun j hj => hE j (by omega)))]
  rfl
  have hlt : i < l.length := by have := of_decide_eq_true t2; omega
  have hlt2 : i < m.length := by omega
  refine qG ?_
  refine ja 11 rfl rfl (nK i) (rfl) ?_
  refine ja 12 rfl rfl (.slice ao l.length cap) (rfl) ?_
  refine ja 13 rfl rfl (nK l.length) (jA Try.underlying45 _ rfl _ _ _ rfl _) ?_
  refine ja 14 rfl rfl (vT) (jE 3 _ _ _ rfl ((i : Nat) : Int) ((l.length : Nat) : Int) rfl rfl true t2 _) ?_
  refine nr ?_; intro U h; simp only [z0, z1] at h; subst h
  refine qL (qT rfl (qK (qE (qB (qE ?_)))))
  cases k1 : decide ((l.getD i zM).key = (m.getD i zM).key)
  have hne : ¬ (l.getD i zM).sg = (m.getD i zM).sg := fun e => of_decide_eq_false k1 (sg_iff.1 e).1
  refine jl (A := ?Ax1) 38 [(0, 17), (1, 18), (2, 19), (3, 20), (4, 21), (5, 22), (6, 23), (7, 24), (8, 25), (9, 26), (10, 27), (11, 28), (12, 29), (13, 30), (14, 31), (15, 32), (16, 33), (17, 34), (18, 35), (19, 36), (20, 37), (21, 38), (22, 39), (23, 40), (24, 41), (25, 42), (26, 43), (27, 44), (28, 45), (29, 46), (30, 47), (31, 48), (32, 49), (33, 50), (34, 51), (35, 52), (36, 53), (37, 54)] [.val (.slice ao l.length cap), .val (nK i), .val (.pointer (pK kM ao i 0)), .val (.pointer (pK kM ao i 0)), .val (.agg (idA (l.getD i zM).key)), .val (.slice bo m.length bc), .val (nK i), .val (.pointer (pK kM bo i 0)), .val (.pointer (pK kM bo i 0)), .val (.agg (idA (m.getD i zM).key)), .val (vT), .val (vT), .val uD, .val uD, .val uD, .val uD, .val uD, .val uD, .val uD, .val uD, .val uD, .val uD, .val uD, .val (vT), .val (vT), .val uD, .val uD, .val uD, .val uD, .val uD, .val uD, .val uD, .val uD, .val uD, .val uD, .val uD, .val uD, .val uD] follows (by kernel_rfl) rfl ?hAx1 (jb ?o0x1 (jb ?o1x1 (jb ?o2x1 (jb ?o3x1 (jb ?o4x1 (jb ?o5x1 (jb ?o6x1 (jb ?o7x1 (jb ?o8x1 (jb ?o9x1 (jb ?o10x1 (jb ?o11x1 (jb ?o12x1 (jb ?o13x1 (jb ?o14x1 (jb ?o15x1 (jb ?o16x1 (jb ?o17x1 (jb ?o18x1 (jb ?o19x1 (jb ?o20x1 (jb ?o21x1 (jb ?o22x1 (jb ?o23x1 (jb ?o24x1 (jb ?o25x1 (jb ?o26x1 (jb ?o27x1 (jb ?o28x1 (jb ?o29x1 (jb ?o30x1 (jb ?o31x1 (jb ?o32x1 (jb ?o33x1 (jb ?o34x1 (jb ?o35x1 (jb ?o36x1 (jb ?o37x1 jF)))))))))))))))))))))))))))))))))))))) ?restx1
  case hAx1 =>
    intro ptrs
    simp only [full, foldSlots, filledE, postE, List.foldl_cons, List.foldl_nil, List.getD_cons_zero, List.getD_cons_succ, jI, List.set_cons_zero, List.set_cons_succ]
    exact rfl
  case o0x1 => exact fun _ _ _ _ => jg (v := .slice ao l.length cap) _ rfl rfl rfl
  case o1x1 => exact fun _ _ _ _ => jg (v := nK i) _ rfl rfl rfl
  case o2x1 => exact fun _ _ hw _ => jd (v := .pointer (pK kM ao i 0)) rfl (zf rM (((HA.gro GG)).gro ((Gro.refl _).drew.trans hw)) _ _ rfl rfl i rfl (by omega))
  case o3x1 => exact fun _ _ hw _ => jd (v := .pointer (pK kM ao i 0)) rfl (zn (((HA.gro GG)).gro ((Gro.refl _).drew.trans hw)) 56 _ 0 0 (vG _) rfl i rfl (by omega))
  case o4x1 => exact fun _ _ hw _ => jd (v := .agg (idA (l.getD i zM).key)) rfl (zA (((HA.gro GG)).gro ((Gro.refl _).drew.trans hw)) _ rfl i rfl (by omega))
  case o5x1 => exact fun _ _ _ _ => jg (v := .slice bo m.length bc) _ rfl rfl rfl
  case o6x1 => exact fun _ _ _ _ => jg (v := nK i) _ rfl rfl rfl
  case o7x1 => exact fun _ _ hw _ => jd (v := .pointer (pK kM bo i 0)) rfl (zf rM (((HB.gro GG)).gro ((Gro.refl _).drew.trans hw)) _ _ rfl rfl i rfl (by omega))
  case o8x1 => exact fun _ _ hw _ => jd (v := .pointer (pK kM bo i 0)) rfl (zn (((HB.gro GG)).gro ((Gro.refl _).drew.trans hw)) 56 _ 0 0 (vG _) rfl i rfl (by omega))
  case o9x1 => exact fun _ _ hw _ => jd (v := .agg (idA (m.getD i zM).key)) rfl (zA (((HB.gro GG)).gro ((Gro.refl _).drew.trans hw)) _ rfl i rfl (by omega))
  case o10x1 => exact fun _ _ _ _ => jd (v := vT) rfl (JN _ _ _ rfl _ _ rfl rfl (atM HA hlt).key (atM HB hlt2).key true k1)
  case o11x1 => exact fun _ _ _ _ => jg (v := vT) _ rfl rfl rfl
  case o12x1 => exact fun _ _ _ _ => jC rfl
  case o13x1 => exact fun _ _ _ _ => jC rfl
  case o14x1 => exact fun _ _ _ _ => jC rfl
  case o15x1 => exact fun _ _ _ _ => jC rfl
  case o16x1 => exact fun _ _ _ _ => jC rfl
  case o17x1 => exact fun _ _ _ _ => jC rfl
  case o18x1 => exact fun _ _ _ _ => jC rfl
  case o19x1 => exact fun _ _ _ _ => jC rfl
  case o20x1 => exact fun _ _ _ _ => jC rfl
  case o21x1 => exact fun _ _ _ _ => jC rfl
  case o22x1 => exact fun _ _ _ _ => jC rfl
  case o23x1 => exact fun _ _ _ _ => zL (v := vT) _ _ _ rfl rfl true rfl rfl
  case o24x1 => exact fun _ _ _ _ => jg (v := vT) _ rfl rfl rfl
  case o25x1 => exact fun _ _ _ _ => jC rfl
  case o26x1 => exact fun _ _ _ _ => jC rfl
  case o27x1 => exact fun _ _ _ _ => jC rfl
  case o28x1 => exact fun _ _ _ _ => jC rfl
  case o29x1 => exact fun _ _ _ _ => jC rfl
  case o30x1 => exact fun _ _ _ _ => jC rfl
  case o31x1 => exact fun _ _ _ _ => jC rfl
  case o32x1 => exact fun _ _ _ _ => jC rfl
  case o33x1 => exact fun _ _ _ _ => jC rfl
  case o34x1 => exact fun _ _ _ _ => jC rfl
  case o35x1 => exact fun _ _ _ _ => jC rfl
  case o36x1 => exact fun _ _ _ _ => jC rfl
  case o37x1 => exact fun _ _ _ _ => jC rfl
  intro ptrs w1 GD hxE
  simp only [List.drop_succ_cons, List.drop_zero]
  replace GG := GG.drew.trans GD
  clear GD
  refine ja 55 rfl rfl (vT) (rfl) ?_
  refine nr ?_; intro U h; simp only [z0, z1] at h; subst h
  refine qL (qT rfl (qS ?_))
  refine ja 4 rfl rfl (vF) (rfl) ?_
  refine nr ?_; intro U h; simp only [z0, z1] at h; subst h
  refine qL (qR (zk (jr (jr (zk (jr ?_))))))
  refine bodyPost_ret (results_tmp Try.results16 _ _ _) rfl ?_
  refine ⟨?_, GG⟩
  rw [hq (fun e => hne (Vv e i))]
  rfl
  cases k2 : eqV (l.getD i zM).ver (m.getD i zM).ver
  have hne : ¬ (l.getD i zM).sg = (m.getD i zM).sg := fun e => absurd ((sg_iff.1 e).2.1.symm.trans k2) (by decide)
  refine jl (A := ?Ax2) 38 [(0, 17), (1, 18), (2, 19), (3, 20), (4, 21), (5, 22), (6, 23), (7, 24), (8, 25), (9, 26), (10, 27), (11, 28), (12, 29), (13, 30), (14, 31), (15, 32), (16, 33), (17, 34), (18, 35), (19, 36), (20, 37), (21, 38), (22, 39), (23, 40), (24, 41), (25, 42), (26, 43), (27, 44), (28, 45), (29, 46), (30, 47), (31, 48), (32, 49), (33, 50), (34, 51), (35, 52), (36, 53), (37, 54)] [.val (.slice ao l.length cap), .val (nK i), .val (.pointer (pK kM ao i 0)), .val (.pointer (pK kM ao i 0)), .val (.agg (idA (l.getD i zM).key)), .val (.slice bo m.length bc), .val (nK i), .val (.pointer (pK kM bo i 0)), .val (.pointer (pK kM bo i 0)), .val (.agg (idA (m.getD i zM).key)), .val (vF), .val (vF), .val (.slice ao l.length cap), .val (nK i), .val (.pointer (pK kM ao i 0)), .val (.pointer (pK kM ao i 16)), .val (.agg (veA (l.getD i zM).ver)), .val (.slice bo m.length bc), .val (nK i), .val (.pointer (pK kM bo i 0)), .val (.pointer (pK kM bo i 16)), .val (.agg (veA (m.getD i zM).ver)), .val (vT), .val (vT), .val (vT), .val uD, .val uD, .val uD, .val uD, .val uD, .val uD, .val uD, .val uD, .val uD, .val uD, .val uD, .val uD, .val uD] follows (by kernel_rfl) rfl ?hAx2 (jb ?o0x2 (jb ?o1x2 (jb ?o2x2 (jb ?o3x2 (jb ?o4x2 (jb ?o5x2 (jb ?o6x2 (jb ?o7x2 (jb ?o8x2 (jb ?o9x2 (jb ?o10x2 (jb ?o11x2 (jb ?o12x2 (jb ?o13x2 (jb ?o14x2 (jb ?o15x2 (jb ?o16x2 (jb ?o17x2 (jb ?o18x2 (jb ?o19x2 (jb ?o20x2 (jb ?o21x2 (jb ?o22x2 (jb ?o23x2 (jb ?o24x2 (jb ?o25x2 (jb ?o26x2 (jb ?o27x2 (jb ?o28x2 (jb ?o29x2 (jb ?o30x2 (jb ?o31x2 (jb ?o32x2 (jb ?o33x2 (jb ?o34x2 (jb ?o35x2 (jb ?o36x2 (jb ?o37x2 jF)))))))))))))))))))))))))))))))))))))) ?restx2
  case hAx2 =>
    intro ptrs
    simp only [full, foldSlots, filledE, postE, List.foldl_cons, List.foldl_nil, List.getD_cons_zero, List.getD_cons_succ, jI, List.set_cons_zero, List.set_cons_succ]
    exact rfl
  case o0x2 => exact fun _ _ _ _ => jg (v := .slice ao l.length cap) _ rfl rfl rfl
  case o1x2 => exact fun _ _ _ _ => jg (v := nK i) _ rfl rfl rfl
  case o2x2 => exact fun _ _ hw _ => jd (v := .pointer (pK kM ao i 0)) rfl (zf rM (((HA.gro GG)).gro ((Gro.refl _).drew.trans hw)) _ _ rfl rfl i rfl (by omega))
  case o3x2 => exact fun _ _ hw _ => jd (v := .pointer (pK kM ao i 0)) rfl (zn (((HA.gro GG)).gro ((Gro.refl _).drew.trans hw)) 56 _ 0 0 (vG _) rfl i rfl (by omega))
  case o4x2 => exact fun _ _ hw _ => jd (v := .agg (idA (l.getD i zM).key)) rfl (zA (((HA.gro GG)).gro ((Gro.refl _).drew.trans hw)) _ rfl i rfl (by omega))
  case o5x2 => exact fun _ _ _ _ => jg (v := .slice bo m.length bc) _ rfl rfl rfl
  case o6x2 => exact fun _ _ _ _ => jg (v := nK i) _ rfl rfl rfl
  case o7x2 => exact fun _ _ hw _ => jd (v := .pointer (pK kM bo i 0)) rfl (zf rM (((HB.gro GG)).gro ((Gro.refl _).drew.trans hw)) _ _ rfl rfl i rfl (by omega))
  case o8x2 => exact fun _ _ hw _ => jd (v := .pointer (pK kM bo i 0)) rfl (zn (((HB.gro GG)).gro ((Gro.refl _).drew.trans hw)) 56 _ 0 0 (vG _) rfl i rfl (by omega))
  case o9x2 => exact fun _ _ hw _ => jd (v := .agg (idA (m.getD i zM).key)) rfl (zA (((HB.gro GG)).gro ((Gro.refl _).drew.trans hw)) _ rfl i rfl (by omega))
  case o10x2 => exact fun _ _ _ _ => jd (v := vF) rfl (JN _ _ _ rfl _ _ rfl rfl (atM HA hlt).key (atM HB hlt2).key false k1)
  case o11x2 => exact fun _ _ _ _ => jg (v := vF) _ rfl rfl rfl
  case o12x2 => exact fun _ _ _ _ => jg (v := .slice ao l.length cap) _ rfl rfl rfl
  case o13x2 => exact fun _ _ _ _ => jg (v := nK i) _ rfl rfl rfl
  case o14x2 => exact fun _ _ hw _ => jd (v := .pointer (pK kM ao i 0)) rfl (zf rM (((HA.gro GG)).gro ((Gro.refl _).drew.trans hw)) _ _ rfl rfl i rfl (by omega))
  case o15x2 => exact fun _ _ hw _ => jd (v := .pointer (pK kM ao i 16)) rfl (zn (((HA.gro GG)).gro ((Gro.refl _).drew.trans hw)) 56 _ 1 16 (JA _) rfl i rfl (by omega))
  case o16x2 => exact fun _ _ hw _ => jd (v := .agg (veA (l.getD i zM).ver)) rfl (ye (((HA.gro GG)).gro ((Gro.refl _).drew.trans hw)) _ rfl i rfl (by omega))
  case o17x2 => exact fun _ _ _ _ => jg (v := .slice bo m.length bc) _ rfl rfl rfl
  case o18x2 => exact fun _ _ _ _ => jg (v := nK i) _ rfl rfl rfl
  case o19x2 => exact fun _ _ hw _ => jd (v := .pointer (pK kM bo i 0)) rfl (zf rM (((HB.gro GG)).gro ((Gro.refl _).drew.trans hw)) _ _ rfl rfl i rfl (by omega))
  case o20x2 => exact fun _ _ hw _ => jd (v := .pointer (pK kM bo i 16)) rfl (zn (((HB.gro GG)).gro ((Gro.refl _).drew.trans hw)) 56 _ 1 16 (JA _) rfl i rfl (by omega))
  case o21x2 => exact fun _ _ hw _ => jd (v := .agg (veA (m.getD i zM).ver)) rfl (ye (((HB.gro GG)).gro ((Gro.refl _).drew.trans hw)) _ rfl i rfl (by omega))
  case o22x2 => exact fun _ _ _ _ => jd (v := vT) rfl (JM _ _ _ rfl _ _ rfl rfl (atM HA hlt).ver (atM HB hlt2).ver true k2)
  case o23x2 => exact fun _ _ _ _ => zL (v := vT) _ _ _ rfl rfl false rfl rfl
  case o24x2 => exact fun _ _ _ _ => jg (v := vT) _ rfl rfl rfl
  case o25x2 => exact fun _ _ _ _ => jC rfl
  case o26x2 => exact fun _ _ _ _ => jC rfl
  case o27x2 => exact fun _ _ _ _ => jC rfl
  case o28x2 => exact fun _ _ _ _ => jC rfl
  case o29x2 => exact fun _ _ _ _ => jC rfl
  case o30x2 => exact fun _ _ _ _ => jC rfl
  case o31x2 => exact fun _ _ _ _ => jC rfl
  case o32x2 => exact fun _ _ _ _ => jC rfl
  case o33x2 => exact fun _ _ _ _ => jC rfl
  case o34x2 => exact fun _ _ _ _ => jC rfl
  case o35x2 => exact fun _ _ _ _ => jC rfl
  case o36x2 => exact fun _ _ _ _ => jC rfl
  case o37x2 => exact fun _ _ _ _ => jC rfl
  intro ptrs w1 GD hxE
  simp only [List.drop_succ_cons, List.drop_zero]
  replace GG := GG.drew.trans GD
  clear GD
  refine ja 55 rfl rfl (vT) (rfl) ?_
  refine nr ?_; intro U h; simp only [z0, z1] at h; subst h
  refine qL (qT rfl (qS ?_))
  refine ja 4 rfl rfl (vF) (rfl) ?_
  refine nr ?_; intro U h; simp only [z0, z1] at h; subst h
  refine qL (qR (zk (jr (jr (zk (jr ?_))))))
  refine bodyPost_ret (results_tmp Try.results16 _ _ _) rfl ?_
  refine ⟨?_, GG⟩
  rw [hq (fun e => hne (Vv e i))]
  rfl
  cases k3 : decide (bas (l.getD i zM).val = bas (m.getD i zM).val)
  have hne : ¬ (l.getD i zM).sg = (m.getD i zM).sg := fun e => of_decide_eq_false k3 ((jbz (NA.at hlt) (NB.at hlt2)).2 (sg_iff.1 e).2.2)
  refine jl (A := ?Ax3) 38 [(0, 17), (1, 18), (2, 19), (3, 20), (4, 21), (5, 22), (6, 23), (7, 24), (8, 25), (9, 26), (10, 27), (11, 28), (12, 29), (13, 30), (14, 31), (15, 32), (16, 33), (17, 34), (18, 35), (19, 36), (20, 37), (21, 38), (22, 39), (23, 40), (24, 41), (25, 42), (26, 43), (27, 44), (28, 45), (29, 46), (30, 47), (31, 48), (32, 49), (33, 50), (34, 51), (35, 52), (36, 53), (37, 54)] [.val (.slice ao l.length cap), .val (nK i), .val (.pointer (pK kM ao i 0)), .val (.pointer (pK kM ao i 0)), .val (.agg (idA (l.getD i zM).key)), .val (.slice bo m.length bc), .val (nK i), .val (.pointer (pK kM bo i 0)), .val (.pointer (pK kM bo i 0)), .val (.agg (idA (m.getD i zM).key)), .val (vF), .val (vF), .val (.slice ao l.length cap), .val (nK i), .val (.pointer (pK kM ao i 0)), .val (.pointer (pK kM ao i 16)), .val (.agg (veA (l.getD i zM).ver)), .val (.slice bo m.length bc), .val (nK i), .val (.pointer (pK kM bo i 0)), .val (.pointer (pK kM bo i 16)), .val (.agg (veA (m.getD i zM).ver)), .val (vF), .val (vF), .val (vF), .val (.slice ao l.length cap), .val (nK i), .val (.pointer (pK kM ao i 0)), .val (.pointer (pK kM ao i 33)), .val (.slice (l.getD i zM).ao (l.getD i zM).val.length (l.getD i zM).cap), .val (.string (bas (l.getD i zM).val)), .val (.slice bo m.length bc), .val (nK i), .val (.pointer (pK kM bo i 0)), .val (.pointer (pK kM bo i 33)), .val (.slice (m.getD i zM).ao (m.getD i zM).val.length (m.getD i zM).cap), .val (.string (bas (m.getD i zM).val)), .val (vT)] follows (by kernel_rfl) rfl ?hAx3 (jb ?o0x3 (jb ?o1x3 (jb ?o2x3 (jb ?o3x3 (jb ?o4x3 (jb ?o5x3 (jb ?o6x3 (jb ?o7x3 (jb ?o8x3 (jb ?o9x3 (jb ?o10x3 (jb ?o11x3 (jb ?o12x3 (jb ?o13x3 (jb ?o14x3 (jb ?o15x3 (jb ?o16x3 (jb ?o17x3 (jb ?o18x3 (jb ?o19x3 (jb ?o20x3 (jb ?o21x3 (jb ?o22x3 (jb ?o23x3 (jb ?o24x3 (jb ?o25x3 (jb ?o26x3 (jb ?o27x3 (jb ?o28x3 (jb ?o29x3 (jb ?o30x3 (jb ?o31x3 (jb ?o32x3 (jb ?o33x3 (jb ?o34x3 (jb ?o35x3 (jb ?o36x3 (jb ?o37x3 jF)))))))))))))))))))))))))))))))))))))) ?restx3
  case hAx3 =>
    intro ptrs
    simp only [full, foldSlots, filledE, postE, List.foldl_cons, List.foldl_nil, List.getD_cons_zero, List.getD_cons_succ, jI, List.set_cons_zero, List.set_cons_succ]
    exact rfl
  case o0x3 => exact fun _ _ _ _ => jg (v := .slice ao l.length cap) _ rfl rfl rfl
  case o1x3 => exact fun _ _ _ _ => jg (v := nK i) _ rfl rfl rfl
  case o2x3 => exact fun _ _ hw _ => jd (v := .pointer (pK kM ao i 0)) rfl (zf rM (((HA.gro GG)).gro ((Gro.refl _).drew.trans hw)) _ _ rfl rfl i rfl (by omega))
  case o3x3 => exact fun _ _ hw _ => jd (v := .pointer (pK kM ao i 0)) rfl (zn (((HA.gro GG)).gro ((Gro.refl _).drew.trans hw)) 56 _ 0 0 (vG _) rfl i rfl (by omega))
  case o4x3 => exact fun _ _ hw _ => jd (v := .agg (idA (l.getD i zM).key)) rfl (zA (((HA.gro GG)).gro ((Gro.refl _).drew.trans hw)) _ rfl i rfl (by omega))
  case o5x3 => exact fun _ _ _ _ => jg (v := .slice bo m.length bc) _ rfl rfl rfl
  case o6x3 => exact fun _ _ _ _ => jg (v := nK i) _ rfl rfl rfl
  case o7x3 => exact fun _ _ hw _ => jd (v := .pointer (pK kM bo i 0)) rfl (zf rM (((HB.gro GG)).gro ((Gro.refl _).drew.trans hw)) _ _ rfl rfl i rfl (by omega))
  case o8x3 => exact fun _ _ hw _ => jd (v := .pointer (pK kM bo i 0)) rfl (zn (((HB.gro GG)).gro ((Gro.refl _).drew.trans hw)) 56 _ 0 0 (vG _) rfl i rfl (by omega))
  case o9x3 => exact fun _ _ hw _ => jd (v := .agg (idA (m.getD i zM).key)) rfl (zA (((HB.gro GG)).gro ((Gro.refl _).drew.trans hw)) _ rfl i rfl (by omega))
  case o10x3 => exact fun _ _ _ _ => jd (v := vF) rfl (JN _ _ _ rfl _ _ rfl rfl (atM HA hlt).key (atM HB hlt2).key false k1)
  case o11x3 => exact fun _ _ _ _ => jg (v := vF) _ rfl rfl rfl
  case o12x3 => exact fun _ _ _ _ => jg (v := .slice ao l.length cap) _ rfl rfl rfl
  case o13x3 => exact fun _ _ _ _ => jg (v := nK i) _ rfl rfl rfl
  case o14x3 => exact fun _ _ hw _ => jd (v := .pointer (pK kM ao i 0)) rfl (zf rM (((HA.gro GG)).gro ((Gro.refl _).drew.trans hw)) _ _ rfl rfl i rfl (by omega))
  case o15x3 => exact fun _ _ hw _ => jd (v := .pointer (pK kM ao i 16)) rfl (zn (((HA.gro GG)).gro ((Gro.refl _).drew.trans hw)) 56 _ 1 16 (JA _) rfl i rfl (by omega))
  case o16x3 => exact fun _ _ hw _ => jd (v := .agg (veA (l.getD i zM).ver)) rfl (ye (((HA.gro GG)).gro ((Gro.refl _).drew.trans hw)) _ rfl i rfl (by omega))
  case o17x3 => exact fun _ _ _ _ => jg (v := .slice bo m.length bc) _ rfl rfl rfl
  case o18x3 => exact fun _ _ _ _ => jg (v := nK i) _ rfl rfl rfl
  case o19x3 => exact fun _ _ hw _ => jd (v := .pointer (pK kM bo i 0)) rfl (zf rM (((HB.gro GG)).gro ((Gro.refl _).drew.trans hw)) _ _ rfl rfl i rfl (by omega))
  case o20x3 => exact fun _ _ hw _ => jd (v := .pointer (pK kM bo i 16)) rfl (zn (((HB.gro GG)).gro ((Gro.refl _).drew.trans hw)) 56 _ 1 16 (JA _) rfl i rfl (by omega))
  case o21x3 => exact fun _ _ hw _ => jd (v := .agg (veA (m.getD i zM).ver)) rfl (ye (((HB.gro GG)).gro ((Gro.refl _).drew.trans hw)) _ rfl i rfl (by omega))
  case o22x3 => exact fun _ _ _ _ => jd (v := vF) rfl (JM _ _ _ rfl _ _ rfl rfl (atM HA hlt).ver (atM HB hlt2).ver false k2)
  case o23x3 => exact fun _ _ _ _ => zL (v := vF) _ _ _ rfl rfl false rfl rfl
  case o24x3 => exact fun _ _ _ _ => jg (v := vF) _ rfl rfl rfl
  case o25x3 => exact fun _ _ _ _ => jg (v := .slice ao l.length cap) _ rfl rfl rfl
  case o26x3 => exact fun _ _ _ _ => jg (v := nK i) _ rfl rfl rfl
  case o27x3 => exact fun _ _ hw _ => jd (v := .pointer (pK kM ao i 0)) rfl (zf rM (((HA.gro GG)).gro ((Gro.refl _).drew.trans hw)) _ _ rfl rfl i rfl (by omega))
  case o28x3 => exact fun _ _ hw _ => jd (v := .pointer (pK kM ao i 33)) rfl (zn (((HA.gro GG)).gro ((Gro.refl _).drew.trans hw)) 56 _ 2 33 (UU _) rfl i rfl (by omega))
  case o29x3 => exact fun _ _ hw _ => jd (v := .slice (l.getD i zM).ao (l.getD i zM).val.length (l.getD i zM).cap) rfl (uc (((HA.gro GG)).gro ((Gro.refl _).drew.trans hw)) _ rfl i rfl (by omega))
  case o30x3 => exact fun _ _ hw _ => jd (v := .string (bas (l.getD i zM).val)) rfl (zB bT 9 rfl _ rfl rfl ((((NA.at hlt).gro GG)).gro ((Gro.refl _).drew.trans hw)))
  case o31x3 => exact fun _ _ _ _ => jg (v := .slice bo m.length bc) _ rfl rfl rfl
  case o32x3 => exact fun _ _ _ _ => jg (v := nK i) _ rfl rfl rfl
  case o33x3 => exact fun _ _ hw _ => jd (v := .pointer (pK kM bo i 0)) rfl (zf rM (((HB.gro GG)).gro ((Gro.refl _).drew.trans hw)) _ _ rfl rfl i rfl (by omega))
  case o34x3 => exact fun _ _ hw _ => jd (v := .pointer (pK kM bo i 33)) rfl (zn (((HB.gro GG)).gro ((Gro.refl _).drew.trans hw)) 56 _ 2 33 (UU _) rfl i rfl (by omega))
  case o35x3 => exact fun _ _ hw _ => jd (v := .slice (m.getD i zM).ao (m.getD i zM).val.length (m.getD i zM).cap) rfl (uc (((HB.gro GG)).gro ((Gro.refl _).drew.trans hw)) _ rfl i rfl (by omega))
  case o36x3 => exact fun _ _ hw _ => jd (v := .string (bas (m.getD i zM).val)) rfl (zB bT 9 rfl _ rfl rfl ((((NB.at hlt2).gro GG)).gro ((Gro.refl _).drew.trans hw)))
  case o37x3 => exact fun _ _ _ _ => jd (v := vT) rfl (vw _ _ _ rfl _ _ rfl rfl true k3 _)
  intro ptrs w1 GD hxE
  simp only [List.drop_succ_cons, List.drop_zero]
  replace GG := GG.drew.trans GD
  clear GD
  refine ja 55 rfl rfl (vT) (rfl) ?_
  refine nr ?_; intro U h; simp only [z0, z1] at h; subst h
  refine qL (qT rfl (qS ?_))
  refine ja 4 rfl rfl (vF) (rfl) ?_
  refine nr ?_; intro U h; simp only [z0, z1] at h; subst h
  refine qL (qR (zk (jr (jr (zk (jr ?_))))))
  refine bodyPost_ret (results_tmp Try.results16 _ _ _) rfl ?_
  refine ⟨?_, GG⟩
  rw [hq (fun e => hne (Vv e i))]
  rfl
  have hsg : (l.getD i zM).sg = (m.getD i zM).sg := sg_iff.2 ⟨of_decide_eq_true k1, k2, (jbz (NA.at hlt) (NB.at hlt2)).1 (of_decide_eq_true k3)⟩
  refine jl (A := ?Ax4) 38 [(0, 17), (1, 18), (2, 19), (3, 20), (4, 21), (5, 22), (6, 23), (7, 24), (8, 25), (9, 26), (10, 27), (11, 28), (12, 29), (13, 30), (14, 31), (15, 32), (16, 33), (17, 34), (18, 35), (19, 36), (20, 37), (21, 38), (22, 39), (23, 40), (24, 41), (25, 42), (26, 43), (27, 44), (28, 45), (29, 46), (30, 47), (31, 48), (32, 49), (33, 50), (34, 51), (35, 52), (36, 53), (37, 54)] [.val (.slice ao l.length cap), .val (nK i), .val (.pointer (pK kM ao i 0)), .val (.pointer (pK kM ao i 0)), .val (.agg (idA (l.getD i zM).key)), .val (.slice bo m.length bc), .val (nK i), .val (.pointer (pK kM bo i 0)), .val (.pointer (pK kM bo i 0)), .val (.agg (idA (m.getD i zM).key)), .val (vF), .val (vF), .val (.slice ao l.length cap), .val (nK i), .val (.pointer (pK kM ao i 0)), .val (.pointer (pK kM ao i 16)), .val (.agg (veA (l.getD i zM).ver)), .val (.slice bo m.length bc), .val (nK i), .val (.pointer (pK kM bo i 0)), .val (.pointer (pK kM bo i 16)), .val (.agg (veA (m.getD i zM).ver)), .val (vF), .val (vF), .val (vF), .val (.slice ao l.length cap), .val (nK i), .val (.pointer (pK kM ao i 0)), .val (.pointer (pK kM ao i 33)), .val (.slice (l.getD i zM).ao (l.getD i zM).val.length (l.getD i zM).cap), .val (.string (bas (l.getD i zM).val)), .val (.slice bo m.length bc), .val (nK i), .val (.pointer (pK kM bo i 0)), .val (.pointer (pK kM bo i 33)), .val (.slice (m.getD i zM).ao (m.getD i zM).val.length (m.getD i zM).cap), .val (.string (bas (m.getD i zM).val)), .val (vF)] follows (by kernel_rfl) rfl ?hAx4 (jb ?o0x4 (jb ?o1x4 (jb ?o2x4 (jb ?o3x4 (jb ?o4x4 (jb ?o5x4 (jb ?o6x4 (jb ?o7x4 (jb ?o8x4 (jb ?o9x4 (jb ?o10x4 (jb ?o11x4 (jb ?o12x4 (jb ?o13x4 (jb ?o14x4 (jb ?o15x4 (jb ?o16x4 (jb ?o17x4 (jb ?o18x4 (jb ?o19x4 (jb ?o20x4 (jb ?o21x4 (jb ?o22x4 (jb ?o23x4 (jb ?o24x4 (jb ?o25x4 (jb ?o26x4 (jb ?o27x4 (jb ?o28x4 (jb ?o29x4 (jb ?o30x4 (jb ?o31x4 (jb ?o32x4 (jb ?o33x4 (jb ?o34x4 (jb ?o35x4 (jb ?o36x4 (jb ?o37x4 jF)))))))))))))))))))))))))))))))))))))) ?restx4
  case hAx4 =>
    intro ptrs
    simp only [full, foldSlots, filledE, postE, List.foldl_cons, List.foldl_nil, List.getD_cons_zero, List.getD_cons_succ, jI, List.set_cons_zero, List.set_cons_succ]
    exact rfl
  case o0x4 => exact fun _ _ _ _ => jg (v := .slice ao l.length cap) _ rfl rfl rfl
  case o1x4 => exact fun _ _ _ _ => jg (v := nK i) _ rfl rfl rfl
  case o2x4 => exact fun _ _ hw _ => jd (v := .pointer (pK kM ao i 0)) rfl (zf rM (((HA.gro GG)).gro ((Gro.refl _).drew.trans hw)) _ _ rfl rfl i rfl (by omega))
  case o3x4 => exact fun _ _ hw _ => jd (v := .pointer (pK kM ao i 0)) rfl (zn (((HA.gro GG)).gro ((Gro.refl _).drew.trans hw)) 56 _ 0 0 (vG _) rfl i rfl (by omega))
  case o4x4 => exact fun _ _ hw _ => jd (v := .agg (idA (l.getD i zM).key)) rfl (zA (((HA.gro GG)).gro ((Gro.refl _).drew.trans hw)) _ rfl i rfl (by omega))
  case o5x4 => exact fun _ _ _ _ => jg (v := .slice bo m.length bc) _ rfl rfl rfl
  case o6x4 => exact fun _ _ _ _ => jg (v := nK i) _ rfl rfl rfl
  case o7x4 => exact fun _ _ hw _ => jd (v := .pointer (pK kM bo i 0)) rfl (zf rM (((HB.gro GG)).gro ((Gro.refl _).drew.trans hw)) _ _ rfl rfl i rfl (by omega))
  case o8x4 => exact fun _ _ hw _ => jd (v := .pointer (pK kM bo i 0)) rfl (zn (((HB.gro GG)).gro ((Gro.refl _).drew.trans hw)) 56 _ 0 0 (vG _) rfl i rfl (by omega))
  case o9x4 => exact fun _ _ hw _ => jd (v := .agg (idA (m.getD i zM).key)) rfl (zA (((HB.gro GG)).gro ((Gro.refl _).drew.trans hw)) _ rfl i rfl (by omega))
  case o10x4 => exact fun _ _ _ _ => jd (v := vF) rfl (JN _ _ _ rfl _ _ rfl rfl (atM HA hlt).key (atM HB hlt2).key false k1)
  case o11x4 => exact fun _ _ _ _ => jg (v := vF) _ rfl rfl rfl
  case o12x4 => exact fun _ _ _ _ => jg (v := .slice ao l.length cap) _ rfl rfl rfl
  case o13x4 => exact fun _ _ _ _ => jg (v := nK i) _ rfl rfl rfl
  case o14x4 => exact fun _ _ hw _ => jd (v := .pointer (pK kM ao i 0)) rfl (zf rM (((HA.gro GG)).gro ((Gro.refl _).drew.trans hw)) _ _ rfl rfl i rfl (by omega))
  case o15x4 => exact fun _ _ hw _ => jd (v := .pointer (pK kM ao i 16)) rfl (zn (((HA.gro GG)).gro ((Gro.refl _).drew.trans hw)) 56 _ 1 16 (JA _) rfl i rfl (by omega))
  case o16x4 => exact fun _ _ hw _ => jd (v := .agg (veA (l.getD i zM).ver)) rfl (ye (((HA.gro GG)).gro ((Gro.refl _).drew.trans hw)) _ rfl i rfl (by omega))
  case o17x4 => exact fun _ _ _ _ => jg (v := .slice bo m.length bc) _ rfl rfl rfl
  case o18x4 => exact fun _ _ _ _ => jg (v := nK i) _ rfl rfl rfl
  case o19x4 => exact fun _ _ hw _ => jd (v := .pointer (pK kM bo i 0)) rfl (zf rM (((HB.gro GG)).gro ((Gro.refl _).drew.trans hw)) _ _ rfl rfl i rfl (by omega))
  case o20x4 => exact fun _ _ hw _ => jd (v := .pointer (pK kM bo i 16)) rfl (zn (((HB.gro GG)).gro ((Gro.refl _).drew.trans hw)) 56 _ 1 16 (JA _) rfl i rfl (by omega))
  case o21x4 => exact fun _ _ hw _ => jd (v := .agg (veA (m.getD i zM).ver)) rfl (ye (((HB.gro GG)).gro ((Gro.refl _).drew.trans hw)) _ rfl i rfl (by omega))
  case o22x4 => exact fun _ _ _ _ => jd (v := vF) rfl (JM _ _ _ rfl _ _ rfl rfl (atM HA hlt).ver (atM HB hlt2).ver false k2)
  case o23x4 => exact fun _ _ _ _ => zL (v := vF) _ _ _ rfl rfl false rfl rfl
  case o24x4 => exact fun _ _ _ _ => jg (v := vF) _ rfl rfl rfl
  case o25x4 => exact fun _ _ _ _ => jg (v := .slice ao l.length cap) _ rfl rfl rfl
  case o26x4 => exact fun _ _ _ _ => jg (v := nK i) _ rfl rfl rfl
  case o27x4 => exact fun _ _ hw _ => jd (v := .pointer (pK kM ao i 0)) rfl (zf rM (((HA.gro GG)).gro ((Gro.refl _).drew.trans hw)) _ _ rfl rfl i rfl (by omega))
  case o28x4 => exact fun _ _ hw _ => jd (v := .pointer (pK kM ao i 33)) rfl (zn (((HA.gro GG)).gro ((Gro.refl _).drew.trans hw)) 56 _ 2 33 (UU _) rfl i rfl (by omega))
  case o29x4 => exact fun _ _ hw _ => jd (v := .slice (l.getD i zM).ao (l.getD i zM).val.length (l.getD i zM).cap) rfl (uc (((HA.gro GG)).gro ((Gro.refl _).drew.trans hw)) _ rfl i rfl (by omega))
  case o30x4 => exact fun _ _ hw _ => jd (v := .string (bas (l.getD i zM).val)) rfl (zB bT 9 rfl _ rfl rfl ((((NA.at hlt).gro GG)).gro ((Gro.refl _).drew.trans hw)))
  case o31x4 => exact fun _ _ _ _ => jg (v := .slice bo m.length bc) _ rfl rfl rfl
  case o32x4 => exact fun _ _ _ _ => jg (v := nK i) _ rfl rfl rfl
  case o33x4 => exact fun _ _ hw _ => jd (v := .pointer (pK kM bo i 0)) rfl (zf rM (((HB.gro GG)).gro ((Gro.refl _).drew.trans hw)) _ _ rfl rfl i rfl (by omega))
  case o34x4 => exact fun _ _ hw _ => jd (v := .pointer (pK kM bo i 33)) rfl (zn (((HB.gro GG)).gro ((Gro.refl _).drew.trans hw)) 56 _ 2 33 (UU _) rfl i rfl (by omega))
  case o35x4 => exact fun _ _ hw _ => jd (v := .slice (m.getD i zM).ao (m.getD i zM).val.length (m.getD i zM).cap) rfl (uc (((HB.gro GG)).gro ((Gro.refl _).drew.trans hw)) _ rfl i rfl (by omega))
  case o36x4 => exact fun _ _ hw _ => jd (v := .string (bas (m.getD i zM).val)) rfl (zB bT 9 rfl _ rfl rfl ((((NB.at hlt2).gro GG)).gro ((Gro.refl _).drew.trans hw)))
  case o37x4 => exact fun _ _ _ _ => jd (v := vF) rfl (vw _ _ _ rfl _ _ rfl rfl false k3 _)
  intro ptrs w1 GD hxE
  simp only [List.drop_succ_cons, List.drop_zero]
  replace GG := GG.drew.trans GD
  clear GD
  refine ja 55 rfl rfl (vF) (rfl) ?_
  refine nr ?_; intro U h; simp only [z0, z1] at h; subst h
  refine qL (qF rfl (wp_skip (zh (jG (qG ?_)))))
  refine ja 15 rfl rfl (nK i) (rfl) ?_
  refine ja 16 rfl rfl (nK (i + 1)) (zm 3 _ _ _ rfl ((i : Nat) : Int) 1 ((i + 1 : Nat) : Int) rfl rfl (by omega) (by omega) (by omega) _) ?_
  refine ja 5 rfl rfl (nK (i + 1)) (rfl) ?_
  refine nr ?_; intro U h; simp only [z0, z1] at h; subst h
  refine qL ?_
  exact ⟨_, by omega, i + 1, (fun kz => ([us1 0, nK i, .slice ao l.length cap, nK l.length, vT, nK i, nK (i + 1), .slice ao l.length cap, nK i, .pointer (pK kM ao i 0), .pointer (pK kM ao i 0), .agg (idA (l.getD i zM).key), .slice bo m.length bc, nK i, .pointer (pK kM bo i 0), .pointer (pK kM bo i 0), .agg (idA (m.getD i zM).key), vF, vF, .slice ao l.length cap, nK i, .pointer (pK kM ao i 0), .pointer (pK kM ao i 16), .agg (veA (l.getD i zM).ver), .slice bo m.length bc, nK i, .pointer (pK kM bo i 0), .pointer (pK kM bo i 16), .agg (veA (m.getD i zM).ver), vF, vF, vF, .slice ao l.length cap, nK i, .pointer (pK kM ao i 0), .pointer (pK kM ao i 33), .slice (l.getD i zM).ao (l.getD i zM).val.length (l.getD i zM).cap, .string (bas (l.getD i zM).val), .slice bo m.length bc, nK i, .pointer (pK kM bo i 0), .pointer (pK kM bo i 33), .slice (m.getD i zM).ao (m.getD i zM).val.length (m.getD i zM).cap, .string (bas (m.getD i zM).val), vF, vF] : List Value).getD kz uD), rfl, rfl, GG, by omega, fun j hj => by (rcases Nat.lt_or_ge j i with c | c; (exact hE j c); (rw [show j = i by omega]; exact hsg))⟩
end Go.Proofs.Ytgfnjekpafempaa
