import Derived.Test.YtgfnjekpafempaaGreatBV11
import Derived.Test.YtgfnjekpafempaaGreatBAb
namespace Go.Proofs.YtgfnjekpafempaaGreat
open Go.Proofs.Tryz
set_option maxHeartbeats 4000000
set_option maxRecDepth 100000
open Go.RowKit
structure Sg where
  key : Nat
  n : Int
  who : Nat
  val : List Nat
def IM.sg (x : IM) : Sg := ⟨x.key, x.n, x.who, x.val⟩
theorem sg_iff {a b : IM} : a.sg = b.sg ↔ a.key = b.key ∧ eqV a.ver b.ver = true ∧ a.val = b.val := by
  unfold IM.sg eqV IM.ver
  constructor
  · intro h
    injection h with h1 h2 h3 h4
    exact ⟨h1, by simp [h2, h3], h4⟩
  · rintro ⟨h1, h2, h3⟩
    simp only [Bool.and_eq_true, decide_eq_true_eq] at h2
    rw [h1, h2.1, h2.2, h3]
def sameM (l m : List IM) : Prop := l.map IM.sg = m.map IM.sg
theorem sgs_eq {l m : List IM} (hl : l.length = m.length) (h : ∀ j, j < l.length → (l.getD j zM).sg = (m.getD j zM).sg) : sameM l m := by
  apply List.ext_getElem
  · rw [List.length_map, List.length_map, hl]
  · intro j h1 h2
    rw [List.length_map] at h1 h2
    have := h j h1
    rw [List.getD_eq_getElem?_getD, List.getElem?_eq_getElem h1, List.getD_eq_getElem?_getD, List.getElem?_eq_getElem h2] at this
    simpa using this
theorem UN {l m : List IM} (h : sameM l m) (j : Nat) : (l.getD j zM).sg = (m.getD j zM).sg := by
  have h1 : (l.map IM.sg)[j]? = (m.map IM.sg)[j]? := by rw [h]
  rw [List.getElem?_map, List.getElem?_map] at h1
  rw [List.getD_eq_getElem?_getD, List.getD_eq_getElem?_getD]
  cases hl : l[j]? with
  | none =>
    rw [hl] at h1
    cases hm : m[j]? with
    | none => rfl
    | some y => rw [hm] at h1; cases h1
  | some x =>
    rw [hl] at h1
    cases hm : m[j]? with
    | none => rw [hm] at h1; cases h1
    | some y =>
      rw [hm] at h1
      injection h1
theorem sgs_len {l m : List IM} (h : sameM l m) : l.length = m.length := by
  have := congrArg List.length h
  rwa [List.length_map, List.length_map] at this
theorem bas_eq {a b : List Nat} {w : World} {ao bo : Option Addr} {ac bc : Nat} (ha : NC w .u8 ao ac a) (hb : NC w .u8 bo bc b) : bas a = bas b ↔ a = b := ⟨fun h => bas_inj ha.lt256 hb.lt256 h, fun h => by rw [h]⟩
theorem VN (w : World) (ao bo : Option Addr) (cap bc : Nat) (l m : List IM) (HA : RK kM w ao cap l) (HB : RK kM w bo bc m) (NA : NCs w l) (NB : NCs w m) (hll : l.length ≤ 4611686018427387904) (q : Bool) (hp : sameM l m → q = true) (hq : ¬ sameM l m → q = false) : Calls Tryz.prog 18 #[.slice ao l.length cap, .slice bo m.length bc] w (fun e w' => e = .returned (.bool q) ∧ Gro w w') := by
  refine eN func18 rfl ntmps18 [.slice ao l.length cap, .slice bo m.length bc] ?_
  have GG := Gro.refl w
  refine qE (qG (mv (vF) rfl (nq ?_)))
  refine qL (qE (qE ?_))
  cases t1 : decide (((l.length : Nat) : Int) = ((m.length : Nat) : Int))
  have hc := of_decide_eq_false t1
  refine qG (mv (.slice ao l.length cap) rfl (sv (nK l.length) (js underlying58 _ rfl _ _ _ rfl _) rfl (mv (.slice bo m.length bc) rfl (sv (nK m.length) (js underlying58 _ rfl _ _ _ rfl _) rfl (sv (vT) (jj 3 .i64 _ _ _ rfl underlying3 ((l.length : Nat) : Int) ((m.length : Nat) : Int) rfl rfl true t1 _) rfl (nq ?_))))))
  refine qL (qT rfl (qE (qG (mv (vF) rfl (nq ?_)))))
  refine qL (qR (jm ?_))
  refine bodyPost_ret (results_tmp results18 _ _ _) rfl ?_
  refine ⟨?_, GG⟩
  rw [hq (fun e => hc (by rw [sgs_len e]))]
  rfl
  have hlm : l.length = m.length := by have := of_decide_eq_true t1; omega
  refine qG (mv (.slice ao l.length cap) rfl (sv (nK l.length) (js underlying58 _ rfl _ _ _ rfl _) rfl (mv (.slice bo m.length bc) rfl (sv (nK m.length) (js underlying58 _ rfl _ _ _ rfl _) rfl (sv (vF) (jj 3 .i64 _ _ _ rfl underlying3 ((l.length : Nat) : Int) ((m.length : Nat) : Int) rfl rfl false t1 _) rfl (nq ?_))))))
  refine qL (qF rfl (qK (qE (qE (qG (mv (iK 0) rfl (nq ?_)))))))
  refine qL (qB ?_)
  refine jO (fun mz az wv => ∃ (i : Nat) (us1 : Nat → Value), mz = l.length - i ∧ az = ⟨[.slice ao l.length cap, .slice bo m.length bc, uD, uD, us1 4, nK i, .slice ao l.length cap, nK l.length, .slice bo m.length bc, nK m.length, vF, us1 11, us1 12, us1 13, us1 14, us1 15, us1 16, us1 17, us1 18, us1 19, us1 20, us1 21, us1 22, us1 23, us1 24, us1 25, us1 26, us1 27, us1 28, us1 29, us1 30, us1 31, us1 32, us1 33, us1 34, us1 35, us1 36, us1 37, us1 38, us1 39, us1 40, us1 41, us1 42, us1 43, us1 44, us1 45, us1 46, us1 47, us1 48, us1 49, us1 50, us1 51, us1 52, us1 53, us1 54, us1 55].toArray, []⟩ ∧ Gro w wv ∧ i ≤ l.length ∧ (∀ j, j < i → (l.getD j zM).sg = (m.getD j zM).sg)) ?_ _ ⟨0, usK ⟨GG, Nat.zero_le _, fun _ h => absurd h (Nat.not_lt_zero _)⟩⟩
  clear GG
  rintro mz az wv ⟨i, us1, rfl, rfl, GG, hi, hE⟩
  refine qE (qE ?_)
  cases t2 : decide (((i : Nat) : Int) < ((l.length : Nat) : Int))
  refine qG (mv (nK i) rfl (mv (.slice ao l.length cap) rfl (sv (nK l.length) (js underlying58 _ rfl _ _ _ rfl _) rfl (sv (vF) (jv 3 _ _ _ rfl ((i : Nat) : Int) ((l.length : Nat) : Int) rfl rfl false t2 _) rfl (nq ?_)))))
  refine qL (qF rfl (wp_exit (jG (jG (zp (jC (qE (qG (mv (vT) rfl (nq ?_))))))))))
  refine qL (qR ?_)
  refine bodyPost_ret (results_tmp results18 _ _ _) rfl ?_
  have hil : i = l.length := by have := of_decide_eq_false t2; omega
  refine ⟨?_, GG⟩
  rw [hp (sgs_eq hlm (fun j hj => hE j (by omega)))]
  rfl
  have hlt : i < l.length := by have := of_decide_eq_true t2; omega
  have hlt2 : i < m.length := by omega
  refine qG (mv (nK i) rfl (mv (.slice ao l.length cap) rfl (sv (nK l.length) (js underlying58 _ rfl _ _ _ rfl _) rfl (sv (vT) (jv 3 _ _ _ rfl ((i : Nat) : Int) ((l.length : Nat) : Int) rfl rfl true t2 _) rfl (nq ?_)))))
  refine qL (qT rfl (qK (qE (qB (qE ?_)))))
  cases k1 : decide ((l.getD i zM).key = (m.getD i zM).key)
  have hne : ¬ (l.getD i zM).sg = (m.getD i zM).sg := fun e => of_decide_eq_false k1 (sg_iff.1 e).1
  refine exQ 38 [(0, 17), (1, 18), (2, 19), (3, 20), (4, 21), (5, 22), (6, 23), (7, 24), (8, 25), (9, 26), (10, 27), (11, 28), (12, 29), (13, 30), (14, 31), (15, 32), (16, 33), (17, 34), (18, 35), (19, 36), (20, 37), (21, 38), (22, 39), (23, 40), (24, 41), (25, 42), (26, 43), (27, 44), (28, 45), (29, 46), (30, 47), (31, 48), (32, 49), (33, 50), (34, 51), (35, 52), (36, 53), (37, 54)] [.val (.slice ao l.length cap), .val (nK i), .val (.pointer (pK kM ao i 0)), .val (.pointer (pK kM ao i 0)), .val (eA (l.getD i zM).key), .val (.slice bo m.length bc), .val (nK i), .val (.pointer (pK kM bo i 0)), .val (.pointer (pK kM bo i 0)), .val (eA (m.getD i zM).key), .val (vT), .val (vT), .val uD, .val uD, .val uD, .val uD, .val uD, .val uD, .val uD, .val uD, .val uD, .val uD, .val uD, .val (vT), .val (vT), .val uD, .val uD, .val uD, .val uD, .val uD, .val uD, .val uD, .val uD, .val uD, .val uD, .val uD, .val uD, .val uD] follows (by kernel_rfl) rfl (ja ?_ (ja ?_ (ja ?_ (ja ?_ (ja ?_ (ja ?_ (ja ?_ (ja ?_ (ja ?_ (ja ?_ (ja ?_ (ja ?_ (ja ?_ (ja ?_ (ja ?_ (ja ?_ (ja ?_ (ja ?_ (ja ?_ (ja ?_ (ja ?_ (ja ?_ (ja ?_ (ja ?_ (ja ?_ (ja ?_ (ja ?_ (ja ?_ (ja ?_ (ja ?_ (ja ?_ (ja ?_ (ja ?_ (ja ?_ (ja ?_ (ja ?_ (ja ?_ (ja ?_ jD)))))))))))))))))))))))))))))))))))))) ?_
  exact fun _ _ _ _ => jf _ rfl rfl rfl
  exact fun _ _ _ _ => jf _ rfl rfl rfl
  exact fun _ _ hw _ => jb rfl (za rM (((HA.gro GG)).gro ((Gro.refl _).drew.trans hw)) _ _ rfl rfl i rfl (by omega))
  exact fun _ _ hw _ => jb rfl (zk (((HA.gro GG)).gro ((Gro.refl _).drew.trans hw)) 42 _ 0 0 (vm _) rfl i rfl (by omega))
  exact fun _ _ hw _ => jb rfl (zr (((HA.gro GG)).gro ((Gro.refl _).drew.trans hw)) _ rfl i rfl (by omega))
  exact fun _ _ _ _ => jf _ rfl rfl rfl
  exact fun _ _ _ _ => jf _ rfl rfl rfl
  exact fun _ _ hw _ => jb rfl (za rM (((HB.gro GG)).gro ((Gro.refl _).drew.trans hw)) _ _ rfl rfl i rfl (by omega))
  exact fun _ _ hw _ => jb rfl (zk (((HB.gro GG)).gro ((Gro.refl _).drew.trans hw)) 42 _ 0 0 (vm _) rfl i rfl (by omega))
  exact fun _ _ hw _ => jb rfl (zr (((HB.gro GG)).gro ((Gro.refl _).drew.trans hw)) _ rfl i rfl (by omega))
  exact fun _ _ _ _ => jb rfl (Zs _ _ _ rfl _ _ rfl rfl (atM HA hlt).key (atM HB hlt2).key true k1)
  exact fun _ _ _ _ => jf _ rfl rfl rfl
  exact fun _ _ _ _ => jA rfl
  exact fun _ _ _ _ => jA rfl
  exact fun _ _ _ _ => jA rfl
  exact fun _ _ _ _ => jA rfl
  exact fun _ _ _ _ => jA rfl
  exact fun _ _ _ _ => jA rfl
  exact fun _ _ _ _ => jA rfl
  exact fun _ _ _ _ => jA rfl
  exact fun _ _ _ _ => jA rfl
  exact fun _ _ _ _ => jA rfl
  exact fun _ _ _ _ => jA rfl
  exact fun _ _ _ _ => zw (v := vT) _ _ _ rfl rfl true rfl rfl
  exact fun _ _ _ _ => jf _ rfl rfl rfl
  exact fun _ _ _ _ => jA rfl
  exact fun _ _ _ _ => jA rfl
  exact fun _ _ _ _ => jA rfl
  exact fun _ _ _ _ => jA rfl
  exact fun _ _ _ _ => jA rfl
  exact fun _ _ _ _ => jA rfl
  exact fun _ _ _ _ => jA rfl
  exact fun _ _ _ _ => jA rfl
  exact fun _ _ _ _ => jA rfl
  exact fun _ _ _ _ => jA rfl
  exact fun _ _ _ _ => jA rfl
  exact fun _ _ _ _ => jA rfl
  exact fun _ _ _ _ => jA rfl
  intro ptrs w1 GD hxE
  simp only [List.drop_succ_cons, List.drop_zero]
  replace GG := GG.drew.trans GD
  clear GD
  refine mv (vT) rfl (nq ?_)
  refine qL (qT rfl (qE (qG (mv (vF) rfl (nq ?_)))))
  refine qL (qR (ze (jm (jm (ze (jm ?_))))))
  refine bodyPost_ret (results_tmp results18 _ _ _) rfl ?_
  refine ⟨?_, GG⟩
  rw [hq (fun e => hne (UN e i))]
  rfl
  cases k2 : eqV (l.getD i zM).ver (m.getD i zM).ver
  have hne : ¬ (l.getD i zM).sg = (m.getD i zM).sg := fun e => absurd ((sg_iff.1 e).2.1.symm.trans k2) (by decide)
  refine exQ 38 [(0, 17), (1, 18), (2, 19), (3, 20), (4, 21), (5, 22), (6, 23), (7, 24), (8, 25), (9, 26), (10, 27), (11, 28), (12, 29), (13, 30), (14, 31), (15, 32), (16, 33), (17, 34), (18, 35), (19, 36), (20, 37), (21, 38), (22, 39), (23, 40), (24, 41), (25, 42), (26, 43), (27, 44), (28, 45), (29, 46), (30, 47), (31, 48), (32, 49), (33, 50), (34, 51), (35, 52), (36, 53), (37, 54)] [.val (.slice ao l.length cap), .val (nK i), .val (.pointer (pK kM ao i 0)), .val (.pointer (pK kM ao i 0)), .val (eA (l.getD i zM).key), .val (.slice bo m.length bc), .val (nK i), .val (.pointer (pK kM bo i 0)), .val (.pointer (pK kM bo i 0)), .val (eA (m.getD i zM).key), .val (vF), .val (vF), .val (.slice ao l.length cap), .val (nK i), .val (.pointer (pK kM ao i 0)), .val (.pointer (pK kM ao i 16)), .val (.agg (veA (l.getD i zM).ver)), .val (.slice bo m.length bc), .val (nK i), .val (.pointer (pK kM bo i 0)), .val (.pointer (pK kM bo i 16)), .val (.agg (veA (m.getD i zM).ver)), .val (vT), .val (vT), .val (vT), .val uD, .val uD, .val uD, .val uD, .val uD, .val uD, .val uD, .val uD, .val uD, .val uD, .val uD, .val uD, .val uD] follows (by kernel_rfl) rfl (ja ?_ (ja ?_ (ja ?_ (ja ?_ (ja ?_ (ja ?_ (ja ?_ (ja ?_ (ja ?_ (ja ?_ (ja ?_ (ja ?_ (ja ?_ (ja ?_ (ja ?_ (ja ?_ (ja ?_ (ja ?_ (ja ?_ (ja ?_ (ja ?_ (ja ?_ (ja ?_ (ja ?_ (ja ?_ (ja ?_ (ja ?_ (ja ?_ (ja ?_ (ja ?_ (ja ?_ (ja ?_ (ja ?_ (ja ?_ (ja ?_ (ja ?_ (ja ?_ (ja ?_ jD)))))))))))))))))))))))))))))))))))))) ?_
  exact fun _ _ _ _ => jf _ rfl rfl rfl
  exact fun _ _ _ _ => jf _ rfl rfl rfl
  exact fun _ _ hw _ => jb rfl (za rM (((HA.gro GG)).gro ((Gro.refl _).drew.trans hw)) _ _ rfl rfl i rfl (by omega))
  exact fun _ _ hw _ => jb rfl (zk (((HA.gro GG)).gro ((Gro.refl _).drew.trans hw)) 42 _ 0 0 (vm _) rfl i rfl (by omega))
  exact fun _ _ hw _ => jb rfl (zr (((HA.gro GG)).gro ((Gro.refl _).drew.trans hw)) _ rfl i rfl (by omega))
  exact fun _ _ _ _ => jf _ rfl rfl rfl
  exact fun _ _ _ _ => jf _ rfl rfl rfl
  exact fun _ _ hw _ => jb rfl (za rM (((HB.gro GG)).gro ((Gro.refl _).drew.trans hw)) _ _ rfl rfl i rfl (by omega))
  exact fun _ _ hw _ => jb rfl (zk (((HB.gro GG)).gro ((Gro.refl _).drew.trans hw)) 42 _ 0 0 (vm _) rfl i rfl (by omega))
  exact fun _ _ hw _ => jb rfl (zr (((HB.gro GG)).gro ((Gro.refl _).drew.trans hw)) _ rfl i rfl (by omega))
  exact fun _ _ _ _ => jb rfl (Zs _ _ _ rfl _ _ rfl rfl (atM HA hlt).key (atM HB hlt2).key false k1)
  exact fun _ _ _ _ => jf _ rfl rfl rfl
  exact fun _ _ _ _ => jf _ rfl rfl rfl
  exact fun _ _ _ _ => jf _ rfl rfl rfl
  exact fun _ _ hw _ => jb rfl (za rM (((HA.gro GG)).gro ((Gro.refl _).drew.trans hw)) _ _ rfl rfl i rfl (by omega))
  exact fun _ _ hw _ => jb rfl (zk (((HA.gro GG)).gro ((Gro.refl _).drew.trans hw)) 42 _ 1 16 (Ze _) rfl i rfl (by omega))
  exact fun _ _ hw _ => jb rfl (yf (((HA.gro GG)).gro ((Gro.refl _).drew.trans hw)) _ rfl i rfl (by omega))
  exact fun _ _ _ _ => jf _ rfl rfl rfl
  exact fun _ _ _ _ => jf _ rfl rfl rfl
  exact fun _ _ hw _ => jb rfl (za rM (((HB.gro GG)).gro ((Gro.refl _).drew.trans hw)) _ _ rfl rfl i rfl (by omega))
  exact fun _ _ hw _ => jb rfl (zk (((HB.gro GG)).gro ((Gro.refl _).drew.trans hw)) 42 _ 1 16 (Ze _) rfl i rfl (by omega))
  exact fun _ _ hw _ => jb rfl (yf (((HB.gro GG)).gro ((Gro.refl _).drew.trans hw)) _ rfl i rfl (by omega))
  exact fun _ _ _ _ => jb rfl (Zr _ _ _ rfl _ _ rfl rfl (atM HA hlt).ver (atM HB hlt2).ver true k2)
  exact fun _ _ _ _ => zw (v := vT) _ _ _ rfl rfl false rfl rfl
  exact fun _ _ _ _ => jf _ rfl rfl rfl
  exact fun _ _ _ _ => jA rfl
  exact fun _ _ _ _ => jA rfl
  exact fun _ _ _ _ => jA rfl
  exact fun _ _ _ _ => jA rfl
  exact fun _ _ _ _ => jA rfl
  exact fun _ _ _ _ => jA rfl
  exact fun _ _ _ _ => jA rfl
  exact fun _ _ _ _ => jA rfl
  exact fun _ _ _ _ => jA rfl
  exact fun _ _ _ _ => jA rfl
  exact fun _ _ _ _ => jA rfl
  exact fun _ _ _ _ => jA rfl
  exact fun _ _ _ _ => jA rfl
  intro ptrs w1 GD hxE
  simp only [List.drop_succ_cons, List.drop_zero]
  replace GG := GG.drew.trans GD
  clear GD
  refine mv (vT) rfl (nq ?_)
  refine qL (qT rfl (qE (qG (mv (vF) rfl (nq ?_)))))
  refine qL (qR (ze (jm (jm (ze (jm ?_))))))
  refine bodyPost_ret (results_tmp results18 _ _ _) rfl ?_
  refine ⟨?_, GG⟩
  rw [hq (fun e => hne (UN e i))]
  rfl
  cases k3 : decide (bas (l.getD i zM).val = bas (m.getD i zM).val)
  have hne : ¬ (l.getD i zM).sg = (m.getD i zM).sg := fun e => of_decide_eq_false k3 ((bas_eq (NA.at hlt) (NB.at hlt2)).2 (sg_iff.1 e).2.2)
  refine exQ 38 [(0, 17), (1, 18), (2, 19), (3, 20), (4, 21), (5, 22), (6, 23), (7, 24), (8, 25), (9, 26), (10, 27), (11, 28), (12, 29), (13, 30), (14, 31), (15, 32), (16, 33), (17, 34), (18, 35), (19, 36), (20, 37), (21, 38), (22, 39), (23, 40), (24, 41), (25, 42), (26, 43), (27, 44), (28, 45), (29, 46), (30, 47), (31, 48), (32, 49), (33, 50), (34, 51), (35, 52), (36, 53), (37, 54)] [.val (.slice ao l.length cap), .val (nK i), .val (.pointer (pK kM ao i 0)), .val (.pointer (pK kM ao i 0)), .val (eA (l.getD i zM).key), .val (.slice bo m.length bc), .val (nK i), .val (.pointer (pK kM bo i 0)), .val (.pointer (pK kM bo i 0)), .val (eA (m.getD i zM).key), .val (vF), .val (vF), .val (.slice ao l.length cap), .val (nK i), .val (.pointer (pK kM ao i 0)), .val (.pointer (pK kM ao i 16)), .val (.agg (veA (l.getD i zM).ver)), .val (.slice bo m.length bc), .val (nK i), .val (.pointer (pK kM bo i 0)), .val (.pointer (pK kM bo i 16)), .val (.agg (veA (m.getD i zM).ver)), .val (vF), .val (vF), .val (vF), .val (.slice ao l.length cap), .val (nK i), .val (.pointer (pK kM ao i 0)), .val (.pointer (pK kM ao i 33)), .val (.slice (l.getD i zM).ao (l.getD i zM).val.length (l.getD i zM).cap), .val (.string (bas (l.getD i zM).val)), .val (.slice bo m.length bc), .val (nK i), .val (.pointer (pK kM bo i 0)), .val (.pointer (pK kM bo i 33)), .val (.slice (m.getD i zM).ao (m.getD i zM).val.length (m.getD i zM).cap), .val (.string (bas (m.getD i zM).val)), .val (vT)] follows (by kernel_rfl) rfl (ja ?_ (ja ?_ (ja ?_ (ja ?_ (ja ?_ (ja ?_ (ja ?_ (ja ?_ (ja ?_ (ja ?_ (ja ?_ (ja ?_ (ja ?_ (ja ?_ (ja ?_ (ja ?_ (ja ?_ (ja ?_ (ja ?_ (ja ?_ (ja ?_ (ja ?_ (ja ?_ (ja ?_ (ja ?_ (ja ?_ (ja ?_ (ja ?_ (ja ?_ (ja ?_ (ja ?_ (ja ?_ (ja ?_ (ja ?_ (ja ?_ (ja ?_ (ja ?_ (ja ?_ jD)))))))))))))))))))))))))))))))))))))) ?_
  exact fun _ _ _ _ => jf _ rfl rfl rfl
  exact fun _ _ _ _ => jf _ rfl rfl rfl
  exact fun _ _ hw _ => jb rfl (za rM (((HA.gro GG)).gro ((Gro.refl _).drew.trans hw)) _ _ rfl rfl i rfl (by omega))
  exact fun _ _ hw _ => jb rfl (zk (((HA.gro GG)).gro ((Gro.refl _).drew.trans hw)) 42 _ 0 0 (vm _) rfl i rfl (by omega))
  exact fun _ _ hw _ => jb rfl (zr (((HA.gro GG)).gro ((Gro.refl _).drew.trans hw)) _ rfl i rfl (by omega))
  exact fun _ _ _ _ => jf _ rfl rfl rfl
  exact fun _ _ _ _ => jf _ rfl rfl rfl
  exact fun _ _ hw _ => jb rfl (za rM (((HB.gro GG)).gro ((Gro.refl _).drew.trans hw)) _ _ rfl rfl i rfl (by omega))
  exact fun _ _ hw _ => jb rfl (zk (((HB.gro GG)).gro ((Gro.refl _).drew.trans hw)) 42 _ 0 0 (vm _) rfl i rfl (by omega))
  exact fun _ _ hw _ => jb rfl (zr (((HB.gro GG)).gro ((Gro.refl _).drew.trans hw)) _ rfl i rfl (by omega))
  exact fun _ _ _ _ => jb rfl (Zs _ _ _ rfl _ _ rfl rfl (atM HA hlt).key (atM HB hlt2).key false k1)
  exact fun _ _ _ _ => jf _ rfl rfl rfl
  exact fun _ _ _ _ => jf _ rfl rfl rfl
  exact fun _ _ _ _ => jf _ rfl rfl rfl
  exact fun _ _ hw _ => jb rfl (za rM (((HA.gro GG)).gro ((Gro.refl _).drew.trans hw)) _ _ rfl rfl i rfl (by omega))
  exact fun _ _ hw _ => jb rfl (zk (((HA.gro GG)).gro ((Gro.refl _).drew.trans hw)) 42 _ 1 16 (Ze _) rfl i rfl (by omega))
  exact fun _ _ hw _ => jb rfl (yf (((HA.gro GG)).gro ((Gro.refl _).drew.trans hw)) _ rfl i rfl (by omega))
  exact fun _ _ _ _ => jf _ rfl rfl rfl
  exact fun _ _ _ _ => jf _ rfl rfl rfl
  exact fun _ _ hw _ => jb rfl (za rM (((HB.gro GG)).gro ((Gro.refl _).drew.trans hw)) _ _ rfl rfl i rfl (by omega))
  exact fun _ _ hw _ => jb rfl (zk (((HB.gro GG)).gro ((Gro.refl _).drew.trans hw)) 42 _ 1 16 (Ze _) rfl i rfl (by omega))
  exact fun _ _ hw _ => jb rfl (yf (((HB.gro GG)).gro ((Gro.refl _).drew.trans hw)) _ rfl i rfl (by omega))
  exact fun _ _ _ _ => jb rfl (Zr _ _ _ rfl _ _ rfl rfl (atM HA hlt).ver (atM HB hlt2).ver false k2)
  exact fun _ _ _ _ => zw (v := vF) _ _ _ rfl rfl false rfl rfl
  exact fun _ _ _ _ => jf _ rfl rfl rfl
  exact fun _ _ _ _ => jf _ rfl rfl rfl
  exact fun _ _ _ _ => jf _ rfl rfl rfl
  exact fun _ _ hw _ => jb rfl (za rM (((HA.gro GG)).gro ((Gro.refl _).drew.trans hw)) _ _ rfl rfl i rfl (by omega))
  exact fun _ _ hw _ => jb rfl (zk (((HA.gro GG)).gro ((Gro.refl _).drew.trans hw)) 42 _ 2 33 (Kr _) rfl i rfl (by omega))
  exact fun _ _ hw _ => jb rfl (uu (((HA.gro GG)).gro ((Gro.refl _).drew.trans hw)) _ rfl i rfl (by omega))
  exact fun _ _ hw _ => jb rfl (zA bT 9 rfl _ rfl rfl ((((NA.at hlt).gro GG)).gro ((Gro.refl _).drew.trans hw)))
  exact fun _ _ _ _ => jf _ rfl rfl rfl
  exact fun _ _ _ _ => jf _ rfl rfl rfl
  exact fun _ _ hw _ => jb rfl (za rM (((HB.gro GG)).gro ((Gro.refl _).drew.trans hw)) _ _ rfl rfl i rfl (by omega))
  exact fun _ _ hw _ => jb rfl (zk (((HB.gro GG)).gro ((Gro.refl _).drew.trans hw)) 42 _ 2 33 (Kr _) rfl i rfl (by omega))
  exact fun _ _ hw _ => jb rfl (uu (((HB.gro GG)).gro ((Gro.refl _).drew.trans hw)) _ rfl i rfl (by omega))
  exact fun _ _ hw _ => jb rfl (zA bT 9 rfl _ rfl rfl ((((NB.at hlt2).gro GG)).gro ((Gro.refl _).drew.trans hw)))
  exact fun _ _ _ _ => jb rfl (uZ _ _ _ rfl _ _ rfl rfl true k3 _)
  intro ptrs w1 GD hxE
  simp only [List.drop_succ_cons, List.drop_zero]
  replace GG := GG.drew.trans GD
  clear GD
  refine mv (vT) rfl (nq ?_)
  refine qL (qT rfl (qE (qG (mv (vF) rfl (nq ?_)))))
  refine qL (qR (ze (jm (jm (ze (jm ?_))))))
  refine bodyPost_ret (results_tmp results18 _ _ _) rfl ?_
  refine ⟨?_, GG⟩
  rw [hq (fun e => hne (UN e i))]
  rfl
  have hsg : (l.getD i zM).sg = (m.getD i zM).sg := sg_iff.2 ⟨of_decide_eq_true k1, k2, (bas_eq (NA.at hlt) (NB.at hlt2)).1 (of_decide_eq_true k3)⟩
  refine exQ 38 [(0, 17), (1, 18), (2, 19), (3, 20), (4, 21), (5, 22), (6, 23), (7, 24), (8, 25), (9, 26), (10, 27), (11, 28), (12, 29), (13, 30), (14, 31), (15, 32), (16, 33), (17, 34), (18, 35), (19, 36), (20, 37), (21, 38), (22, 39), (23, 40), (24, 41), (25, 42), (26, 43), (27, 44), (28, 45), (29, 46), (30, 47), (31, 48), (32, 49), (33, 50), (34, 51), (35, 52), (36, 53), (37, 54)] [.val (.slice ao l.length cap), .val (nK i), .val (.pointer (pK kM ao i 0)), .val (.pointer (pK kM ao i 0)), .val (eA (l.getD i zM).key), .val (.slice bo m.length bc), .val (nK i), .val (.pointer (pK kM bo i 0)), .val (.pointer (pK kM bo i 0)), .val (eA (m.getD i zM).key), .val (vF), .val (vF), .val (.slice ao l.length cap), .val (nK i), .val (.pointer (pK kM ao i 0)), .val (.pointer (pK kM ao i 16)), .val (.agg (veA (l.getD i zM).ver)), .val (.slice bo m.length bc), .val (nK i), .val (.pointer (pK kM bo i 0)), .val (.pointer (pK kM bo i 16)), .val (.agg (veA (m.getD i zM).ver)), .val (vF), .val (vF), .val (vF), .val (.slice ao l.length cap), .val (nK i), .val (.pointer (pK kM ao i 0)), .val (.pointer (pK kM ao i 33)), .val (.slice (l.getD i zM).ao (l.getD i zM).val.length (l.getD i zM).cap), .val (.string (bas (l.getD i zM).val)), .val (.slice bo m.length bc), .val (nK i), .val (.pointer (pK kM bo i 0)), .val (.pointer (pK kM bo i 33)), .val (.slice (m.getD i zM).ao (m.getD i zM).val.length (m.getD i zM).cap), .val (.string (bas (m.getD i zM).val)), .val (vF)] follows (by kernel_rfl) rfl (ja ?_ (ja ?_ (ja ?_ (ja ?_ (ja ?_ (ja ?_ (ja ?_ (ja ?_ (ja ?_ (ja ?_ (ja ?_ (ja ?_ (ja ?_ (ja ?_ (ja ?_ (ja ?_ (ja ?_ (ja ?_ (ja ?_ (ja ?_ (ja ?_ (ja ?_ (ja ?_ (ja ?_ (ja ?_ (ja ?_ (ja ?_ (ja ?_ (ja ?_ (ja ?_ (ja ?_ (ja ?_ (ja ?_ (ja ?_ (ja ?_ (ja ?_ (ja ?_ (ja ?_ jD)))))))))))))))))))))))))))))))))))))) ?_
  exact fun _ _ _ _ => jf _ rfl rfl rfl
  exact fun _ _ _ _ => jf _ rfl rfl rfl
  exact fun _ _ hw _ => jb rfl (za rM (((HA.gro GG)).gro ((Gro.refl _).drew.trans hw)) _ _ rfl rfl i rfl (by omega))
  exact fun _ _ hw _ => jb rfl (zk (((HA.gro GG)).gro ((Gro.refl _).drew.trans hw)) 42 _ 0 0 (vm _) rfl i rfl (by omega))
  exact fun _ _ hw _ => jb rfl (zr (((HA.gro GG)).gro ((Gro.refl _).drew.trans hw)) _ rfl i rfl (by omega))
  exact fun _ _ _ _ => jf _ rfl rfl rfl
  exact fun _ _ _ _ => jf _ rfl rfl rfl
  exact fun _ _ hw _ => jb rfl (za rM (((HB.gro GG)).gro ((Gro.refl _).drew.trans hw)) _ _ rfl rfl i rfl (by omega))
  exact fun _ _ hw _ => jb rfl (zk (((HB.gro GG)).gro ((Gro.refl _).drew.trans hw)) 42 _ 0 0 (vm _) rfl i rfl (by omega))
  exact fun _ _ hw _ => jb rfl (zr (((HB.gro GG)).gro ((Gro.refl _).drew.trans hw)) _ rfl i rfl (by omega))
  exact fun _ _ _ _ => jb rfl (Zs _ _ _ rfl _ _ rfl rfl (atM HA hlt).key (atM HB hlt2).key false k1)
  exact fun _ _ _ _ => jf _ rfl rfl rfl
  exact fun _ _ _ _ => jf _ rfl rfl rfl
  exact fun _ _ _ _ => jf _ rfl rfl rfl
  exact fun _ _ hw _ => jb rfl (za rM (((HA.gro GG)).gro ((Gro.refl _).drew.trans hw)) _ _ rfl rfl i rfl (by omega))
  exact fun _ _ hw _ => jb rfl (zk (((HA.gro GG)).gro ((Gro.refl _).drew.trans hw)) 42 _ 1 16 (Ze _) rfl i rfl (by omega))
  exact fun _ _ hw _ => jb rfl (yf (((HA.gro GG)).gro ((Gro.refl _).drew.trans hw)) _ rfl i rfl (by omega))
  exact fun _ _ _ _ => jf _ rfl rfl rfl
  exact fun _ _ _ _ => jf _ rfl rfl rfl
  exact fun _ _ hw _ => jb rfl (za rM (((HB.gro GG)).gro ((Gro.refl _).drew.trans hw)) _ _ rfl rfl i rfl (by omega))
  exact fun _ _ hw _ => jb rfl (zk (((HB.gro GG)).gro ((Gro.refl _).drew.trans hw)) 42 _ 1 16 (Ze _) rfl i rfl (by omega))
  exact fun _ _ hw _ => jb rfl (yf (((HB.gro GG)).gro ((Gro.refl _).drew.trans hw)) _ rfl i rfl (by omega))
  exact fun _ _ _ _ => jb rfl (Zr _ _ _ rfl _ _ rfl rfl (atM HA hlt).ver (atM HB hlt2).ver false k2)
  exact fun _ _ _ _ => zw (v := vF) _ _ _ rfl rfl false rfl rfl
  exact fun _ _ _ _ => jf _ rfl rfl rfl
  exact fun _ _ _ _ => jf _ rfl rfl rfl
  exact fun _ _ _ _ => jf _ rfl rfl rfl
  exact fun _ _ hw _ => jb rfl (za rM (((HA.gro GG)).gro ((Gro.refl _).drew.trans hw)) _ _ rfl rfl i rfl (by omega))
  exact fun _ _ hw _ => jb rfl (zk (((HA.gro GG)).gro ((Gro.refl _).drew.trans hw)) 42 _ 2 33 (Kr _) rfl i rfl (by omega))
  exact fun _ _ hw _ => jb rfl (uu (((HA.gro GG)).gro ((Gro.refl _).drew.trans hw)) _ rfl i rfl (by omega))
  exact fun _ _ hw _ => jb rfl (zA bT 9 rfl _ rfl rfl ((((NA.at hlt).gro GG)).gro ((Gro.refl _).drew.trans hw)))
  exact fun _ _ _ _ => jf _ rfl rfl rfl
  exact fun _ _ _ _ => jf _ rfl rfl rfl
  exact fun _ _ hw _ => jb rfl (za rM (((HB.gro GG)).gro ((Gro.refl _).drew.trans hw)) _ _ rfl rfl i rfl (by omega))
  exact fun _ _ hw _ => jb rfl (zk (((HB.gro GG)).gro ((Gro.refl _).drew.trans hw)) 42 _ 2 33 (Kr _) rfl i rfl (by omega))
  exact fun _ _ hw _ => jb rfl (uu (((HB.gro GG)).gro ((Gro.refl _).drew.trans hw)) _ rfl i rfl (by omega))
  exact fun _ _ hw _ => jb rfl (zA bT 9 rfl _ rfl rfl ((((NB.at hlt2).gro GG)).gro ((Gro.refl _).drew.trans hw)))
  exact fun _ _ _ _ => jb rfl (uZ _ _ _ rfl _ _ rfl rfl false k3 _)
  intro ptrs w1 GD hxE
  simp only [List.drop_succ_cons, List.drop_zero]
  replace GG := GG.drew.trans GD
  clear GD
  refine mv (vF) rfl (nq ?_)
  refine qL (qF rfl (wp_skip (zb (jC (qG (mv (nK i) rfl (sv (nK (i + 1)) (jV 3 _ _ _ rfl ((i : Nat) : Int) 1 ((i + 1 : Nat) : Int) rfl rfl (by omega) (by omega) (by omega) _) rfl (mv (nK (i + 1)) rfl (nq ?_)))))))))
  refine qL ?_
  exact ⟨_, by omega, i + 1, usK ⟨GG, by omega, fun j hj => by (rcases Nat.lt_or_ge j i with c | c; (exact hE j c); (rw [show j = i by omega]; exact hsg))⟩⟩
theorem Ve (a b : IM) (ha : a.ok) (hb : b.ok) (w : World) (NA : NC w .u8 a.ao a.cap a.val) (NB : NC w .u8 b.ao b.cap b.val) (q : Bool) (hp : a.sg = b.sg → q = true) (hq : ¬ a.sg = b.sg → q = false) : Calls Tryz.prog 13 #[.agg (itA a), .agg (itA b)] w (fun e w' => e = .returned (.bool q) ∧ Gro w w') := by
  refine eN func13 rfl ntmps13 [iA a, iA b] ?_
  have GG := Gro.refl w
  refine qS ?_
  refine jW 2 rfl rfl 42 _ rfl _ rfl (itA a) rfl ?_
  intro w1 g1 G eg1 kg1
  have bg1 := jh GG eg1
  replace NA := NA.gro G
  replace NB := NB.gro G
  replace GG := GG.trans G
  clear G
  clear eg1
  refine nq ?_
  refine jW 3 rfl rfl 42 _ rfl _ rfl (itA b) rfl ?_
  intro w2 g2 G eg2 kg2
  have bg2 := jh GG eg2
  replace kg1 := G.has kg1
  replace NA := NA.gro G
  replace NB := NB.gro G
  replace GG := GG.trans G
  clear G
  clear eg2
  refine nq ?_
  refine mv (vF) rfl (nq ?_)
  refine qL (qE (qG (sv (iA a) (ldIt0 _ rfl g1 rfl (kg1)) rfl (nq ?_))))
  refine ye 6 rfl rfl 58 1 _ rfl [(0, iA a)] rfl ([a].flatMap kM.E).toArray 42 (bsM _ _) ?_
  intro w3 qHA G eqHA kqHA
  replace kg1 := G.has kg1
  replace kg2 := G.has kg2
  replace NA := NA.gro G
  replace NB := NB.gro G
  replace GG := GG.trans G
  clear G
  have HA : RK kM w3 (some ⟨qHA, 0, none⟩) 1 [a] := RK.blk kqHA (vg ha) (Nat.le_refl _)
  clear eqHA kqHA
  refine nq ?_
  refine sv (iA b) (ldIt0 _ rfl g2 rfl (kg2)) rfl (nq ?_)
  refine ye 8 rfl rfl 58 1 _ rfl [(0, iA b)] rfl ([b].flatMap kM.E).toArray 42 (bsM _ _) ?_
  intro w4 qHB G eqHB kqHB
  replace kg1 := G.has kg1
  replace kg2 := G.has kg2
  replace NA := NA.gro G
  replace NB := NB.gro G
  replace HA := HA.gro G
  replace GG := GG.trans G
  clear G
  have HB : RK kM w4 (some ⟨qHB, 0, none⟩) 1 [b] := RK.blk kqHB (vg hb) (Nat.le_refl _)
  clear eqHB kqHB
  refine nq ?_
  refine jr 9 rfl rfl _ 18 call18 rfl rfl _ rfl [.slice (some ⟨qHA, 0, none⟩) 1 1, .slice (some ⟨qHB, 0, none⟩) 1 1] rfl (VN _ _ _ 1 1 [a] [b] HA HB (vg NA) (vg NB) (Nat.le_of_ble_eq_true rfl) q (fun e => hp (by injection e)) (fun e => hq (fun c => e (by show [a.sg] = [b.sg]; rw [c])))) ?_
  intro w5 G
  replace kg1 := G.has kg1
  replace kg2 := G.has kg2
  replace NA := NA.gro G
  replace NB := NB.gro G
  replace HA := HA.gro G
  replace HB := HB.gro G
  replace GG := GG.trans G
  clear G
  refine nq ?_
  refine mv (.bool (q)) rfl (nq ?_)
  refine qL (qR ?_)
  refine bodyPost_ret (results_tmp results13 _ _ _) rfl ?_
  exact ⟨rfl, GG⟩
end Go.Proofs.YtgfnjekpafempaaGreat
