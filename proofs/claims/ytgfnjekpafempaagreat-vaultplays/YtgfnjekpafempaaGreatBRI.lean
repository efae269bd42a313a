import Derived.Test.YtgfnjekpafempaaGreatBRH
import Derived.Test.YtgfnjekpafempaaGreatBAb
namespace Go.Proofs.YtgfnjekpafempaaGreat
open Go.Proofs.Tryz
set_option maxHeartbeats 4000000
set_option maxRecDepth 100000
open Go.RowKit
theorem KR (C : Nat) (w : World) (vq mp rp B : Nat) (ro : Option Addr) (rc n : Nat) (L : List Nat) (pw dn : Int) (h : Hd) (dw : Bool) (inc : Int) (ao : Option Addr) (cap : Nat) (R : List IM) (H : VD C w vq mp rp B ro rc n L pw dn h dw inc ao cap R) (hRl : R.length ≤ 4096) (k : Nat) (hk : k < top) (bo : Option Addr) (bc : Nat) (l : List Nat) (z : Nat) (hl : 64 < l.length) : Calls Tryz.prog 12 #[vP vq 0, .agg (idA k), .slice bo l.length bc, .agg (idA z)] w (fun e w' => e = .returned (.tuple #[.agg (itA zM), iK 4]) ∧ Gro w w') := by
  have t1 : decide ((64 : Int) < ((l.length : Nat) : Int)) = true := decide_eq_true (by omega)
  refine eN func12 rfl ntmps12 [vP vq 0, eA k, .slice bo l.length bc, eA z] ?_
  have GG := Gro.refl w
  have kvq := H.box
  refine qS ?_
  refine jW 5 rfl rfl 38 _ rfl _ rfl (idA k) rfl ?_
  intro w1 g1 G eg1 kg1
  have bg1 := jh GG eg1
  replace kvq := G.has kvq
  replace GG := GG.trans G
  clear G
  clear eg1
  refine nq ?_
  refine jW 7 rfl rfl 38 _ rfl _ rfl (idA z) rfl ?_
  intro w2 g2 G eg2 kg2
  have bg2 := jh GG eg2
  replace kvq := G.has kvq
  replace kg1 := G.has kg1
  replace GG := GG.trans G
  clear G
  clear eg2
  refine nq ?_
  refine jH 8 rfl rfl 42 rfl _ zeroIt (itA zM) rfl ?_
  intro w3 g3 G eg3 kg3
  have bg3 := jh GG eg3
  have dvqg3 := jn kvq eg3
  have dg1g3 := jn kg1 eg3
  have dg2g3 := jn kg2 eg3
  replace kvq := G.has kvq
  replace kg1 := G.has kg1
  replace kg2 := G.has kg2
  replace GG := GG.trans G
  clear G
  clear eg3
  refine nq ?_
  refine mv (iK 0) rfl (nq ?_)
  refine qL (qE (qG (mv (vP vq 0) rfl (sv (eA k) (ldI0 _ rfl g1 rfl (kg1)) rfl (nq ?_)))))
  refine jr 17 rfl rfl _ 17 call17 rfl rfl _ rfl [vP vq 0, eA k] rfl (yW _ vq (some mp) ao cap R inc kvq (H.row.re.gro GG) hRl k hk) ?_
  intro w4 G
  replace kvq := G.has kvq
  replace kg1 := G.has kg1
  replace kg2 := G.has kg2
  replace kg3 := G.has kg3
  replace GG := GG.trans G
  clear G
  refine nq ?_
  refine mv (.tuple #[iA ((fkI R k).getD zM), .bool (fkI R k).isSome]) rfl (mv (iA ((fkI R k).getD zM)) rfl (mv (.bool (fkI R k).isSome) rfl (nq ?_)))
  refine jH 10 rfl rfl 42 rfl _ zeroIt (itA zM) rfl ?_
  intro w5 g4 G eg4 kg4
  have bg4 := jh GG eg4
  have dvqg4 := jn kvq eg4
  have dg1g4 := jn kg1 eg4
  have dg2g4 := jn kg2 eg4
  have dg3g4 := jn kg3 eg4
  replace kvq := G.has kvq
  replace kg1 := G.has kg1
  replace kg2 := G.has kg2
  replace kg3 := G.has kg3
  replace GG := GG.trans G
  clear G
  clear eg4
  refine nq ?_
  refine stI ((fkI R k).getD zM) rfl rfl rfl kg4 rfl ?_
  intro w6 St
  replace kvq := St.has (by omega) kvq
  replace kg1 := St.has (by omega) kg1
  replace kg2 := St.has (by omega) kg2
  replace kg3 := St.has (by omega) kg3
  replace GG := GG.store St bg4
  replace kg4 := St.new
  clear St
  refine mv (.bool (fkI R k).isSome) rfl (nq ?_)
  refine qL (qE (qE (qG (mv (.slice bo l.length bc) rfl (sv (nK l.length) (js underlying27 _ rfl _ _ _ rfl _) rfl (sv (vT) (jy 3 _ _ _ rfl ((l.length : Nat) : Int) 64 rfl rfl true t1 _) rfl (nq ?_)))))))
  refine qL (qT rfl (qE (qG (sv (iA zM) (jK 42 _ rfl [] rfl _ (bdI0 _)) rfl (nq ?_)))))
  refine stI zM rfl rfl rfl kg3 rfl ?_
  intro w7 St
  replace kvq := St.has (by omega) kvq
  replace kg1 := St.has (by omega) kg1
  replace kg2 := St.has (by omega) kg2
  replace kg4 := St.has (by omega) kg4
  replace GG := GG.store St bg3
  replace kg3 := St.new
  clear St
  refine mv (iK 4) rfl (nq ?_)
  refine qL (qR (jm ?_))
  refine bodyPost_ret (jJ results12 _ _ g3 42 _ (0, 0) _ rfl (iK 4) rfl kg3 underlying42 rfl (siIt' _)) rfl ?_
  exact ⟨rfl, GG⟩
theorem KT (C : Nat) (w : World) (vq mp rp B : Nat) (ro : Option Addr) (rc n : Nat) (L : List Nat) (pw dn : Int) (h : Hd) (dw : Bool) (inc : Int) (ao : Option Addr) (cap : Nat) (R : List IM) (H : VD C w vq mp rp B ro rc n L pw dn h dw inc ao cap R) (hRl : R.length ≤ 4096) (k : Nat) (hk : k < top) (bo : Option Addr) (bc : Nat) (l : List Nat) (z : Nat) (hl : l.length ≤ 64) (hf : ((fkI R k).getD zM).n = 4611686018427387903) : Calls Tryz.prog 12 #[vP vq 0, .agg (idA k), .slice bo l.length bc, .agg (idA z)] w (fun e w' => e = .returned (.tuple #[.agg (itA zM), iK 5]) ∧ Gro w w') := by
  have t1 : decide ((64 : Int) < ((l.length : Nat) : Int)) = false := decide_eq_false (by omega)
  have t2 : decide (((fkI R k).getD zM).n = 4611686018427387903) = true := decide_eq_true hf
  refine eN func12 rfl ntmps12 [vP vq 0, eA k, .slice bo l.length bc, eA z] ?_
  have GG := Gro.refl w
  have kvq := H.box
  refine qS ?_
  refine jW 5 rfl rfl 38 _ rfl _ rfl (idA k) rfl ?_
  intro w1 g1 G eg1 kg1
  have bg1 := jh GG eg1
  replace kvq := G.has kvq
  replace GG := GG.trans G
  clear G
  clear eg1
  refine nq ?_
  refine jW 7 rfl rfl 38 _ rfl _ rfl (idA z) rfl ?_
  intro w2 g2 G eg2 kg2
  have bg2 := jh GG eg2
  replace kvq := G.has kvq
  replace kg1 := G.has kg1
  replace GG := GG.trans G
  clear G
  clear eg2
  refine nq ?_
  refine jH 8 rfl rfl 42 rfl _ zeroIt (itA zM) rfl ?_
  intro w3 g3 G eg3 kg3
  have bg3 := jh GG eg3
  have dvqg3 := jn kvq eg3
  have dg1g3 := jn kg1 eg3
  have dg2g3 := jn kg2 eg3
  replace kvq := G.has kvq
  replace kg1 := G.has kg1
  replace kg2 := G.has kg2
  replace GG := GG.trans G
  clear G
  clear eg3
  refine nq ?_
  refine mv (iK 0) rfl (nq ?_)
  refine qL (qE (qG (mv (vP vq 0) rfl (sv (eA k) (ldI0 _ rfl g1 rfl (kg1)) rfl (nq ?_)))))
  refine jr 17 rfl rfl _ 17 call17 rfl rfl _ rfl [vP vq 0, eA k] rfl (yW _ vq (some mp) ao cap R inc kvq (H.row.re.gro GG) hRl k hk) ?_
  intro w4 G
  replace kvq := G.has kvq
  replace kg1 := G.has kg1
  replace kg2 := G.has kg2
  replace kg3 := G.has kg3
  replace GG := GG.trans G
  clear G
  refine nq ?_
  refine mv (.tuple #[iA ((fkI R k).getD zM), .bool (fkI R k).isSome]) rfl (mv (iA ((fkI R k).getD zM)) rfl (mv (.bool (fkI R k).isSome) rfl (nq ?_)))
  refine jH 10 rfl rfl 42 rfl _ zeroIt (itA zM) rfl ?_
  intro w5 g4 G eg4 kg4
  have bg4 := jh GG eg4
  have dvqg4 := jn kvq eg4
  have dg1g4 := jn kg1 eg4
  have dg2g4 := jn kg2 eg4
  have dg3g4 := jn kg3 eg4
  replace kvq := G.has kvq
  replace kg1 := G.has kg1
  replace kg2 := G.has kg2
  replace kg3 := G.has kg3
  replace GG := GG.trans G
  clear G
  clear eg4
  refine nq ?_
  refine stI ((fkI R k).getD zM) rfl rfl rfl kg4 rfl ?_
  intro w6 St
  replace kvq := St.has (by omega) kvq
  replace kg1 := St.has (by omega) kg1
  replace kg2 := St.has (by omega) kg2
  replace kg3 := St.has (by omega) kg3
  replace GG := GG.store St bg4
  replace kg4 := St.new
  clear St
  refine mv (.bool (fkI R k).isSome) rfl (nq ?_)
  refine qL (qE (qE (qG (mv (.slice bo l.length bc) rfl (sv (nK l.length) (js underlying27 _ rfl _ _ _ rfl _) rfl (sv (vF) (jy 3 _ _ _ rfl ((l.length : Nat) : Int) 64 rfl rfl false t1 _) rfl (nq ?_)))))))
  refine qL (qF rfl (qK (qE (qE (qG (sv (vP g4 16) (je 42 _ 1 rfl g4 0 rfl 16 (by kernel_rfl)) rfl (sv (vP g4 16) (je 40 _ 0 rfl g4 16 rfl 16 (by kernel_rfl)) rfl (sv (iK ((fkI R k).getD zM).n) (ldItn _ rfl g4 rfl (kg4)) rfl (sv (vT) (jw 2 .i64 _ _ _ rfl underlying2 ((fkI R k).getD zM).n 4611686018427387903 rfl rfl true t2 _) rfl (nq ?_))))))))))
  refine qL (qT rfl (qE (qG (sv (iA zM) (jK 42 _ rfl [] rfl _ (bdI0 _)) rfl (nq ?_)))))
  refine stI zM rfl rfl rfl kg3 rfl ?_
  intro w7 St
  replace kvq := St.has (by omega) kvq
  replace kg1 := St.has (by omega) kg1
  replace kg2 := St.has (by omega) kg2
  replace kg4 := St.has (by omega) kg4
  replace GG := GG.store St bg3
  replace kg3 := St.new
  clear St
  refine mv (iK 5) rfl (nq ?_)
  refine qL (qR (jm ?_))
  refine bodyPost_ret (jJ results12 _ _ g3 42 _ (0, 0) _ rfl (iK 5) rfl kg3 underlying42 rfl (siIt' _)) rfl ?_
  exact ⟨rfl, GG⟩
def RPutP (C : Nat) (w : World) (vq mp rp B : Nat) (ro : Option Addr) (rc n : Nat) (dn : Int) (inc : Int) (ao : Option Addr) (cap : Nat) (R : List IM) (x : IM) (err : Int) (L2 : List Nat) (pw2 : Int) (h2 : Hd) (dw2 : Bool) (e : Ending) (w' : World) : Prop :=
  (err ≠ 0 ∧ ∃ dn', e = .returned (.tuple #[iA zM, .int .i64 err]) ∧ GroS (vq :: rp :: mp :: blk ro) w w' ∧ VD C w' vq mp rp B ro rc n L2 pw2 dn' h2 dw2 inc ao cap R ∧ dn ≤ dn' ∧ dn' ≤ dn + 20) ∨
  (err = 0 ∧ ∃ dn' ao3 cap3 R2 bo bc, e = .returned (.tuple #[iA (x.re bo bc), .int .i64 0]) ∧ GroS (vq :: rp :: mp :: blk ro) w w' ∧ VD C w' vq mp rp B ro rc n L2 pw2 dn' h2 dw2 inc ao3 cap3 R2 ∧ R2.map IM.it = tkV (R.map IM.it) x.it ∧ (∀ y ∈ R2, y ∈ R ∨ y = x.re bo bc) ∧ OB w' 5 .u8 w.heap.size bo bc x.val ∧ dn ≤ dn' ∧ dn' ≤ dn + 20)
theorem QQ (C : Nat) (w : World) (vq mp rp B : Nat) (ro : Option Addr) (rc n : Nat) (L : List Nat) (pw dn : Int) (h : Hd) (dw : Bool) (inc : Int) (ao : Option Addr) (cap : Nat) (R : List IM) (H : VD C w vq mp rp B ro rc n L pw dn h dw inc ao cap R) (hRl : R.length ≤ 4096) (hC : C ≤ w.heap.size) (hSK : SKv (R.map IM.it)) (k : Nat) (hk : k < top) (bo : Option Addr) (bc : Nat) (l : List Nat) (z : Nat) (hz : z < top) (hl : l.length ≤ 64) (m : Nat) (hm : ((fkI R k).getD zM).n = ((m : Nat) : Int)) (hf : m < 4611686018427387903) (HX : BS (rp :: mp :: blk ro) w bo bc l) (rs : List (List Nat)) (err : Int) (L2 : List Nat) (pw2 : Int) (h2 : Hd) (dw2 : Bool) (rs2 : List (List Nat)) (HO : Out n L pw h dw rs (formV (mkI k (mkV ((m + 1 : Nat) : Int) z) none 0 l).it) err L2 pw2 h2 dw2 rs2) (SB : SideB n L pw h dw (formV (mkI k (mkV ((m + 1 : Nat) : Int) z) none 0 l).it) err L2 pw2 h2 dw2) (hd1 : 0 ≤ dn) (hd2 : dn < 9223372036854760000) : Calls Tryz.prog 12 #[vP vq 0, .agg (idA k), .slice bo l.length bc, .agg (idA z)] w (RPutP C w vq mp rp B ro rc n dn inc ao cap R (mkI k (mkV ((m + 1 : Nat) : Int) z) none 0 l) err L2 pw2 h2 dw2) := by
  have t1 : decide ((64 : Int) < ((l.length : Nat) : Int)) = false := decide_eq_false (by omega)
  have t2 : decide (((fkI R k).getD zM).n = 4611686018427387903) = false := decide_eq_false (by omega)
  refine eN func12 rfl ntmps12 [vP vq 0, eA k, .slice bo l.length bc, eA z] ?_
  have GG := Gro.refl w
  have kvq := H.box
  have hUw := H.lt3
  refine qS ?_
  refine jW 5 rfl rfl 38 _ rfl _ rfl (idA k) rfl ?_
  intro w1 g1 G eg1 kg1
  have bg1 := jh GG eg1
  replace kvq := G.has kvq
  replace GG := GG.trans G
  clear G
  clear eg1
  refine nq ?_
  refine jW 7 rfl rfl 38 _ rfl _ rfl (idA z) rfl ?_
  intro w2 g2 G eg2 kg2
  have bg2 := jh GG eg2
  replace kvq := G.has kvq
  replace kg1 := G.has kg1
  replace GG := GG.trans G
  clear G
  clear eg2
  refine nq ?_
  refine jH 8 rfl rfl 42 rfl _ zeroIt (itA zM) rfl ?_
  intro w3 g3 G eg3 kg3
  have bg3 := jh GG eg3
  have dvqg3 := jn kvq eg3
  have dg1g3 := jn kg1 eg3
  have dg2g3 := jn kg2 eg3
  replace kvq := G.has kvq
  replace kg1 := G.has kg1
  replace kg2 := G.has kg2
  replace GG := GG.trans G
  clear G
  clear eg3
  refine nq ?_
  refine mv (iK 0) rfl (nq ?_)
  refine qL (qE (qG (mv (vP vq 0) rfl (sv (eA k) (ldI0 _ rfl g1 rfl (kg1)) rfl (nq ?_)))))
  refine jr 17 rfl rfl _ 17 call17 rfl rfl _ rfl [vP vq 0, eA k] rfl (yW _ vq (some mp) ao cap R inc kvq (H.row.re.gro GG) hRl k hk) ?_
  intro w4 G
  replace kvq := G.has kvq
  replace kg1 := G.has kg1
  replace kg2 := G.has kg2
  replace kg3 := G.has kg3
  replace GG := GG.trans G
  clear G
  refine nq ?_
  refine mv (.tuple #[iA ((fkI R k).getD zM), .bool (fkI R k).isSome]) rfl (mv (iA ((fkI R k).getD zM)) rfl (mv (.bool (fkI R k).isSome) rfl (nq ?_)))
  refine jH 10 rfl rfl 42 rfl _ zeroIt (itA zM) rfl ?_
  intro w5 g4 G eg4 kg4
  have bg4 := jh GG eg4
  have dvqg4 := jn kvq eg4
  have dg1g4 := jn kg1 eg4
  have dg2g4 := jn kg2 eg4
  have dg3g4 := jn kg3 eg4
  replace kvq := G.has kvq
  replace kg1 := G.has kg1
  replace kg2 := G.has kg2
  replace kg3 := G.has kg3
  replace GG := GG.trans G
  clear G
  clear eg4
  refine nq ?_
  refine stI ((fkI R k).getD zM) rfl rfl rfl kg4 rfl ?_
  intro w6 St
  replace kvq := St.has (by omega) kvq
  replace kg1 := St.has (by omega) kg1
  replace kg2 := St.has (by omega) kg2
  replace kg3 := St.has (by omega) kg3
  replace GG := GG.store St bg4
  replace kg4 := St.new
  clear St
  refine mv (.bool (fkI R k).isSome) rfl (nq ?_)
  refine qL (qE (qE (qG (mv (.slice bo l.length bc) rfl (sv (nK l.length) (js underlying27 _ rfl _ _ _ rfl _) rfl (sv (vF) (jy 3 _ _ _ rfl ((l.length : Nat) : Int) 64 rfl rfl false t1 _) rfl (nq ?_)))))))
  refine qL (qF rfl (qK (qE (qE (qG (sv (vP g4 16) (je 42 _ 1 rfl g4 0 rfl 16 (by kernel_rfl)) rfl (sv (vP g4 16) (je 40 _ 0 rfl g4 16 rfl 16 (by kernel_rfl)) rfl (sv (iK ((fkI R k).getD zM).n) (ldItn _ rfl g4 rfl (kg4)) rfl (sv (vF) (jw 2 .i64 _ _ _ rfl underlying2 ((fkI R k).getD zM).n 4611686018427387903 rfl rfl false t2 _) rfl (nq ?_))))))))))
  refine qL (qF rfl (qK (qE ?_)))
  have bz6 := GG.size
  refine jQ (A := ?Ax3) 12 [(0, 29), (1, 30), (2, 31), (3, 32), (4, 33), (5, 34), (6, 35), (7, 36), (8, 37), (9, 38), (10, 39), (11, 12)] [.val (eA k), .val (vP g4 16), .val (vP g4 16), .val (iK ((fkI R k).getD zM).n), .val (nK (m + 1)), .val (eA z), .val (.agg (veA (mkV ((m + 1 : Nat) : Int) z))), bs0E w6.heap.size, .val (.slice bo l.length bc), bytE w6.heap.size l, itE w6.heap.size (mkI k (mkV ((m + 1 : Nat) : Int) z) none 0 l), boxE w6.heap.size 42 (itA zM)] follows (by kernel_rfl) rfl ?hAx3 (ja ?_ (ja ?_ (ja ?_ (ja ?_ (ja ?_ (ja ?_ (ja ?_ (ja ?_ (ja ?_ (ja ?_ (ja ?_ (ja ?_ jD)))))))))))) ?_
  case hAx3 =>
    intro ptrs
    simp only [full, foldSlots, filledE, postE, List.foldl_cons, List.foldl_nil, List.getD_cons_zero, List.getD_cons_succ, zu, jax, yi, UE, jay, List.set_cons_zero, List.set_cons_succ]
    exact rfl
  exact fun _ _ hw _ => jb rfl (ldI0 _ rfl g1 rfl (hw.has kg1))
  exact fun _ _ _ _ => jb rfl (je 42 _ 1 rfl g4 0 rfl 16 (by kernel_rfl))
  exact fun _ _ _ _ => jb rfl (je 40 _ 0 rfl g4 16 rfl 16 (by kernel_rfl))
  exact fun _ _ hw _ => jb rfl (ldItn _ rfl g4 rfl (hw.has kg4))
  exact fun _ _ _ _ => jb rfl (jV 2 _ _ _ rfl ((fkI R k).getD zM).n 1 ((m + 1 : Nat) : Int) rfl rfl (by omega) (by omega) (by omega) _)
  exact fun _ _ hw _ => jb rfl (ldI0 _ rfl g2 rfl (hw.has kg2))
  exact fun _ _ _ _ => jb rfl (jK 40 _ rfl [(0, nK (m + 1)), (1, eA z)] rfl _ (bdV01 ((m + 1 : Nat) : Int) z _))
  intro ptrs w' hw hE
  exact opE_bs0 rfl rfl hw.size
  exact fun _ _ _ _ => jf _ rfl rfl rfl
  intro ptrs w' hw hE
  obtain ⟨⟨g7, h7, k7, b7⟩, _⟩ := hE
  exact jdm rfl _ _ rfl (by exact h7) k7 rfl ((HX.nc.gro GG).gro ((Gro.refl _).drew.trans hw)) (by omega) b7
  intro ptrs w' hw hE
  obtain ⟨⟨ao9, cap9, h9, o9⟩, _⟩ := hE
  exact uA (itE w6.heap.size (mkI k (mkV ((m + 1 : Nat) : Int) z) none 0 l)) rfl (jK 42 _ rfl [(0, eA k), (1, .agg (veA (mkV ((m + 1 : Nat) : Int) z))), (2, .slice ao9 l.length cap9)] (by exact congrArg (fun a => [(0, eA k), (1, Value.agg (veA (mkV ((m + 1 : Nat) : Int) z))), (2, a)]) h9) _ (bdI012 k (mkV ((m + 1 : Nat) : Int) z) ao9 cap9 l _)) (Gro.refl _) ⟨ao9, cap9, rfl, o9⟩
  exact fun _ _ hw _ => jag rfl 42 rfl _ zeroIt _ rfl _ hw.size
  have lzvq := ji kvq
  have lzg1 := ji kg1
  have lzg2 := ji kg2
  have lzg3 := ji kg3
  have lzg4 := ji kg4
  have bz := GG.size
  intro ptrs w7 GD hxE
  simp only [List.drop_succ_cons, List.drop_zero]
  replace kvq := GD.has kvq
  replace kg1 := GD.has kg1
  replace kg2 := GD.has kg2
  replace kg3 := GD.has kg3
  replace kg4 := GD.has kg4
  replace GG := GG.drew.trans GD
  obtain ⟨_, _, ⟨ao1, cap1, hx1, HO1⟩, ⟨g5, hxg5, kg5, czg5⟩, _⟩ := hxE
  simp only [hx1, hxg5]
  clear hx1 hxg5
  have dvqg5 : vq < g5 := Nat.lt_of_lt_of_le lzvq czg5
  have dg1g5 : g1 < g5 := Nat.lt_of_lt_of_le lzg1 czg5
  have dg2g5 : g2 < g5 := Nat.lt_of_lt_of_le lzg2 czg5
  have dg3g5 : g3 < g5 := Nat.lt_of_lt_of_le lzg3 czg5
  have dg4g5 : g4 < g5 := Nat.lt_of_lt_of_le lzg4 czg5
  have bg5 := Nat.le_trans bz czg5
  clear GD
  have dHO1g5 : NEo ao1 g5 := fun ad ha => jB (HO1.blk5 ha).choose_spec kg5 (by decide)
  refine stI ((mkI k (mkV ((m + 1 : Nat) : Int) z) none 0 l).re ao1 cap1) rfl rfl rfl kg5 rfl ?_
  intro w8 St
  replace kvq := St.has (by omega) kvq
  replace kg1 := St.has (by omega) kg1
  replace kg2 := St.has (by omega) kg2
  replace kg3 := St.has (by omega) kg3
  replace kg4 := St.has (by omega) kg4
  replace HO1 := HO1.st St dHO1g5
  replace GG := GG.store St bg5
  replace kg5 := St.new
  clear St
  refine qL (qE (qE ?_))
  have bz7 := GG.size
  refine jQ (A := ?Ax4) 6 [(0, 40), (1, 41), (2, 42), (3, 43), (4, 44), (5, 45)] [.val (vP vq 0), .val (vP vq 0), .val (vP vq 0), .val (vP mp 0), .val (iA ((mkI k (mkV ((m + 1 : Nat) : Int) z) none 0 l).re ao1 cap1)), bytE w8.heap.size (formV (mkI k (mkV ((m + 1 : Nat) : Int) z) none 0 l).it)] follows (by kernel_rfl) rfl ?hAx4 (ja ?_ (ja ?_ (ja ?_ (ja ?_ (ja ?_ (ja ?_ jD)))))) ?_
  case hAx4 =>
    intro ptrs
    simp only [full, foldSlots, filledE, postE, List.foldl_cons, List.foldl_nil, List.getD_cons_zero, List.getD_cons_succ, zu, yi, List.set_cons_zero, List.set_cons_succ]
    exact rfl
  exact fun _ _ _ _ => jf _ rfl rfl rfl
  exact fun _ _ _ _ => jb rfl (jl _ rfl _ rfl)
  exact fun _ _ _ _ => jb rfl (je 62 _ 0 rfl vq 0 rfl 0 (by kernel_rfl))
  exact fun _ _ hw _ => jb rfl (ldRvl _ rfl vq rfl (hw.has kvq))
  exact fun _ _ hw _ => jb rfl (ldIt0 _ rfl g5 rfl (hw.has kg5))
  intro ptrs w' hw hE
  exact zi (bytE w8.heap.size (formV (mkI k (mkV ((m + 1 : Nat) : Int) z) none 0 l).it)) rfl _ 36 call36 rfl rfl _ rfl [iA ((mkI k (mkV ((m + 1 : Nat) : Int) z) none 0 l).re ao1 cap1)] rfl ((JP ((mkI k (mkV ((m + 1 : Nat) : Int) z) none 0 l).re ao1 cap1) ((vS hk (vr ⟨by omega, by omega⟩ hz) : (mkI k (mkV ((m + 1 : Nat) : Int) z) none 0 l).ok).re _ _) (by show 0 ≤ ((m + 1 : Nat) : Int); omega) (by show l.length ≤ _; omega) _ (HO1.nc.gro ((Gro.refl _).drew.trans hw))).mono fun e w' ⟨ao, cap, he, hg, ho⟩ => ⟨_, he, hg, ao, cap, rfl, ho.mono hw.size⟩)
  intro ptrs w9 GD hxE
  simp only [List.drop_succ_cons, List.drop_zero]
  replace kvq := GD.has kvq
  replace kg1 := GD.has kg1
  replace kg2 := GD.has kg2
  replace kg3 := GD.has kg3
  replace kg4 := GD.has kg4
  replace kg5 := GD.has kg5
  replace HO1 := HO1.gro ((Gro.refl _).drew.trans GD)
  replace GG := GG.drew.trans GD
  obtain ⟨⟨ao2, cap2, hx2, HO2⟩, _⟩ := hxE
  simp only [hx2]
  clear hx2
  clear GD
  refine jq 46 rfl rfl _ 31 call31 rfl rfl _ rfl [vP mp 0, .slice ao2 (formV (mkI k (mkV ((m + 1 : Nat) : Int) z) none 0 l).it).length cap2] rfl (SB _ mp rp B ro rc dn _ _ (H.log.gro GG) (H.dsk.gro GG) (HO2.bs (fun k hk => Nat.lt_of_lt_of_le (hUw k hk) bz7)) hd1 hd2) (by rintro _ _ ⟨_, he, _, _, _, _, _⟩; exact ⟨_, he⟩) ?_
  rintro v w10 ⟨dn2, he, G, hd3, hd4, HD2, HK2⟩
  cases he
  have HDc := H.dsk.gro GG
  have HMc := H.log.gro GG
  replace kvq := G.has kvq (fun hm => notS kvq HDc HMc (by decide) (by decide) (by decide) hm)
  replace kg1 := G.has kg1 (fun hm => notS kg1 HDc HMc (by decide) (by decide) (by decide) hm)
  replace kg2 := G.has kg2 (fun hm => notS kg2 HDc HMc (by decide) (by decide) (by decide) hm)
  replace kg3 := G.has kg3 (fun hm => notS kg3 HDc HMc (by decide) (by decide) (by decide) hm)
  replace kg4 := G.has kg4 (fun hm => notS kg4 HDc HMc (by decide) (by decide) (by decide) hm)
  replace kg5 := G.has kg5 (fun hm => notS kg5 HDc HMc (by decide) (by decide) (by decide) hm)
  replace HO1 := HDc.keepB HMc G HO1 (fun k hk => Nat.lt_of_lt_of_le (hUw k (List.mem_cons_of_mem _ (List.mem_cons_of_mem _ hk))) bz6)
  have HW := HDc.keepW HMc G (H.row.gro GG)
  have HS : OBs _ C R := fun y hy => HDc.keepB HMc G ((H.byt y hy).gro GG) H.lt
  have GS : GroS (vq :: rp :: mp :: blk ro) w w10 := (GroS.of GG).trans (G.mono (fun k hk => List.mem_cons_of_mem _ hk))
  clear GG HDc HMc G
  have GG := GS
  clear GS
  refine nq ?_
  refine mv (iK err) rfl (nq ?_)
  refine qL (qE ?_)
  rcases HO.res with ⟨rfl, hrs⟩ | ⟨he1, hrs⟩
  clear hrs
  have hdw := HO.ok rfl
  subst hdw
  refine qG (mv (iK 0) rfl (sv (vF) (jj 31 .i64 _ _ _ rfl underlying31 0 0 rfl rfl false (decide_eq_true rfl) _) rfl (nq ?_)))
  refine qL (qF rfl (qK (qE (qG (mv (vP vq 0) rfl (sv (iA ((mkI k (mkV ((m + 1 : Nat) : Int) z) none 0 l).re ao1 cap1)) (ldIt0 _ rfl g5 rfl (kg5)) rfl (nq ?_)))))))
  have hCc := Nat.le_trans hC GG.size
  have lzg3 := ji kg3
  have lzg5 := ji kg5
  refine jq 53 rfl rfl _ 37 call37 rfl rfl _ rfl [vP vq 0, iA ((mkI k (mkV ((m + 1 : Nat) : Int) z) none 0 l).re ao1 cap1)] rfl (uv _ C vq (some mp) ao cap R inc kvq HW hCc hRl hSK (fun y hy => by have := H.n0 y hy; omega) ((mkI k (mkV ((m + 1 : Nat) : Int) z) none 0 l).re ao1 cap1) ((vS hk (vr ⟨by omega, by omega⟩ hz) : (mkI k (mkV ((m + 1 : Nat) : Int) z) none 0 l).ok).re _ _) (by show 0 ≤ ((m + 1 : Nat) : Int); omega)) (by rintro _ _ ⟨_, _, _, _, he, _, _, _, _, _, _⟩; exact ⟨_, he⟩) ?_
  rintro v w11 ⟨b, ao4, cap4, R2, he, G, kv2, HW2, hR2, hm2, hK2⟩
  cases he
  replace kg3 := G.has kg3 (fun hm => jB kg3 kvq (by decide) (List.mem_singleton.1 hm))
  replace kg5 := G.has kg5 (fun hm => jB kg5 kvq (by decide) (List.mem_singleton.1 hm))
  replace HO1 := HO1.gros G (fun ad ha hm => by obtain ⟨cur, hc⟩ := HO1.blk5 ha; exact yx kvq (by decide) _ hm _ hc)
  replace HS := HS.gros G (yx kvq (by decide))
  replace HD2 := HD2.gros G (fun hm => jB HD2.box kvq (by decide) (List.mem_singleton.1 hm)) (fun ad ha hm => by obtain ⟨cur, hc⟩ := HD2.row.blk5 ha; exact yx kvq (by decide) _ hm _ hc)
  replace HK2 := HK2.gros G (fun hm => jB HK2.box kvq (by decide) (List.mem_singleton.1 hm))
  replace GG := GG.trans (G.mono (fun k hk => List.mem_cons.2 (.inl (List.mem_singleton.1 hk))))
  clear kvq HW G
  have HW := HW2
  have kvq := kv2
  clear HW2 kv2
  refine nq ?_
  refine qL (qE (qG (sv (iA ((mkI k (mkV ((m + 1 : Nat) : Int) z) none 0 l).re ao1 cap1)) (ldIt0 _ rfl g5 rfl (kg5)) rfl (nq ?_))))
  refine stI ((mkI k (mkV ((m + 1 : Nat) : Int) z) none 0 l).re ao1 cap1) rfl rfl rfl kg3 rfl ?_
  intro w12 St
  replace kvq := St.has (by omega) kvq
  replace kg5 := St.has (by omega) kg5
  replace HW := HW.st St (fun hm => (hK2 _ hm).elim (fun h => by have := H.row.own.lt _ h; omega) (fun h => by omega))
  replace HS := HS.st St (fun y hy ad ha => jB ((HS y hy).blk5 ha).choose_spec kg3 (by decide))
  replace HD2 := HD2.stq St (jB kg3 HD2.box (by decide)) (fun ad ha => jB (HD2.row.blk5 ha).choose_spec kg3 (by decide))
  replace HK2 := (⟨St.has (jB HK2.box kg3 (by decide)) HK2.box⟩ : MK _ _ _ _ _)
  replace HO1 := HO1.st St (fun ad ha => jB (HO1.blk5 ha).choose_spec kg3 (by decide))
  replace GG := GG.st St (.inl bg3)
  replace kg3 := St.new
  clear St
  refine mv (iK 0) rfl (nq ?_)
  refine qL (qR ?_)
  refine bodyPost_ret (jJ results12 _ _ g3 42 _ (0, 0) _ rfl (iK 0) rfl kg3 underlying42 rfl (siIt' _)) rfl ?_
  exact .inr ⟨rfl, dn2, ao4, cap4, R2, _, _, rfl, GG, ⟨kvq, HK2, HD2, HW, HS.both (x := ((mkI k (mkV ((m + 1 : Nat) : Int) z) none 0 l).re ao1 cap1)) (HO1.mono (Nat.le_trans hC bz6)) hm2, JJ H.n0 (x := ((mkI k (mkV ((m + 1 : Nat) : Int) z) none 0 l).re ao1 cap1)) (by show 1 ≤ ((m + 1 : Nat) : Int); omega) hm2, H.lt⟩, hR2, hm2, HO1.mono bz6, hd3, hd4⟩
  clear hrs
  have t3 : decide (err = 0) = false := decide_eq_false he1
  refine qG (mv (iK err) rfl (sv (vT) (jj 31 .i64 _ _ _ rfl underlying31 err 0 rfl rfl true t3 _) rfl (nq ?_)))
  refine qL (qT rfl (qE (qG (sv (iA zM) (jK 42 _ rfl [] rfl _ (bdI0 _)) rfl (mv (iK err) rfl (nq ?_))))))
  refine stI zM rfl rfl rfl kg3 rfl ?_
  intro w11 St
  replace kvq := St.has (by omega) kvq
  replace kg1 := St.has (by omega) kg1
  replace kg2 := St.has (by omega) kg2
  replace kg4 := St.has (by omega) kg4
  replace kg5 := St.has (by omega) kg5
  replace HW := HW.st St (fun hm => by have := H.row.own.lt _ hm; omega)
  replace HS := HS.st St (fun y hy ad ha => jB ((HS y hy).blk5 ha).choose_spec kg3 (by decide))
  replace HD2 := HD2.stq St (jB kg3 HD2.box (by decide)) (fun ad ha => jB (HD2.row.blk5 ha).choose_spec kg3 (by decide))
  replace HK2 := (⟨St.has (jB HK2.box kg3 (by decide)) HK2.box⟩ : MK _ _ _ _ _)
  replace HO1 := HO1.st St (fun ad ha => jB (HO1.blk5 ha).choose_spec kg3 (by decide))
  replace GG := GG.st St (.inl bg3)
  replace kg3 := St.new
  clear St
  refine mv (iK err) rfl (nq ?_)
  refine qL (qR (jm ?_))
  refine bodyPost_ret (jJ results12 _ _ g3 42 _ (0, 0) _ rfl (iK err) rfl kg3 underlying42 rfl (siIt' _)) rfl ?_
  exact .inl ⟨he1, dn2, rfl, GG, ⟨kvq, HK2, HD2, HW, HS, H.n0, H.lt⟩, hd3, hd4⟩
theorem UX (C : Nat) (w : World) (vq mp rp B : Nat) (ro : Option Addr) (rc n : Nat) (L : List Nat) (pw dn : Int) (h : Hd) (dw : Bool) (inc : Int) (ao : Option Addr) (cap : Nat) (R : List IM) (H : VD C w vq mp rp B ro rc n L pw dn h dw inc ao cap R) (_ : R.length ≤ 4096) (x : IM) (_ : x.ok) (hn : x.n < 1 ∨ 4611686018427387903 < x.n) : Calls Tryz.prog 15 #[vP vq 0, .agg (itA x)] w (fun e w' => e = .returned (.tuple #[vF, iK 1]) ∧ Gro w w') := by
  cases t1 : decide (x.n < 1)
  have t2 : decide (4611686018427387903 < x.n) = true := decide_eq_true (by have := of_decide_eq_false t1; omega)
  refine eN func15 rfl ntmps15 [vP vq 0, iA x] ?_
  have GG := Gro.refl w
  have kvq := H.box
  refine qS ?_
  refine jW 3 rfl rfl 42 _ rfl _ rfl (itA x) rfl ?_
  intro w1 g1 G eg1 kg1
  have bg1 := jh GG eg1
  have dvqg1 := jn kvq eg1
  replace kvq := G.has kvq
  replace GG := GG.trans G
  clear G
  clear eg1
  refine nq ?_
  refine mv (vF) rfl (mv (iK 0) rfl (nq ?_))
  refine qL (qE (qE ?_))
  refine jg ?_
  intro OPS hY
  have y4 := hY 4 13 rfl
  clear hY
  refine sv (vP g1 16) (je 42 _ 1 rfl g1 0 rfl 16 (by kernel_rfl)) rfl (sv (vP g1 16) (je 40 _ 0 rfl g1 16 rfl 16 (by kernel_rfl)) rfl (sv (iK x.n) (ldItn _ rfl g1 rfl (kg1)) rfl (sv (vF) (jv 2 _ _ _ rfl x.n 1 rfl rfl false t1 _) rfl (mv (vF) rfl (jd 14 rfl rfl y4 rfl (vP g1 16) (je 42 _ 1 rfl g1 0 rfl 16 (by kernel_rfl)) ?_)))))
  refine nq ?_
  refine jd 15 rfl rfl y4 rfl (vP g1 16) (je 40 _ 0 rfl g1 16 rfl 16 (by kernel_rfl)) (jd 16 rfl rfl y4 rfl (iK x.n) (ldItn _ rfl g1 rfl (kg1)) (jd 17 rfl rfl y4 rfl (vT) (jy 2 _ _ _ rfl x.n 4611686018427387903 rfl rfl true t2 _) (mv (vT) rfl (nq ?_))))
  refine qL (qT rfl (qE (qG (mv (vF) rfl (mv (iK 1) rfl (nq ?_))))))
  refine qL (qR (jm ?_))
  refine bodyPost_ret (results_tmp2 results15 _ _ _) rfl ?_
  exact ⟨rfl, GG⟩
  skip
  refine eN func15 rfl ntmps15 [vP vq 0, iA x] ?_
  have GG := Gro.refl w
  have kvq := H.box
  refine qS ?_
  refine jW 3 rfl rfl 42 _ rfl _ rfl (itA x) rfl ?_
  intro w1 g1 G eg1 kg1
  have bg1 := jh GG eg1
  have dvqg1 := jn kvq eg1
  replace kvq := G.has kvq
  replace GG := GG.trans G
  clear G
  clear eg1
  refine nq ?_
  refine mv (vF) rfl (mv (iK 0) rfl (nq ?_))
  refine qL (qE (qE ?_))
  refine jg ?_
  intro OPS hY
  have y4 := hY 4 13 rfl
  clear hY
  refine sv (vP g1 16) (je 42 _ 1 rfl g1 0 rfl 16 (by kernel_rfl)) rfl (sv (vP g1 16) (je 40 _ 0 rfl g1 16 rfl 16 (by kernel_rfl)) rfl (sv (iK x.n) (ldItn _ rfl g1 rfl (kg1)) rfl (sv (vT) (jv 2 _ _ _ rfl x.n 1 rfl rfl true t1 _) rfl (mv (vT) rfl (jk 14 rfl rfl y4 rfl ?_)))))
  refine nq ?_
  refine jk 15 rfl rfl y4 rfl (jk 16 rfl rfl y4 rfl (jk 17 rfl rfl y4 rfl (mv (vT) rfl (nq ?_))))
  refine qL (qT rfl (qE (qG (mv (vF) rfl (mv (iK 1) rfl (nq ?_))))))
  refine qL (qR (jm ?_))
  refine bodyPost_ret (results_tmp2 results15 _ _ _) rfl ?_
  exact ⟨rfl, GG⟩
theorem Uf (C : Nat) (w : World) (vq mp rp B : Nat) (ro : Option Addr) (rc n : Nat) (L : List Nat) (pw dn : Int) (h : Hd) (dw : Bool) (inc : Int) (ao : Option Addr) (cap : Nat) (R : List IM) (H : VD C w vq mp rp B ro rc n L pw dn h dw inc ao cap R) (_ : R.length ≤ 4096) (x : IM) (_ : x.ok) (hn1 : 1 ≤ x.n) (hn2 : x.n ≤ 4611686018427387903) (hl : 64 < x.val.length) : Calls Tryz.prog 15 #[vP vq 0, .agg (itA x)] w (fun e w' => e = .returned (.tuple #[vF, iK 4]) ∧ Gro w w') := by
  have t1 : decide (x.n < 1) = false := decide_eq_false (by omega)
  have t2 : decide (4611686018427387903 < x.n) = false := decide_eq_false (by omega)
  have t4 : decide ((64 : Int) < ((x.val.length : Nat) : Int)) = true := decide_eq_true (by omega)
  refine eN func15 rfl ntmps15 [vP vq 0, iA x] ?_
  have GG := Gro.refl w
  have kvq := H.box
  refine qS ?_
  refine jW 3 rfl rfl 42 _ rfl _ rfl (itA x) rfl ?_
  intro w1 g1 G eg1 kg1
  have bg1 := jh GG eg1
  have dvqg1 := jn kvq eg1
  replace kvq := G.has kvq
  replace GG := GG.trans G
  clear G
  clear eg1
  refine nq ?_
  refine mv (vF) rfl (mv (iK 0) rfl (nq ?_))
  refine qL (qE (qE ?_))
  refine jg ?_
  intro OPS hY
  have y4 := hY 4 13 rfl
  clear hY
  refine sv (vP g1 16) (je 42 _ 1 rfl g1 0 rfl 16 (by kernel_rfl)) rfl (sv (vP g1 16) (je 40 _ 0 rfl g1 16 rfl 16 (by kernel_rfl)) rfl (sv (iK x.n) (ldItn _ rfl g1 rfl (kg1)) rfl (sv (vF) (jv 2 _ _ _ rfl x.n 1 rfl rfl false t1 _) rfl (mv (vF) rfl (jd 14 rfl rfl y4 rfl (vP g1 16) (je 42 _ 1 rfl g1 0 rfl 16 (by kernel_rfl)) ?_)))))
  refine nq ?_
  refine jd 15 rfl rfl y4 rfl (vP g1 16) (je 40 _ 0 rfl g1 16 rfl 16 (by kernel_rfl)) (jd 16 rfl rfl y4 rfl (iK x.n) (ldItn _ rfl g1 rfl (kg1)) (jd 17 rfl rfl y4 rfl (vF) (jy 2 _ _ _ rfl x.n 4611686018427387903 rfl rfl false t2 _) (mv (vF) rfl (nq ?_))))
  refine qL (qF rfl (qK (qE (qE (qG (sv (vP g1 33) (je 42 _ 2 rfl g1 0 rfl 33 (by kernel_rfl)) rfl (sv (.slice x.ao x.val.length x.cap) (ldItr _ rfl g1 rfl (kg1)) rfl (sv (nK x.val.length) (js underlying27 _ rfl _ _ _ rfl _) rfl (sv (vT) (jy 3 _ _ _ rfl ((x.val.length : Nat) : Int) 64 rfl rfl true t4 _) rfl (nq ?_))))))))))
  refine qL (qT rfl (qE (qG (mv (vF) rfl (mv (iK 4) rfl (nq ?_))))))
  refine qL (qR (jm ?_))
  refine bodyPost_ret (results_tmp2 results15 _ _ _) rfl ?_
  exact ⟨rfl, GG⟩
theorem UW (C : Nat) (w : World) (vq mp rp B : Nat) (ro : Option Addr) (rc n : Nat) (L : List Nat) (pw dn : Int) (h : Hd) (dw : Bool) (inc : Int) (ao : Option Addr) (cap : Nat) (R : List IM) (H : VD C w vq mp rp B ro rc n L pw dn h dw inc ao cap R) (hRl : R.length ≤ 4096) (x : IM) (hx : x.ok) (hn1 : 1 ≤ x.n) (hn2 : x.n ≤ 4611686018427387903) (hl : x.val.length ≤ 64) (y : IM) (hF : fkI R x.key = some y) (hyo : y.ok) (hq : nwV x.ver y.ver = false) : Calls Tryz.prog 15 #[vP vq 0, .agg (itA x)] w (fun e w' => e = .returned (.tuple #[vF, iK 0]) ∧ Gro w w') := by
  have t1 : decide (x.n < 1) = false := decide_eq_false (by omega)
  have t2 : decide (4611686018427387903 < x.n) = false := decide_eq_false (by omega)
  have t4 : decide ((64 : Int) < ((x.val.length : Nat) : Int)) = false := decide_eq_false (by omega)
  refine eN func15 rfl ntmps15 [vP vq 0, iA x] ?_
  have GG := Gro.refl w
  have kvq := H.box
  refine qS ?_
  refine jW 3 rfl rfl 42 _ rfl _ rfl (itA x) rfl ?_
  intro w1 g1 G eg1 kg1
  have bg1 := jh GG eg1
  have dvqg1 := jn kvq eg1
  replace kvq := G.has kvq
  replace GG := GG.trans G
  clear G
  clear eg1
  refine nq ?_
  refine mv (vF) rfl (mv (iK 0) rfl (nq ?_))
  refine qL (qE (qE ?_))
  refine jg ?_
  intro OPS hY
  have y4 := hY 4 13 rfl
  clear hY
  refine sv (vP g1 16) (je 42 _ 1 rfl g1 0 rfl 16 (by kernel_rfl)) rfl (sv (vP g1 16) (je 40 _ 0 rfl g1 16 rfl 16 (by kernel_rfl)) rfl (sv (iK x.n) (ldItn _ rfl g1 rfl (kg1)) rfl (sv (vF) (jv 2 _ _ _ rfl x.n 1 rfl rfl false t1 _) rfl (mv (vF) rfl (jd 14 rfl rfl y4 rfl (vP g1 16) (je 42 _ 1 rfl g1 0 rfl 16 (by kernel_rfl)) ?_)))))
  refine nq ?_
  refine jd 15 rfl rfl y4 rfl (vP g1 16) (je 40 _ 0 rfl g1 16 rfl 16 (by kernel_rfl)) (jd 16 rfl rfl y4 rfl (iK x.n) (ldItn _ rfl g1 rfl (kg1)) (jd 17 rfl rfl y4 rfl (vF) (jy 2 _ _ _ rfl x.n 4611686018427387903 rfl rfl false t2 _) (mv (vF) rfl (nq ?_))))
  refine qL (qF rfl (qK (qE (qE (qG (sv (vP g1 33) (je 42 _ 2 rfl g1 0 rfl 33 (by kernel_rfl)) rfl (sv (.slice x.ao x.val.length x.cap) (ldItr _ rfl g1 rfl (kg1)) rfl (sv (nK x.val.length) (js underlying27 _ rfl _ _ _ rfl _) rfl (sv (vF) (jy 3 _ _ _ rfl ((x.val.length : Nat) : Int) 64 rfl rfl false t4 _) rfl (nq ?_))))))))))
  refine qL (qF rfl (qK (qE (qG (mv (vP vq 0) rfl (sv (vP g1 0) (je 42 _ 0 rfl g1 0 rfl 0 (by kernel_rfl)) rfl (sv (eA x.key) (ldItk _ rfl g1 rfl (kg1)) rfl (nq ?_))))))))
  refine jr 27 rfl rfl _ 17 call17 rfl rfl _ rfl [vP vq 0, eA x.key] rfl ((yW _ vq (some mp) ao cap R inc kvq (H.row.re.gro GG) hRl x.key hx.key).mono fun e w' h => by rw [hF] at h; exact h) ?_
  intro w2 G
  replace kvq := G.has kvq
  replace kg1 := G.has kg1
  replace GG := GG.trans G
  clear G
  refine nq ?_
  refine mv (.tuple #[iA y, vT]) rfl (mv (iA y) rfl (mv (vT) rfl (nq ?_)))
  refine jH 6 rfl rfl 42 rfl _ zeroIt (itA zM) rfl ?_
  intro w3 g2 G eg2 kg2
  have bg2 := jh GG eg2
  have dvqg2 := jn kvq eg2
  have dg1g2 := jn kg1 eg2
  replace kvq := G.has kvq
  replace kg1 := G.has kg1
  replace GG := GG.trans G
  clear G
  clear eg2
  refine nq ?_
  refine stI y rfl rfl rfl kg2 rfl ?_
  intro w4 St
  replace kvq := St.has (by omega) kvq
  replace kg1 := St.has (by omega) kg1
  replace GG := GG.store St bg2
  replace kg2 := St.new
  clear St
  refine mv (vT) rfl (nq ?_)
  refine qL (qE (qE ?_))
  refine jg ?_
  intro OPS hY
  have y1 := hY 1 31 rfl
  clear hY
  refine mv (vT) rfl (mv (vT) rfl (jd 32 rfl rfl y1 rfl (vP g1 16) (je 42 _ 1 rfl g1 0 rfl 16 (by kernel_rfl)) (jd 33 rfl rfl y1 rfl (.agg (veA x.ver)) (ldItv _ rfl g1 rfl (kg1)) (jd 34 rfl rfl y1 rfl (vP g2 16) (je 42 _ 1 rfl g2 0 rfl 16 (by kernel_rfl)) (jd 35 rfl rfl y1 rfl (.agg (veA y.ver)) (ldItv _ rfl g2 rfl (kg2)) ?_)))))
  refine nq ?_
  refine zP 36 rfl rfl y1 rfl _ 39 call39 rfl rfl _ rfl [.agg (veA x.ver), .agg (veA y.ver)] rfl (Calls.bool (vL x.ver y.ver hx.ver hyo.ver _) hq) ?_
  intro w5 G
  replace kvq := G.has kvq
  replace kg1 := G.has kg1
  replace kg2 := G.has kg2
  replace GG := GG.trans G
  clear G
  refine nq ?_
  refine jd 37 rfl rfl y1 rfl (vT) (jZ _ _ rfl false rfl) (mv (vT) rfl (nq ?_))
  refine qL (qT rfl (qE (qG (mv (vF) rfl (mv (iK 0) rfl (nq ?_))))))
  refine qL (qR (jm ?_))
  refine bodyPost_ret (results_tmp2 results15 _ _ _) rfl ?_
  exact ⟨rfl, GG⟩
def RMrgP (C : Nat) (w : World) (vq mp rp B : Nat) (ro : Option Addr) (rc n : Nat) (dn : Int) (inc : Int) (ao : Option Addr) (cap : Nat) (R : List IM) (x : IM) (err : Int) (L2 : List Nat) (pw2 : Int) (h2 : Hd) (dw2 : Bool) (e : Ending) (w' : World) : Prop :=
  (err ≠ 0 ∧ ∃ dn', e = .returned (.tuple #[.bool false, .int .i64 err]) ∧ GroS (vq :: rp :: mp :: blk ro) w w' ∧ VD C w' vq mp rp B ro rc n L2 pw2 dn' h2 dw2 inc ao cap R ∧ dn ≤ dn' ∧ dn' ≤ dn + 20) ∨
  (err = 0 ∧ ∃ dn' ao3 cap3 R2 bo bc, e = .returned (.tuple #[.bool true, .int .i64 0]) ∧ GroS (vq :: rp :: mp :: blk ro) w w' ∧ VD C w' vq mp rp B ro rc n L2 pw2 dn' h2 dw2 inc ao3 cap3 R2 ∧ R2.map IM.it = tkV (R.map IM.it) x.it ∧ (∀ y ∈ R2, y ∈ R ∨ y = x.re bo bc) ∧ OB w' 5 .u8 w.heap.size bo bc x.val ∧ dn ≤ dn' ∧ dn' ≤ dn + 20)
theorem Yx (C : Nat) (w : World) (vq mp rp B : Nat) (ro : Option Addr) (rc n : Nat) (L : List Nat) (pw dn : Int) (h : Hd) (dw : Bool) (inc : Int) (ao : Option Addr) (cap : Nat) (R : List IM) (H : VD C w vq mp rp B ro rc n L pw dn h dw inc ao cap R) (hRl : R.length ≤ 4096) (hC : C ≤ w.heap.size) (hSK : SKv (R.map IM.it)) (x : IM) (hx : x.ok) (hn1 : 1 ≤ x.n) (hn2 : x.n ≤ 4611686018427387903) (hl : x.val.length ≤ 64) (hnew : fkI R x.key = none ∨ ∃ y, fkI R x.key = some y ∧ y.ok ∧ nwV x.ver y.ver = true) (HX : BS (rp :: mp :: blk ro) w x.ao x.cap x.val) (rs : List (List Nat)) (err : Int) (L2 : List Nat) (pw2 : Int) (h2 : Hd) (dw2 : Bool) (rs2 : List (List Nat)) (HO : Out n L pw h dw rs (formV x.it) err L2 pw2 h2 dw2 rs2) (SB : SideB n L pw h dw (formV x.it) err L2 pw2 h2 dw2) (hd1 : 0 ≤ dn) (hd2 : dn < 9223372036854760000) : Calls Tryz.prog 15 #[vP vq 0, .agg (itA x)] w (RMrgP C w vq mp rp B ro rc n dn inc ao cap R x err L2 pw2 h2 dw2) := by
  have t1 : decide (x.n < 1) = false := decide_eq_false (by omega)
  have t2 : decide (4611686018427387903 < x.n) = false := decide_eq_false (by omega)
  have t4 : decide ((64 : Int) < ((x.val.length : Nat) : Int)) = false := decide_eq_false (by omega)
  refine eN func15 rfl ntmps15 [vP vq 0, iA x] ?_
  have GG := Gro.refl w
  have kvq := H.box
  have hUw := H.lt3
  refine qS ?_
  refine jW 3 rfl rfl 42 _ rfl _ rfl (itA x) rfl ?_
  intro w1 g1 G eg1 kg1
  have bg1 := jh GG eg1
  have dvqg1 := jn kvq eg1
  replace kvq := G.has kvq
  replace GG := GG.trans G
  clear G
  clear eg1
  refine nq ?_
  refine mv (vF) rfl (mv (iK 0) rfl (nq ?_))
  refine qL (qE (qE ?_))
  refine jg ?_
  intro OPS hY
  have y4 := hY 4 13 rfl
  clear hY
  refine sv (vP g1 16) (je 42 _ 1 rfl g1 0 rfl 16 (by kernel_rfl)) rfl (sv (vP g1 16) (je 40 _ 0 rfl g1 16 rfl 16 (by kernel_rfl)) rfl (sv (iK x.n) (ldItn _ rfl g1 rfl (kg1)) rfl (sv (vF) (jv 2 _ _ _ rfl x.n 1 rfl rfl false t1 _) rfl (mv (vF) rfl (jd 14 rfl rfl y4 rfl (vP g1 16) (je 42 _ 1 rfl g1 0 rfl 16 (by kernel_rfl)) ?_)))))
  refine nq ?_
  refine jd 15 rfl rfl y4 rfl (vP g1 16) (je 40 _ 0 rfl g1 16 rfl 16 (by kernel_rfl)) (jd 16 rfl rfl y4 rfl (iK x.n) (ldItn _ rfl g1 rfl (kg1)) (jd 17 rfl rfl y4 rfl (vF) (jy 2 _ _ _ rfl x.n 4611686018427387903 rfl rfl false t2 _) (mv (vF) rfl (nq ?_))))
  refine qL (qF rfl (qK ?_))
  refine YN (fun az wv3 => ∃  (us1 : Nat → Value), az = ⟨[vP vq 0, iA x, uD, vP g1 0, us1 4, us1 5, uD, uD, uD, vP g1 16, vP g1 16, iK x.n, vF, vF, vP g1 16, vP g1 16, iK x.n, vF, vF, us1 19, us1 20, us1 21, us1 22, uD, uD, uD, uD, uD, uD, uD, uD, uD, uD, uD, uD, uD, uD, uD, uD, uD, uD, uD, uD, uD, uD, uD, uD, uD, uD, uD, uD, uD, uD, uD, uD, uD, uD].toArray, []⟩ ∧ Gro w wv3 ∧ wv3.heap[vq]? = some (.cells (rvA (some mp) ao R.length cap inc) 62 (0, 0)) ∧ wv3.heap[g1]? = some (.cells (itA x) 42 (0, 0))) ?_ ?_
  clear GG kvq kg1
  rintro az wv3 ⟨us1, rfl, GG, kvq, kg1⟩
  refine qE ?_
  rcases hnew with hF | ⟨y, hF, hyo, hq⟩
  skip
  refine qG (mv (vP vq 0) rfl (sv (vP g1 0) (je 42 _ 0 rfl g1 0 rfl 0 (by kernel_rfl)) rfl (sv (eA x.key) (ldItk _ rfl g1 rfl (kg1)) rfl (nq ?_))))
  refine jr 27 rfl rfl _ 17 call17 rfl rfl _ rfl [vP vq 0, eA x.key] rfl ((yW _ vq (some mp) ao cap R inc kvq (H.row.re.gro GG) hRl x.key hx.key).mono fun e w' h => by rw [hF] at h; exact h) ?_
  intro w2 G
  replace kvq := G.has kvq
  replace kg1 := G.has kg1
  replace GG := GG.trans G
  clear G
  refine nq ?_
  refine mv (.tuple #[iA zM, vF]) rfl (mv (iA zM) rfl (mv (vF) rfl (nq ?_)))
  refine jH 6 rfl rfl 42 rfl _ zeroIt (itA zM) rfl ?_
  intro w3 g2 G eg2 kg2
  have bg2 := jh GG eg2
  have dvqg2 := jn kvq eg2
  have dg1g2 := jn kg1 eg2
  replace kvq := G.has kvq
  replace kg1 := G.has kg1
  replace GG := GG.trans G
  clear G
  clear eg2
  refine nq ?_
  refine stI zM rfl rfl rfl kg2 rfl ?_
  intro w4 St
  replace kvq := St.has (by omega) kvq
  replace kg1 := St.has (by omega) kg1
  replace GG := GG.store St bg2
  replace kg2 := St.new
  clear St
  refine mv (vF) rfl (nq ?_)
  refine qL (qE (qE ?_))
  refine jg ?_
  intro OPS hY
  have y1 := hY 1 31 rfl
  clear hY
  refine mv (vF) rfl (mv (vF) rfl (jk 32 rfl rfl y1 rfl (jk 33 rfl rfl y1 rfl (jk 34 rfl rfl y1 rfl (jk 35 rfl rfl y1 rfl ?_)))))
  refine nq ?_
  refine jk 36 rfl rfl y1 rfl (jk 37 rfl rfl y1 rfl (mv (vF) rfl (nq ?_)))
  refine qL (qF rfl (qK (qE (qE ?_))))
  have bz7 := GG.size
  refine jQ (A := ?Ax5) 6 [(0, 39), (1, 40), (2, 41), (3, 42), (4, 43), (5, 44)] [.val (vP vq 0), .val (vP vq 0), .val (vP vq 0), .val (vP mp 0), .val (iA x), bytE w4.heap.size (formV x.it)] follows (by kernel_rfl) rfl ?hAx5 (ja ?_ (ja ?_ (ja ?_ (ja ?_ (ja ?_ (ja ?_ jD)))))) ?_
  case hAx5 =>
    intro ptrs
    simp only [full, foldSlots, filledE, postE, List.foldl_cons, List.foldl_nil, List.getD_cons_zero, List.getD_cons_succ, zu, yi, List.set_cons_zero, List.set_cons_succ]
    exact rfl
  exact fun _ _ _ _ => jf _ rfl rfl rfl
  exact fun _ _ _ _ => jb rfl (jl _ rfl _ rfl)
  exact fun _ _ _ _ => jb rfl (je 62 _ 0 rfl vq 0 rfl 0 (by kernel_rfl))
  exact fun _ _ hw _ => jb rfl (ldRvl _ rfl vq rfl (hw.has kvq))
  exact fun _ _ hw _ => jb rfl (ldIt0 _ rfl g1 rfl (hw.has kg1))
  intro ptrs w' hw hE
  exact zi (bytE w4.heap.size (formV x.it)) rfl _ 36 call36 rfl rfl _ rfl [iA x] rfl ((JP x hx (by omega) (by omega) _ ((HX.nc.gro GG).gro ((Gro.refl _).drew.trans hw))).mono fun e w' ⟨ao, cap, he, hg, ho⟩ => ⟨_, he, hg, ao, cap, rfl, ho.mono hw.size⟩)
  intro ptrs w5 GD hxE
  simp only [List.drop_succ_cons, List.drop_zero]
  replace kvq := GD.has kvq
  replace kg1 := GD.has kg1
  replace kg2 := GD.has kg2
  replace GG := GG.drew.trans GD
  obtain ⟨⟨ao1, cap1, hx1, HO1⟩, _⟩ := hxE
  simp only [hx1]
  clear hx1
  clear GD
  have HXn := HX.gro GG
  refine jq 45 rfl rfl _ 31 call31 rfl rfl _ rfl [vP mp 0, .slice ao1 (formV x.it).length cap1] rfl (SB _ mp rp B ro rc dn _ _ (H.log.gro GG) (H.dsk.gro GG) (HO1.bs (fun k hk => Nat.lt_of_lt_of_le (hUw k hk) bz7)) hd1 hd2) (by rintro _ _ ⟨_, he, _, _, _, _, _⟩; exact ⟨_, he⟩) ?_
  rintro v w6 ⟨dn2, he, G, hd3, hd4, HD2, HK2⟩
  cases he
  replace HXn := HXn.gros G
  have HDc := H.dsk.gro GG
  have HMc := H.log.gro GG
  replace kvq := G.has kvq (fun hm => notS kvq HDc HMc (by decide) (by decide) (by decide) hm)
  replace kg1 := G.has kg1 (fun hm => notS kg1 HDc HMc (by decide) (by decide) (by decide) hm)
  replace kg2 := G.has kg2 (fun hm => notS kg2 HDc HMc (by decide) (by decide) (by decide) hm)
  have HW := HDc.keepW HMc G (H.row.gro GG)
  have HS : OBs _ C R := fun y hy => HDc.keepB HMc G ((H.byt y hy).gro GG) H.lt
  have GS : GroS (vq :: rp :: mp :: blk ro) w w6 := (GroS.of GG).trans (G.mono (fun k hk => List.mem_cons_of_mem _ hk))
  clear GG HDc HMc G
  have GG := GS
  clear GS
  refine nq ?_
  refine mv (iK err) rfl (nq ?_)
  refine qL (qE ?_)
  rcases HO.res with ⟨rfl, hrs⟩ | ⟨he1, hrs⟩
  clear hrs
  have hdw := HO.ok rfl
  subst hdw
  refine qG (mv (iK 0) rfl (sv (vF) (jj 31 .i64 _ _ _ rfl underlying31 0 0 rfl rfl false (decide_eq_true rfl) _) rfl (nq ?_)))
  refine qL (qF rfl (qK (qS ?_)))
  refine ye 49 rfl rfl 27 0 _ rfl [] rfl #[] 5 (by kernel_rfl) ?_
  intro w7 gb G egb kgb
  have bgb := jN GG egb
  have dvqgb := jn kvq egb
  have dg1gb := jn kg1 egb
  have dg2gb := jn kg2 egb
  replace kvq := G.has kvq
  replace kg1 := G.has kg1
  replace kg2 := G.has kg2
  replace HW := HW.gro G
  replace HS := HS.gro G
  replace HD2 := HD2.gro G
  replace HK2 := HK2.gro G
  replace HXn := HXn.gro G
  replace GG := GG.tg G
  clear G
  clear egb
  refine nq ?_
  refine sv (vP g1 33) (je 42 _ 2 rfl g1 0 rfl 33 (by kernel_rfl)) rfl (sv (.slice x.ao x.val.length x.cap) (ldItr _ rfl g1 rfl (kg1)) rfl (nq ?_))
  refine UO 52 rfl rfl _ _ rfl rfl kgb rfl (HXn.nc) (by omega) ?_
  intro ao3 cap3 w8 HO3 G
  have dHO3vq := HO3.neB dvqgb
  have dHO3g1 := HO3.neB dg1gb
  have dHO3g2 := HO3.neB dg2gb
  replace kvq := G.has kvq
  replace kg1 := G.has kg1
  replace kg2 := G.has kg2
  replace kgb := G.has kgb
  replace HW := HW.gro G
  replace HS := HS.gro G
  replace HD2 := HD2.gro G
  replace HK2 := HK2.gro G
  replace HXn := HXn.gro G
  replace GG := GG.tg G
  clear G
  replace HO3 := HO3.mono bgb
  clear kgb
  refine nq ?_
  refine sv (vP g1 33) (je 42 _ 2 rfl g1 0 rfl 33 (by kernel_rfl)) rfl (nq ?_)
  refine jE rfl rfl 27 _ _ rfl g1 33 rfl (.slice ao3 x.val.length cap3) rfl 42 _ kg1 #[.slice ao3 x.val.length cap3] rfl siBy (by rw [zB]; exact Nat.le_of_ble_eq_true rfl) (ZH _ _ _) (itA (x.re ao3 cap3)) (Zp _ _ _) ?_
  intro w9 St
  replace kvq := St.has (by omega) kvq
  replace kg2 := St.has (by omega) kg2
  replace HW := HW.st St (fun hm => by have := H.row.own.lt _ hm; omega)
  replace HS := HS.st St (fun y hy ad ha => jB ((HS y hy).blk5 ha).choose_spec kg1 (by decide))
  replace HD2 := HD2.stq St (jB kg1 HD2.box (by decide)) (fun ad ha => jB (HD2.row.blk5 ha).choose_spec kg1 (by decide))
  replace HK2 := (⟨St.has (jB HK2.box kg1 (by decide)) HK2.box⟩ : MK _ _ _ _ _)
  clear HXn
  replace HO3 := HO3.st St dHO3g1
  replace GG := GG.st St (.inl bg1)
  replace kg1 := St.new
  clear St
  refine qL (qE (qG (mv (vP vq 0) rfl (sv (iA (x.re ao3 cap3)) (ldIt0 _ rfl g1 rfl (kg1)) rfl (nq ?_)))))
  have hCc := Nat.le_trans hC GG.size
  have lzg1 := ji kg1
  refine jq 56 rfl rfl _ 37 call37 rfl rfl _ rfl [vP vq 0, iA (x.re ao3 cap3)] rfl (uv _ C vq (some mp) ao cap R inc kvq HW hCc hRl hSK (fun y hy => by have := H.n0 y hy; omega) (x.re ao3 cap3) (hx.re _ _) (by show 0 ≤ x.n; omega)) (by rintro _ _ ⟨_, _, _, _, he, _, _, _, _, _, _⟩; exact ⟨_, he⟩) ?_
  rintro v w10 ⟨b, ao4, cap4, R2, he, G, kv2, HW2, hR2, hm2, hK2⟩
  cases he
  replace kg1 := G.has kg1 (fun hm => jB kg1 kvq (by decide) (List.mem_singleton.1 hm))
  replace HO3 := HO3.gros G (fun ad ha hm => by obtain ⟨cur, hc⟩ := HO3.blk5 ha; exact yx kvq (by decide) _ hm _ hc)
  replace HS := HS.gros G (yx kvq (by decide))
  replace HD2 := HD2.gros G (fun hm => jB HD2.box kvq (by decide) (List.mem_singleton.1 hm)) (fun ad ha hm => by obtain ⟨cur, hc⟩ := HD2.row.blk5 ha; exact yx kvq (by decide) _ hm _ hc)
  replace HK2 := HK2.gros G (fun hm => jB HK2.box kvq (by decide) (List.mem_singleton.1 hm))
  replace GG := GG.trans (G.mono (fun k hk => List.mem_cons.2 (.inl (List.mem_singleton.1 hk))))
  clear kvq HW G
  have HW := HW2
  have kvq := kv2
  clear HW2 kv2
  refine nq ?_
  refine qL (qE (qG (mv (vT) rfl (mv (iK 0) rfl (nq ?_)))))
  refine qL (qR ?_)
  refine bodyPost_ret (results_tmp2 results15 _ _ _) rfl ?_
  exact .inr ⟨rfl, dn2, ao4, cap4, R2, _, _, rfl, GG, ⟨kvq, HK2, HD2, HW, HS.both (x := (x.re ao3 cap3)) (HO3.mono hC) hm2, JJ H.n0 (x := (x.re ao3 cap3)) (by show 1 ≤ x.n; omega) hm2, H.lt⟩, hR2, hm2, HO3, hd3, hd4⟩
  clear hrs
  have t3 : decide (err = 0) = false := decide_eq_false he1
  refine qG (mv (iK err) rfl (sv (vT) (jj 31 .i64 _ _ _ rfl underlying31 err 0 rfl rfl true t3 _) rfl (nq ?_)))
  refine qL (qT rfl (qE (qG (mv (iK err) rfl (mv (vF) rfl (mv (iK err) rfl (nq ?_)))))))
  refine qL (qR (jm ?_))
  refine bodyPost_ret (results_tmp2 results15 _ _ _) rfl ?_
  exact .inl ⟨he1, dn2, rfl, GG, ⟨kvq, HK2, HD2, HW, HS, H.n0, H.lt⟩, hd3, hd4⟩
  skip
  refine qG (mv (vP vq 0) rfl (sv (vP g1 0) (je 42 _ 0 rfl g1 0 rfl 0 (by kernel_rfl)) rfl (sv (eA x.key) (ldItk _ rfl g1 rfl (kg1)) rfl (nq ?_))))
  refine jr 27 rfl rfl _ 17 call17 rfl rfl _ rfl [vP vq 0, eA x.key] rfl ((yW _ vq (some mp) ao cap R inc kvq (H.row.re.gro GG) hRl x.key hx.key).mono fun e w' h => by rw [hF] at h; exact h) ?_
  intro w2 G
  replace kvq := G.has kvq
  replace kg1 := G.has kg1
  replace GG := GG.trans G
  clear G
  refine nq ?_
  refine mv (.tuple #[iA y, vT]) rfl (mv (iA y) rfl (mv (vT) rfl (nq ?_)))
  refine jH 6 rfl rfl 42 rfl _ zeroIt (itA zM) rfl ?_
  intro w3 g2 G eg2 kg2
  have bg2 := jh GG eg2
  have dvqg2 := jn kvq eg2
  have dg1g2 := jn kg1 eg2
  replace kvq := G.has kvq
  replace kg1 := G.has kg1
  replace GG := GG.trans G
  clear G
  clear eg2
  refine nq ?_
  refine stI y rfl rfl rfl kg2 rfl ?_
  intro w4 St
  replace kvq := St.has (by omega) kvq
  replace kg1 := St.has (by omega) kg1
  replace GG := GG.store St bg2
  replace kg2 := St.new
  clear St
  refine mv (vT) rfl (nq ?_)
  refine qL (qE (qE ?_))
  refine jg ?_
  intro OPS hY
  have y1 := hY 1 31 rfl
  clear hY
  refine mv (vT) rfl (mv (vT) rfl (jd 32 rfl rfl y1 rfl (vP g1 16) (je 42 _ 1 rfl g1 0 rfl 16 (by kernel_rfl)) (jd 33 rfl rfl y1 rfl (.agg (veA x.ver)) (ldItv _ rfl g1 rfl (kg1)) (jd 34 rfl rfl y1 rfl (vP g2 16) (je 42 _ 1 rfl g2 0 rfl 16 (by kernel_rfl)) (jd 35 rfl rfl y1 rfl (.agg (veA y.ver)) (ldItv _ rfl g2 rfl (kg2)) ?_)))))
  refine nq ?_
  refine zP 36 rfl rfl y1 rfl _ 39 call39 rfl rfl _ rfl [.agg (veA x.ver), .agg (veA y.ver)] rfl (Calls.bool (vL x.ver y.ver hx.ver hyo.ver _) hq) ?_
  intro w5 G
  replace kvq := G.has kvq
  replace kg1 := G.has kg1
  replace kg2 := G.has kg2
  replace GG := GG.trans G
  clear G
  refine nq ?_
  refine jd 37 rfl rfl y1 rfl (vF) (jZ _ _ rfl true rfl) (mv (vF) rfl (nq ?_))
  refine qL (qF rfl (qK (qE (qE ?_))))
  have bz7 := GG.size
  refine jQ (A := ?Ax6) 6 [(0, 39), (1, 40), (2, 41), (3, 42), (4, 43), (5, 44)] [.val (vP vq 0), .val (vP vq 0), .val (vP vq 0), .val (vP mp 0), .val (iA x), bytE w5.heap.size (formV x.it)] follows (by kernel_rfl) rfl ?hAx6 (ja ?_ (ja ?_ (ja ?_ (ja ?_ (ja ?_ (ja ?_ jD)))))) ?_
  case hAx6 =>
    intro ptrs
    simp only [full, foldSlots, filledE, postE, List.foldl_cons, List.foldl_nil, List.getD_cons_zero, List.getD_cons_succ, zu, yi, List.set_cons_zero, List.set_cons_succ]
    exact rfl
  exact fun _ _ _ _ => jf _ rfl rfl rfl
  exact fun _ _ _ _ => jb rfl (jl _ rfl _ rfl)
  exact fun _ _ _ _ => jb rfl (je 62 _ 0 rfl vq 0 rfl 0 (by kernel_rfl))
  exact fun _ _ hw _ => jb rfl (ldRvl _ rfl vq rfl (hw.has kvq))
  exact fun _ _ hw _ => jb rfl (ldIt0 _ rfl g1 rfl (hw.has kg1))
  intro ptrs w' hw hE
  exact zi (bytE w5.heap.size (formV x.it)) rfl _ 36 call36 rfl rfl _ rfl [iA x] rfl ((JP x hx (by omega) (by omega) _ ((HX.nc.gro GG).gro ((Gro.refl _).drew.trans hw))).mono fun e w' ⟨ao, cap, he, hg, ho⟩ => ⟨_, he, hg, ao, cap, rfl, ho.mono hw.size⟩)
  intro ptrs w6 GD hxE
  simp only [List.drop_succ_cons, List.drop_zero]
  replace kvq := GD.has kvq
  replace kg1 := GD.has kg1
  replace kg2 := GD.has kg2
  replace GG := GG.drew.trans GD
  obtain ⟨⟨ao1, cap1, hx1, HO1⟩, _⟩ := hxE
  simp only [hx1]
  clear hx1
  clear GD
  have HXn := HX.gro GG
  refine jq 45 rfl rfl _ 31 call31 rfl rfl _ rfl [vP mp 0, .slice ao1 (formV x.it).length cap1] rfl (SB _ mp rp B ro rc dn _ _ (H.log.gro GG) (H.dsk.gro GG) (HO1.bs (fun k hk => Nat.lt_of_lt_of_le (hUw k hk) bz7)) hd1 hd2) (by rintro _ _ ⟨_, he, _, _, _, _, _⟩; exact ⟨_, he⟩) ?_
  rintro v w7 ⟨dn2, he, G, hd3, hd4, HD2, HK2⟩
  cases he
  replace HXn := HXn.gros G
  have HDc := H.dsk.gro GG
  have HMc := H.log.gro GG
  replace kvq := G.has kvq (fun hm => notS kvq HDc HMc (by decide) (by decide) (by decide) hm)
  replace kg1 := G.has kg1 (fun hm => notS kg1 HDc HMc (by decide) (by decide) (by decide) hm)
  replace kg2 := G.has kg2 (fun hm => notS kg2 HDc HMc (by decide) (by decide) (by decide) hm)
  have HW := HDc.keepW HMc G (H.row.gro GG)
  have HS : OBs _ C R := fun y hy => HDc.keepB HMc G ((H.byt y hy).gro GG) H.lt
  have GS : GroS (vq :: rp :: mp :: blk ro) w w7 := (GroS.of GG).trans (G.mono (fun k hk => List.mem_cons_of_mem _ hk))
  clear GG HDc HMc G
  have GG := GS
  clear GS
  refine nq ?_
  refine mv (iK err) rfl (nq ?_)
  refine qL (qE ?_)
  rcases HO.res with ⟨rfl, hrs⟩ | ⟨he1, hrs⟩
  clear hrs
  have hdw := HO.ok rfl
  subst hdw
  refine qG (mv (iK 0) rfl (sv (vF) (jj 31 .i64 _ _ _ rfl underlying31 0 0 rfl rfl false (decide_eq_true rfl) _) rfl (nq ?_)))
  refine qL (qF rfl (qK (qS ?_)))
  refine ye 49 rfl rfl 27 0 _ rfl [] rfl #[] 5 (by kernel_rfl) ?_
  intro w8 gb G egb kgb
  have bgb := jN GG egb
  have dvqgb := jn kvq egb
  have dg1gb := jn kg1 egb
  have dg2gb := jn kg2 egb
  replace kvq := G.has kvq
  replace kg1 := G.has kg1
  replace kg2 := G.has kg2
  replace HW := HW.gro G
  replace HS := HS.gro G
  replace HD2 := HD2.gro G
  replace HK2 := HK2.gro G
  replace HXn := HXn.gro G
  replace GG := GG.tg G
  clear G
  clear egb
  refine nq ?_
  refine sv (vP g1 33) (je 42 _ 2 rfl g1 0 rfl 33 (by kernel_rfl)) rfl (sv (.slice x.ao x.val.length x.cap) (ldItr _ rfl g1 rfl (kg1)) rfl (nq ?_))
  refine UO 52 rfl rfl _ _ rfl rfl kgb rfl (HXn.nc) (by omega) ?_
  intro ao3 cap3 w9 HO3 G
  have dHO3vq := HO3.neB dvqgb
  have dHO3g1 := HO3.neB dg1gb
  have dHO3g2 := HO3.neB dg2gb
  replace kvq := G.has kvq
  replace kg1 := G.has kg1
  replace kg2 := G.has kg2
  replace kgb := G.has kgb
  replace HW := HW.gro G
  replace HS := HS.gro G
  replace HD2 := HD2.gro G
  replace HK2 := HK2.gro G
  replace HXn := HXn.gro G
  replace GG := GG.tg G
  clear G
  replace HO3 := HO3.mono bgb
  clear kgb
  refine nq ?_
  refine sv (vP g1 33) (je 42 _ 2 rfl g1 0 rfl 33 (by kernel_rfl)) rfl (nq ?_)
  refine jE rfl rfl 27 _ _ rfl g1 33 rfl (.slice ao3 x.val.length cap3) rfl 42 _ kg1 #[.slice ao3 x.val.length cap3] rfl siBy (by rw [zB]; exact Nat.le_of_ble_eq_true rfl) (ZH _ _ _) (itA (x.re ao3 cap3)) (Zp _ _ _) ?_
  intro w10 St
  replace kvq := St.has (by omega) kvq
  replace kg2 := St.has (by omega) kg2
  replace HW := HW.st St (fun hm => by have := H.row.own.lt _ hm; omega)
  replace HS := HS.st St (fun y hy ad ha => jB ((HS y hy).blk5 ha).choose_spec kg1 (by decide))
  replace HD2 := HD2.stq St (jB kg1 HD2.box (by decide)) (fun ad ha => jB (HD2.row.blk5 ha).choose_spec kg1 (by decide))
  replace HK2 := (⟨St.has (jB HK2.box kg1 (by decide)) HK2.box⟩ : MK _ _ _ _ _)
  clear HXn
  replace HO3 := HO3.st St dHO3g1
  replace GG := GG.st St (.inl bg1)
  replace kg1 := St.new
  clear St
  refine qL (qE (qG (mv (vP vq 0) rfl (sv (iA (x.re ao3 cap3)) (ldIt0 _ rfl g1 rfl (kg1)) rfl (nq ?_)))))
  have hCc := Nat.le_trans hC GG.size
  have lzg1 := ji kg1
  refine jq 56 rfl rfl _ 37 call37 rfl rfl _ rfl [vP vq 0, iA (x.re ao3 cap3)] rfl (uv _ C vq (some mp) ao cap R inc kvq HW hCc hRl hSK (fun y hy => by have := H.n0 y hy; omega) (x.re ao3 cap3) (hx.re _ _) (by show 0 ≤ x.n; omega)) (by rintro _ _ ⟨_, _, _, _, he, _, _, _, _, _, _⟩; exact ⟨_, he⟩) ?_
  rintro v w11 ⟨b, ao4, cap4, R2, he, G, kv2, HW2, hR2, hm2, hK2⟩
  cases he
  replace kg1 := G.has kg1 (fun hm => jB kg1 kvq (by decide) (List.mem_singleton.1 hm))
  replace HO3 := HO3.gros G (fun ad ha hm => by obtain ⟨cur, hc⟩ := HO3.blk5 ha; exact yx kvq (by decide) _ hm _ hc)
  replace HS := HS.gros G (yx kvq (by decide))
  replace HD2 := HD2.gros G (fun hm => jB HD2.box kvq (by decide) (List.mem_singleton.1 hm)) (fun ad ha hm => by obtain ⟨cur, hc⟩ := HD2.row.blk5 ha; exact yx kvq (by decide) _ hm _ hc)
  replace HK2 := HK2.gros G (fun hm => jB HK2.box kvq (by decide) (List.mem_singleton.1 hm))
  replace GG := GG.trans (G.mono (fun k hk => List.mem_cons.2 (.inl (List.mem_singleton.1 hk))))
  clear kvq HW G
  have HW := HW2
  have kvq := kv2
  clear HW2 kv2
  refine nq ?_
  refine qL (qE (qG (mv (vT) rfl (mv (iK 0) rfl (nq ?_)))))
  refine qL (qR ?_)
  refine bodyPost_ret (results_tmp2 results15 _ _ _) rfl ?_
  exact .inr ⟨rfl, dn2, ao4, cap4, R2, _, _, rfl, GG, ⟨kvq, HK2, HD2, HW, HS.both (x := (x.re ao3 cap3)) (HO3.mono hC) hm2, JJ H.n0 (x := (x.re ao3 cap3)) (by show 1 ≤ x.n; omega) hm2, H.lt⟩, hR2, hm2, HO3, hd3, hd4⟩
  clear hrs
  have t3 : decide (err = 0) = false := decide_eq_false he1
  refine qG (mv (iK err) rfl (sv (vT) (jj 31 .i64 _ _ _ rfl underlying31 err 0 rfl rfl true t3 _) rfl (nq ?_)))
  refine qL (qT rfl (qE (qG (mv (iK err) rfl (mv (vF) rfl (mv (iK err) rfl (nq ?_)))))))
  refine qL (qR (jm ?_))
  refine bodyPost_ret (results_tmp2 results15 _ _ _) rfl ?_
  exact .inl ⟨he1, dn2, rfl, GG, ⟨kvq, HK2, HD2, HW, HS, H.n0, H.lt⟩, hd3, hd4⟩
  intro HT1
  refine qE (qE (qG (sv (vP g1 33) (je 42 _ 2 rfl g1 0 rfl 33 (by kernel_rfl)) rfl (sv (.slice x.ao x.val.length x.cap) (ldItr _ rfl g1 rfl (kg1)) rfl (sv (nK x.val.length) (js underlying27 _ rfl _ _ _ rfl _) rfl (sv (vF) (jy 3 _ _ _ rfl ((x.val.length : Nat) : Int) 64 rfl rfl false t4 _) rfl (nq ?_)))))))
  refine qL (qF rfl (qK ?_))
  exact HT1 _ _ (usJ ⟨GG, kvq, kg1⟩)
end Go.Proofs.YtgfnjekpafempaaGreat
