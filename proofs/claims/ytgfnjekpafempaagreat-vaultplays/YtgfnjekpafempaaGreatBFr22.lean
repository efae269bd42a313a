import Derived.Test.YtgfnjekpafempaaGreatBRJ
import Derived.Test.YtgfnjekpafempaaGreatBFr21
namespace Go.Proofs.YtgfnjekpafempaaGreat
open Go.Proofs.Tryz
open Go.RowKit
structure OpQ where
  kind : Int
  n : Int
  x : IM
structure OpQ.ok (o : OpQ) : Prop where
  x : o.x.ok
  n : I64 o.n
def zO : OpQ := ⟨0, 0, zM⟩
def opL (o : OpQ) : List Value := .int .i64 o.kind :: .int .i64 o.n :: itL o.x
def opA (o : OpQ) : Array Value := (opL o).toArray
theorem Jy (o : OpQ) : (opL o).length = 36 := by simp [opL, vV]
theorem ym (o : OpQ) : (opA o).size = 36 := Jy o
theorem Vd (o : OpQ) : ∀ v ∈ opL o, v.oneCell' = true := fun v hv => by
  rcases List.mem_cons.1 hv with rfl | hv
  · rfl
  rcases List.mem_cons.1 hv with rfl | hv
  · rfl
  · exact JD _ _ hv
theorem opA_one (x : OpQ) : (opA x).all (·.oneCell') = true := by
  rw [Array.all_eq_true_iff_forall_mem]
  exact fun v hv => Vd x v (by simpa [opA] using hv)
theorem opA_sz (a b : OpQ) : (opA a).size = (opA b).size := (ym a).trans (ym b).symm
theorem opA_fit (a b : OpQ) : 0 + (opA a).size ≤ (opA b).size := by rw [ym, ym]; exact Nat.le_refl _
theorem siOp : (Tryz.prog.info? 44).map (·.size) = some 36 := by kernel_rfl
theorem siOp' (x : OpQ) : (Tryz.prog.info? 44).map (·.size) = some (opA x).size := by rw [ym]; exact siOp
theorem zeroOp (w : World) : (zeroValue 44).run Tryz.prog w = .ok (.agg (opA zO)) w := by rw [Tryz.zeroValue44]; kernel_rfl
def kO : Kd OpQ := ⟨opL, 36, OpQ.ok, zO, Jy, Vd⟩
theorem rO : RowT Tryz.prog 22 44 kO.sz 80 (.agg (opA zO)) := ⟨underlying22, uF (by kernel_rfl), ym zO, by decide⟩
theorem na3o (w : World) : (isAgg 3).run Tryz.prog w = .ok false w := by kernel_rfl
theorem na4o (w : World) : (isAgg 4).run Tryz.prog w = .ok false w := by kernel_rfl
section
variable {o : Oper} {A : Act} {w : World} {x : OpQ}
theorem jcg {ao : Option Addr} {cap : Nat} {l : List OpQ} (h : RK kO w ao cap l) (x : Operand) (ho : o.op = .load 44 x) (j : Nat) (hx : A.eval x = .pointer (pK kO ao j 0)) (hj : j < l.length) {q : OpQ} (hq : l.getD j zO = q) : (execOp A.eval o).run Tryz.prog w = .ok (.value (.agg (opA q))) w :=
  Zt h 44 _ underlying44 rfl 0 36 siOp (Nat.le_refl _) x ho j hx hj _ (by rw [show kO.z = zO from rfl, hq]; show ((opL q).drop 0).take 36 = _; kernel_rfl)
theorem ldOpk (y : Operand) (ho : o.op = .load 3 y) (g : Nat) (hx : A.eval y = .pointer (some ⟨g, 0, none⟩)) (hg : w.heap[g]? = some (.cells (opA x) 44 (0, 0))) : (execOp A.eval o).run Tryz.prog w = .ok (.value (.int .i64 x.kind)) w :=
  jo 3 y ho g 0 hx 44 _ hg (na3o w) _ (by kernel_rfl)
theorem ldOpn (y : Operand) (ho : o.op = .load 3 y) (g : Nat) (hx : A.eval y = .pointer (some ⟨g, 1, none⟩)) (hg : w.heap[g]? = some (.cells (opA x) 44 (0, 0))) : (execOp A.eval o).run Tryz.prog w = .ok (.value (.int .i64 x.n)) w :=
  jo 3 y ho g 1 hx 44 _ hg (na3o w) _ (by kernel_rfl)
theorem ldOpx (y : Operand) (ho : o.op = .load 42 y) (g : Nat) (hx : A.eval y = .pointer (some ⟨g, 2, none⟩)) (hg : w.heap[g]? = some (.cells (opA x) 44 (0, 0))) : (execOp A.eval o).run Tryz.prog w = .ok (.value (.agg (itA x.x))) w :=
  zx 42 y ho g 2 34 hx 44 _ hg _ underlying42 rfl siIt (by rw [ym]; decide) _ (by kernel_rfl)
theorem ldOpy (y : Operand) (ho : o.op = .load 38 y) (g : Nat) (hx : A.eval y = .pointer (some ⟨g, 2, none⟩)) (hg : w.heap[g]? = some (.cells (opA x) 44 (0, 0))) : (execOp A.eval o).run Tryz.prog w = .ok (.value (.agg (idA x.x.key))) w :=
  zx 38 y ho g 2 16 hx 44 _ hg _ underlying38 rfl size23 (by rw [ym]; decide) _ (by kernel_rfl)
theorem ldOpw (y : Operand) (ho : o.op = .load 38 y) (g : Nat) (hx : A.eval y = .pointer (some ⟨g, 19, none⟩)) (hg : w.heap[g]? = some (.cells (opA x) 44 (0, 0))) : (execOp A.eval o).run Tryz.prog w = .ok (.value (.agg (idA x.x.who))) w :=
  zx 38 y ho g 19 16 hx 44 _ hg _ underlying38 rfl size23 (by rw [ym]; decide) _ (by kernel_rfl)
theorem ldOpr (y : Operand) (ho : o.op = .load 27 y) (g : Nat) (hx : A.eval y = .pointer (some ⟨g, 35, none⟩)) (hg : w.heap[g]? = some (.cells (opA x) 44 (0, 0))) : (execOp A.eval o).run Tryz.prog w = .ok (.value (.slice x.x.ao x.x.val.length x.x.cap)) w :=
  jo 27 y ho g 35 hx 44 _ hg (na27v w) _ (by kernel_rfl)
theorem ldMKd {mp rp : Nat} {h : Hd} {dw : Bool} (H : MK w mp rp h dw) (y : Operand) (ho : o.op = .load 4 y) (hx : A.eval y = .pointer (some ⟨mp, 4, none⟩)) : (execOp A.eval o).run Tryz.prog w = .ok (.value (.bool dw)) w :=
  jo 4 y ho mp 4 hx 66 _ H.box (na4o w) _ rfl
theorem Jj (t : TypeId) (x y : Operand) (t2 : TypeId) (ho : o.op = .binOp .neq t x y t2) (b : Bool) (hx : A.eval x = .bool b) (hy : A.eval y = .bool b) (hu : Tryz.prog.underlying t = some .bool) : (execOp A.eval o).run Tryz.prog w = .ok (.value (.bool false)) w := run_neB t x y t2 ho b b hx hy hu false (by simp) w
theorem jci (t : TypeId) (x y : Operand) (t2 : TypeId) (ho : o.op = .binOp .eql t x y t2) (b : Bool) (hx : A.eval x = .bool b) (hy : A.eval y = .bool b) (hu : Tryz.prog.underlying t = some .bool) : (execOp A.eval o).run Tryz.prog w = .ok (.value (.bool true)) w := run_eqB t x y t2 ho b b hx hy hu true (by simp) w
end
theorem kO_mem {l : List OpQ} {j : Nat} (h : j < l.length) {q : OpQ} (hq : l.getD j zO = q) : q ∈ l := by
  rw [← hq, List.getD_eq_getElem?_getD, List.getElem?_eq_getElem h]
  exact List.getElem_mem h
theorem PU.pow {n : Nat} {L : List Nat} {pw pw2 : Int} {h : Hd} {rs : List (List Nat)} {Lx : List It} {c : Nat} {er : Int} {m : Nat} (H : PU n L pw h rs Lx c er m) (h2 : okP pw2) : PU n L pw2 h rs Lx c er (m + 1) := ⟨h2, H.good, Nat.le_succ_of_le H.g, H.op⟩
theorem n5S {w : World} {S : List Nat} (hS : ∀ k ∈ S, ∃ cur, w.heap[k]? = some (.cells cur 5 (0, 0))) {g : Nat} {cs : Array Value} {t : TypeId} (hg : w.heap[g]? = some (.cells cs t (0, 0))) (ht : t ≠ 5) : g ∉ S := fun hm => by
  obtain ⟨cur, hc⟩ := hS _ hm
  exact jB hg hc ht rfl
theorem jdn {w : World} {B : Nat} {ao : Option Addr} {cap : Nat} {l : List Nat} (h : OB w 5 .u8 B ao cap l) : ∀ k ∈ blk ao, ∃ cur, w.heap[k]? = some (.cells cur 5 (0, 0)) := fun k hk => by
  obtain ⟨ad, ha, rfl⟩ := mem_blk.1 hk
  exact h.blk5 ha
theorem vh {w : World} {B : Nat} {ao : Option Addr} {cap : Nat} {l : List Nat} (h : OB w 5 .u8 B ao cap l) : ∀ k ∈ blk ao, B ≤ k ∧ k < w.heap.size := fun k hk => by
  obtain ⟨ad, ha, rfl⟩ := mem_blk.1 hk
  exact h.ge ad ha
section
variable {w w' : World} {p sg rp B : Nat} {ro : Option Addr} {rc n n2 : Nat} {L L2 : List Nat} {pw pw2 dn dq : Int}
theorem QF (HD : DK w p sg n L pw dn) (HQ : QK w rp B ro rc n2 L2 pw2 dq) : ∀ k ∈ p :: sg :: rp :: blk ro, k < w.heap.size := fun k hk => by
  rcases List.mem_cons.1 hk with rfl | hk
  · exact ji HD.box
  rcases List.mem_cons.1 hk with rfl | hk
  · exact ji HD.sec
  rcases List.mem_cons.1 hk with rfl | hk
  · exact ji HQ.box
  · exact HQ.ltr k hk
theorem q_ge (HQ : QK w rp B ro rc n L pw dq) (hr : B ≤ rp) : ∀ k ∈ rp :: blk ro, B ≤ k := fun k hk => by
  rcases List.mem_cons.1 hk with rfl | hk
  · exact hr
  · obtain ⟨ad, ha, rfl⟩ := mem_blk.1 hk
    exact (HQ.row.ge ad ha).1
end
section
variable {C : Nat} {w w' : World} {vq mp rp B : Nat} {ro : Option Addr} {rc n : Nat} {L : List Nat} {pw dn : Int} {h : Hd} {dw : Bool} {inc : Int} {ao : Option Addr} {cap : Nat} {R : List IM} {S : List Nat}
theorem VD.gros (H : VD C w vq mp rp B ro rc n L pw dn h dw inc ao cap R) (G : GroS S w w') (h1 : vq ∉ S) (h2 : mp ∉ S) (h3 : rp ∉ S) (h4 : ∀ k ∈ blk ro, k ∉ S) (h5 : ∀ k ∈ blk ao, k ∉ S) (h6 : ∀ y ∈ R, ∀ ad, y.ao = some ad → ad.block ∉ S) : VD C w' vq mp rp B ro rc n L pw dn h dw inc ao cap R :=
  ⟨G.has H.box h1, H.log.gros G h2, H.dsk.gros G h3 (fun ad ha => h4 _ (mem_blk.2 ⟨ad, ha, rfl⟩)), H.row.gros G h5, fun y hy => (H.byt y hy).gros G (h6 y hy), H.n0, H.lt⟩
theorem VD.keepV (H : VD C w vq mp rp B ro rc n L pw dn h dw inc ao cap R) {U : List Nat} {vp lp p sg mb n2 : Nat} {L2 : List Nat} {pw2 dn2 : Int} {h2 : Hd} {dw2 : Bool} {inc2 : Int} {M : List (Nat × IM)} (HV : VK U w vp lp p sg mb n2 L2 pw2 dn2 h2 dw2 inc2 M) (G : GroS [vp, lp, p, sg, mb] w w') : VD C w' vq mp rp B ro rc n L pw dn h dw inc ao cap R :=
  H.gros G (HV.nin H.box (by decide)) (HV.nin H.log.box (by decide)) (HV.nin H.dsk.box (by decide)) (fun k hk => by
    obtain ⟨ad, ha, rfl⟩ := mem_blk.1 hk
    obtain ⟨cur, hc⟩ := H.dsk.row.blk5 ha
    exact HV.nin hc (by decide)) (fun k hk => by
    obtain ⟨cur, hc, _⟩ := H.row.blkt hk
    exact HV.nin hc (by decide)) (fun y hy ad ha => by
    obtain ⟨cur, hc⟩ := (H.byt y hy).blk5 ha
    exact HV.nin hc (by decide))
theorem VD.keepP (H : VD C w vq mp rp B ro rc n L pw dn h dw inc ao cap R) {p sg n2 : Nat} {L2 : List Nat} {pw2 dn2 : Int} (HD : DK w p sg n2 L2 pw2 dn2) (G : GroS [p, sg] w w') : VD C w' vq mp rp B ro rc n L pw dn h dw inc ao cap R :=
  H.gros G (HD.nin H.box (by decide)) (HD.nin H.log.box (by decide)) (HD.nin H.dsk.box (by decide)) (fun k hk => H.dsk.nD HD k (List.mem_cons_of_mem _ hk)) (fun k hk => by
    obtain ⟨cur, hc, _⟩ := H.row.blkt hk
    exact HD.nin hc (by decide)) (fun y hy ad ha => by
    obtain ⟨cur, hc⟩ := (H.byt y hy).blk5 ha
    exact HD.nin hc (by decide))
theorem VK.keepR {U : List Nat} {vp lp p sg mb n2 : Nat} {L2 : List Nat} {pw2 dn2 : Int} {h2 : Hd} {dw2 : Bool} {inc2 : Int} {M : List (Nat × IM)} (HV : VK U w vp lp p sg mb n2 L2 pw2 dn2 h2 dw2 inc2 M) (H : VD C w vq mp rp B ro rc n L pw dn h dw inc ao cap R) (G : GroS (vq :: rp :: mp :: blk ro) w w') (hU : ∀ k ∈ blk ro, k ∈ U) : VK U w' vp lp p sg mb n2 L2 pw2 dn2 h2 dw2 inc2 M :=
  HV.gros G fun k hk => by
    rcases List.mem_cons.1 hk with rfl | hk
    · exact ⟨HV.nin H.box (by decide), HV.nrow H.box (by decide)⟩
    rcases List.mem_cons.1 hk with rfl | hk
    · exact ⟨HV.nin H.dsk.box (by decide), HV.nrow H.dsk.box (by decide)⟩
    rcases List.mem_cons.1 hk with rfl | hk
    · exact ⟨HV.nin H.log.box (by decide), HV.nrow H.log.box (by decide)⟩
    · obtain ⟨ad, ha, rfl⟩ := mem_blk.1 hk
      obtain ⟨cur, hc⟩ := H.dsk.row.blk5 ha
      exact ⟨HV.nin hc (by decide), fun x hx ad2 ha2 h0 e => (HV.mr.row x hx).ne ad2 ha2 h0 (e ▸ hU _ hk)⟩
theorem VD.nin4 (H : VD C w vq mp rp B ro rc n L pw dn h dw inc ao cap R) {g : Nat} {cs : Array Value} {t : TypeId} (hk : w.heap[g]? = some (.cells cs t (0, 0))) (ht : t ≠ 62 ∧ t ≠ 47 ∧ t ≠ 66 ∧ t ≠ 5) : g ∉ vq :: rp :: mp :: blk ro := fun hm => by
  rcases List.mem_cons.1 hm with e | hm
  · exact jB hk H.box ht.1 e
  · exact notS hk H.dsk H.log ht.2.1 ht.2.2.1 ht.2.2.2 hm
theorem VD.keepB4 (H : VD C w vq mp rp B ro rc n L pw dn h dw inc ao cap R) (G : GroS (vq :: rp :: mp :: blk ro) w w') {K : Nat} {bo : Option Addr} {bc : Nat} {l : List Nat} (HO : OB w 5 .u8 K bo bc l) (hK : ∀ k ∈ blk ro, k < K) : OB w' 5 .u8 K bo bc l :=
  HO.gros G fun ad ha hm => by
    obtain ⟨cur, hc⟩ := HO.blk5 ha
    have hge := (HO.ge ad ha).1
    rcases List.mem_cons.1 hm with e | hm
    · exact jB hc H.box (by decide) e
    rcases List.mem_cons.1 hm with e | hm
    · exact jB hc H.dsk.box (by decide) e
    rcases List.mem_cons.1 hm with e | hm
    · exact jB hc H.log.box (by decide) e
    · have := hK _ hm
      omega
end
structure TwoO (B : Nat) (U : List Nat) (w : World) (vp lp p sg mb vq mp rp : Nat) (ro : Option Addr) (rc n : Nat) (L : List Nat) (pa pb dn dq : Int) (h : Hd) (dw : Bool) (Lx : List It) (c : Nat) (M : List (Nat × IM)) (ao : Option Addr) (cap : Nat) (R : List IM) (C m : Nat) : Prop where
  vk : VK U w vp lp p sg mb n L pa dn h dw (c : Int) M
  rel : MRel M Lx
  sub : ∀ k ∈ blk ro, k ∈ U
  vd : VD C w vq mp rp B ro rc n L pb dq h dw (c : Int) ao cap R
  its : R.map IM.it = Lx
  ge : B ≤ vp ∧ B ≤ lp ∧ B ≤ mb ∧ B ≤ vq ∧ B ≤ mp ∧ B ≤ C ∧ C ≤ w.heap.size
  d : 0 ≤ dn ∧ dn ≤ 20 * m ∧ 0 ≤ dq ∧ dq ≤ 20 * m
def NoR (S : List Nat) (ro : Option Addr) (M : List (Nat × IM)) (R : List IM) : Prop := ∀ k ∈ S, k ∉ blk ro ∧ (∀ z ∈ M, ∀ ad, z.2.ao = some ad → 0 < z.2.val.length → ad.block ≠ k) ∧ ∀ y ∈ R, ∀ ad, y.ao = some ad → ad.block ≠ k
section
variable {B : Nat} {U : List Nat} {w w1 w2 w3 : World} {vp lp p sg mb vq mp rp : Nat} {ro : Option Addr} {rc n : Nat} {L : List Nat} {pa pb dn dq : Int} {h : Hd} {dw : Bool} {Lx : List It} {c : Nat} {M : List (Nat × IM)} {ao : Option Addr} {cap : Nat} {R : List IM} {C m : Nat}
theorem TwoO.gro (H : TwoO B U w vp lp p sg mb vq mp rp ro rc n L pa pb dn dq h dw Lx c M ao cap R C m) (G : Gro w w1) : TwoO B U w1 vp lp p sg mb vq mp rp ro rc n L pa pb dn dq h dw Lx c M ao cap R C m := ⟨H.vk.gro G, H.rel, H.sub, H.vd.gro G, H.its, ⟨H.ge.1, H.ge.2.1, H.ge.2.2.1, H.ge.2.2.2.1, H.ge.2.2.2.2.1, H.ge.2.2.2.2.2.1, Nat.le_trans H.ge.2.2.2.2.2.2 G.size⟩, H.d⟩
theorem TwoO.vdA (H : TwoO B U w vp lp p sg mb vq mp rp ro rc n L pa pb dn dq h dw Lx c M ao cap R C m) (G : GroS [vp, lp, p, sg, mb] w w1) (G2 : Gro w1 w2) : VD C w2 vq mp rp B ro rc n L pb dq h dw (c : Int) ao cap R ∧ C ≤ w2.heap.size := ⟨(H.vd.keepV H.vk G).gro G2, Nat.le_trans H.ge.2.2.2.2.2.2 (Nat.le_trans G.size G2.size)⟩
theorem TwoO.call (H : TwoO B U w vp lp p sg mb vq mp rp ro rc n L pa pb dn dq h dw Lx c M ao cap R C m) {L2 : List Nat} {pw2 da db : Int} {h2 : Hd} {dw2 : Bool} {Ly : List It} {M2 : List (Nat × IM)} {ao2 : Option Addr} {cap2 : Nat} {R2 : List IM} (hA : AftA U w w1 vp lp p sg mb n L2 pw2 dn da h2 dw2 c M M2 Ly) (G : Gro w1 w2) (hB : AftB C w2 w3 vq mp rp B ro rc n L2 pw2 dq db h2 dw2 c ao2 cap2 R R2 Ly) : TwoO B U w3 vp lp p sg mb vq mp rp ro rc n L2 pw2 pw2 da db h2 dw2 Ly c M2 ao2 cap2 R2 C (m + 1) := by
  have d := H.d
  have d1 := hA.d
  have d2 := hB.d
  have g := H.ge
  have s1 := hA.gro.size
  have s2 := G.size
  have s3 := hB.gro.size
  exact ⟨(hA.vk.gro G).keepR (H.vdA hA.gro G).1 hB.gro H.sub, hA.rel, H.sub, hB.vd, hB.rel, ⟨g.1, g.2.1, g.2.2.1, g.2.2.2.1, g.2.2.2.2.1, g.2.2.2.2.2.1, by omega⟩, by omega, by omega, by omega, by omega⟩
theorem TwoO.roL (H : TwoO B U w vp lp p sg mb vq mp rp ro rc n L pa pb dn dq h dw Lx c M ao cap R C m) : ∀ k ∈ blk ro, k < w.heap.size := H.vd.dsk.ltr
theorem TwoO.noR (H : TwoO B U w vp lp p sg mb vq mp rp ro rc n L pa pb dn dq h dw Lx c M ao cap R C m) {S : List Nat} {M2 : List (Nat × IM)} {R2 : List IM} (hM : ∀ z ∈ M2, z ∈ M ∨ (∀ ad, z.2.ao = some ad → 0 < z.2.val.length → ∀ k ∈ S, ad.block ≠ k)) (hR : ∀ y ∈ R2, y ∈ R ∨ (∀ ad, y.ao = some ad → ∀ k ∈ S, ad.block ≠ k)) (hS : ∀ k ∈ S, w.heap.size ≤ k) : NoR S ro M2 R2 := fun k hk => by
  have h0 := hS k hk
  refine ⟨fun hm => ?_, fun z hz ad ha hl => ?_, fun y hy ad ha => ?_⟩
  · have := H.roL k hm
    omega
  · rcases hM z hz with h1 | h1
    · have := H.vk.bd.2 z h1 ad ha hl
      omega
    · exact h1 ad ha hl k hk
  · rcases hR y hy with h1 | h1
    · have := ((H.vd.byt y h1).ge ad ha).2
      omega
    · exact h1 ad ha k hk
theorem TwoO.noX (H : TwoO B U w vp lp p sg mb vq mp rp ro rc n L pa pb dn dq h dw Lx c M ao cap R C m) {xo : Option Addr} {xc : Nat} {l : List Nat} {M2 : List (Nat × IM)} {R2 : List IM} (HX : OB w1 5 .u8 w.heap.size xo xc l) (hM : ∀ z ∈ M2, z ∈ M ∨ Frs w1 z.2.ao) (hR : ∀ y ∈ R2, y ∈ R ∨ Frs w2 y.ao) (hs : w1.heap.size ≤ w2.heap.size) : NoR (blk xo) ro M2 R2 :=
  H.noR (fun z hz => (hM z hz).imp id fun h ad ha _ k hk e => by
    have h1 := h ad ha
    have h2 := vh HX k hk
    omega) (fun y hy => (hR y hy).imp id fun h ad ha k hk e => by
    have h1 := h ad ha
    have h2 := vh HX k hk
    omega) fun k hk => (vh HX k hk).1
theorem TwoO.noY (H : TwoO B U w vp lp p sg mb vq mp rp ro rc n L pa pb dn dq h dw Lx c M ao cap R C m) {Ca : Nat} {yo : Option Addr} {yc : Nat} {l : List Nat} {M2 : List (Nat × IM)} {R2 : List IM} (hC : w.heap.size ≤ Ca) (hB : Bd Ca U M2) (HY : OB w1 5 .u8 Ca yo yc l) (hR : ∀ y ∈ R2, y ∈ R ∨ Frs w2 y.ao) (hs : w1.heap.size ≤ w2.heap.size) : NoR (blk yo) ro M2 R2 :=
  H.noR (fun z hz => .inr fun ad ha hl k hk e => by
    have h1 := hB.2 z hz ad ha hl
    have h2 := vh HY k hk
    omega) (fun y hy => (hR y hy).imp id fun h ad ha k hk e => by
    have h1 := h ad ha
    have h2 := vh HY k hk
    omega) fun k hk => Nat.le_trans hC (vh HY k hk).1
theorem TwoO.inc (H : TwoO B U w vp lp p sg mb vq mp rp ro rc n L pa pb dn dq h dw Lx c M ao cap R C m) {S : List Nat} (G : GroS S w w1) (hN : NoR S ro M R) (hS : ∀ k ∈ S, ∃ cur, w.heap[k]? = some (.cells cur 5 (0, 0))) : TwoO B U w1 vp lp p sg mb vq mp rp ro rc n L pa pb dn dq h dw Lx c M ao cap R C m := by
  have ne : ∀ {g : Nat} {cs : Array Value} {t : TypeId}, w.heap[g]? = some (.cells cs t (0, 0)) → t ≠ 5 → g ∉ S := fun hg ht hm => by
    obtain ⟨cur, hc⟩ := hS _ hm
    exact jB hg hc ht rfl
  refine ⟨H.vk.gros G fun k hk => ?_, H.rel, H.sub, H.vd.gros G (ne H.vd.box (by decide)) (ne H.vd.log.box (by decide)) (ne H.vd.dsk.box (by decide)) (fun k hk hm => (hN k hm).1 hk) (fun k hk => ?_) (fun y hy ad ha hm => (hN _ hm).2.2 y hy ad ha rfl), H.its, ?_, H.d⟩
  · obtain ⟨cur, hc⟩ := hS k hk
    exact ⟨H.vk.nin hc (by decide), (hN k hk).2.1⟩
  · obtain ⟨cur, hc, _⟩ := H.vd.row.blkt hk
    exact ne hc (by decide)
  · have g := H.ge
    have := G.size
    exact ⟨g.1, g.2.1, g.2.2.1, g.2.2.2.1, g.2.2.2.2.1, g.2.2.2.2.2.1, by omega⟩
end
def Two (B : Nat) (w : World) (p sg rp : Nat) (ro : Option Addr) (rc n : Nat) (L : List Nat) (pa pb : Int) (h : Hd) (dw : Bool) (Lx : List It) (c : Nat) (er : Int) (m : Nat) (va vb : Value) : Prop :=
  (er ≠ 0 ∧ va = .pointer none ∧ vb = .pointer none ∧ ∃ dn dq, DK w p sg n L pa dn ∧ QK w rp B ro rc n L pb dq ∧ 0 ≤ dn ∧ dn ≤ 20 * m ∧ 0 ≤ dq ∧ dq ≤ 20 * m) ∨
  (er = 0 ∧ ∃ U vp lp mb vq mp dn dq M ao cap R C, va = .pointer (some ⟨vp, 0, none⟩) ∧ vb = .pointer (some ⟨vq, 0, none⟩) ∧ TwoO B U w vp lp p sg mb vq mp rp ro rc n L pa pb dn dq h dw Lx c M ao cap R C m)
section
variable {B : Nat} {w w0 w1 w2 : World} {p sg rp : Nat} {ro : Option Addr} {rc n : Nat} {L : List Nat} {pa pb pw : Int} {h : Hd} {dw : Bool} {Lx : List It} {c : Nat} {er : Int} {m : Nat} {va vb : Value}
theorem Two.gro (H : Two B w p sg rp ro rc n L pa pb h dw Lx c er m va vb) (G : Gro w w1) : Two B w1 p sg rp ro rc n L pa pb h dw Lx c er m va vb := by
  rcases H with ⟨h0, h1, h2, dn, dq, HD, HQ, d⟩ | ⟨h0, U, vp, lp, mb, vq, mp, dn, dq, M, ao, cap, R, C, h1, h2, H⟩
  · exact .inl ⟨h0, h1, h2, dn, dq, HD.gro G, HQ.gro G, d⟩
  · exact .inr ⟨h0, U, vp, lp, mb, vq, mp, dn, dq, M, ao, cap, R, C, h1, h2, H.gro G⟩
theorem Two.dq (H : Two B w p sg rp ro rc n L pa pb h dw Lx c er m va vb) : ∃ dn dq, DK w p sg n L pa dn ∧ QK w rp B ro rc n L pb dq ∧ 0 ≤ dn ∧ dn ≤ 20 * m ∧ 0 ≤ dq ∧ dq ≤ 20 * m := by
  rcases H with ⟨_, _, _, H⟩ | ⟨_, U, vp, lp, mb, vq, mp, dn, dq, M, ao, cap, R, C, _, _, H⟩
  · exact H
  · exact ⟨dn, dq, H.vk.dsk, H.vd.dsk, H.d⟩
theorem Two.up (H : Two B w p sg rp ro rc n L pa pb h dw Lx c er m va vb) : Two B w p sg rp ro rc n L pa pb h dw Lx c er (m + 1) va vb := by
  rcases H with ⟨h0, h1, h2, dn, dq, HD, HQ, d⟩ | ⟨h0, U, vp, lp, mb, vq, mp, dn, dq, M, ao, cap, R, C, h1, h2, H⟩
  · exact .inl ⟨h0, h1, h2, dn, dq, HD, HQ, by omega, by omega, by omega, by omega⟩
  · have d := H.d
    exact .inr ⟨h0, U, vp, lp, mb, vq, mp, dn, dq, M, ao, cap, R, C, h1, h2, H.vk, H.rel, H.sub, H.vd, H.its, H.ge, by omega, by omega, by omega, by omega⟩
theorem Two.nils (H : Two B w p sg rp ro rc n L pa pb h dw Lx c er m va vb) : ∃ b : Bool, (∀ {o : Oper} {A : Act} {v : World} (x y : Operand) (t2 : TypeId), o.op = .binOp .eql 30 x y t2 → A.eval x = va → A.eval y = .pointer none → (execOp A.eval o).run Tryz.prog v = .ok (.value (.bool b)) v) ∧ (∀ {o : Oper} {A : Act} {v : World} (x y : Operand) (t2 : TypeId), o.op = .binOp .eql 34 x y t2 → A.eval x = vb → A.eval y = .pointer none → (execOp A.eval o).run Tryz.prog v = .ok (.value (.bool b)) v) := by
  rcases H with ⟨_, rfl, rfl, _⟩ | ⟨_, U, vp, lp, mb, vq, mp, dn, dq, M, ao, cap, R, C, rfl, rfl, _⟩
  · exact ⟨true, fun x y t2 ho hx hy => ZP _ x y t2 ho hx hy underlying30 _, fun x y t2 ho hx hy => ZP _ x y t2 ho hx hy underlying34 _⟩
  · exact ⟨false, fun x y t2 ho hx hy => jT _ x y t2 ho _ hx hy underlying30 _, fun x y t2 ho hx hy => jT _ x y t2 ho _ hx hy underlying34 _⟩
theorem Two.powA (H : Two B w p sg rp ro rc n L pa pb h dw Lx c er m va vb) (x : Int) : Calls Tryz.prog 9 #[.pointer (some ⟨p, 0, none⟩), .int .i64 x] w fun e w' => e = .returned (.tuple #[]) ∧ GroS [p] w w' ∧ Two B w' p sg rp ro rc n L (max x (-1)) pb h dw Lx c er m va vb := by
  rcases H with ⟨h0, h1, h2, dn, dq, HD, HQ, d⟩ | ⟨h0, U, vp, lp, mb, vq, mp, dn, dq, M, ao, cap, R, C, h1, h2, H⟩
  · exact (Yz w p sg n L pa dn HD x).mono fun e w' ⟨he, G, HD2⟩ => ⟨he, G, .inl ⟨h0, h1, h2, dn, dq, HD2, HQ.keepD HD (G.mono (by simp)), d⟩⟩
  · have g := H.ge
    exact (Yz w p sg n L pa dn H.vk.dsk x).mono fun e w' ⟨he, G, HD2⟩ => ⟨he, G, .inr ⟨h0, U, vp, lp, mb, vq, mp, dn, dq, M, ao, cap, R, C, h1, h2, H.vk.power G HD2, H.rel, H.sub, H.vd.keepP H.vk.dsk (G.mono (by simp)), H.its, ⟨g.1, g.2.1, g.2.2.1, g.2.2.2.1, g.2.2.2.2.1, g.2.2.2.2.2.1, Nat.le_trans g.2.2.2.2.2.2 G.size⟩, H.d⟩⟩
theorem Two.powB (H : Two B w p sg rp ro rc n L pa pb h dw Lx c er m va vb) {pw2 dq : Int} (HQ : QK w rp B ro rc n L pb dq) (hd : 0 ≤ dq ∧ dq ≤ 20 * m) (St : Stored w w1 rp (.cells (c47 ⟨ro, n * 64, rc⟩ pw2 dq) 47 (0, 0))) : Two B w1 p sg rp ro rc n L pa pw2 h dw Lx c er m va vb := by
  have HQ2 : QK w1 rp B ro rc n L pw2 dq := ⟨St.new, HQ.row.apart St (fun ad ha => HQ.ne ha), HQ.len, HQ.le⟩
  have G := St.gros
  have n5 := yx HQ.box (by decide)
  rcases H with ⟨h0, h1, h2, dn, _, HD, _, d⟩ | ⟨h0, U, vp, lp, mb, vq, mp, dn, _, M, ao, cap, R, C, h1, h2, H⟩
  · exact .inl ⟨h0, h1, h2, dn, dq, HD.st St (jB HQ.box HD.box (by decide)) (jB HQ.box HD.sec (by decide)), HQ2, by omega, by omega, by omega, by omega⟩
  · have g := H.ge
    have d := H.d
    refine .inr ⟨h0, U, vp, lp, mb, vq, mp, dn, dq, M, ao, cap, R, C, h1, h2, H.vk.gros G fun k hk => ?_, H.rel, H.sub, ⟨G.has H.vd.box (by simpa using jB H.vd.box HQ.box (by decide)), H.vd.log.gros G (by simpa using jB H.vd.log.box HQ.box (by decide)), HQ2, H.vd.row.gros G fun k hk hm => ?_, H.vd.byt.gros G n5, H.vd.n0, H.vd.lt⟩, H.its, ⟨g.1, g.2.1, g.2.2.1, g.2.2.2.1, g.2.2.2.2.1, g.2.2.2.2.2.1, Nat.le_trans g.2.2.2.2.2.2 G.size⟩, by omega, by omega, by omega, by omega⟩
    · rw [List.mem_singleton.1 hk]
      exact ⟨H.vk.nin HQ.box (by decide), H.vk.nrow HQ.box (by decide)⟩
    · obtain ⟨cur, hc, _⟩ := H.vd.row.blkt hk
      exact jB hc HQ.box (by decide) (List.mem_singleton.1 hm)
theorem YP {da db : Int} {Lq : List Nat} {pq dq : Int} (hA : OpnA (p :: sg :: rp :: blk ro) w0 w1 p sg n L pw da h c Lx er va) (HQ : QK w1 rp B ro rc n Lq pq dq) (G : GroS (rp :: blk ro) w1 w2) (hB : OpnB w1 w2 rp B ro rc n L pw db h c Lx er vb) (hs : B ≤ w0.heap.size) (hs2 : w0.heap.size ≤ w1.heap.size) (hd : 0 ≤ da ∧ da ≤ 20 * m ∧ 0 ≤ db ∧ db ≤ 20 * m) : Two B w2 p sg rp ro rc n L pw pw h false Lx c er m va vb := by
  rcases hA with ⟨h0, h1, HD⟩ | ⟨h0, vp, lp, mb, M, h1, HV, hM, v1, v2, v3⟩ <;> rcases hB with ⟨k0, k1, HQ2⟩ | ⟨k0, vq, mp, ao, cap, R, k1, HVD, hR, u1, u2⟩
  · exact .inl ⟨h0, h1, k1, da, db, HD.keepQ HQ G, HQ2, hd⟩
  · exact absurd k0 h0
  · exact absurd h0 k0
  · exact .inr ⟨h0, _, vp, lp, mb, vq, mp, da, db, M, ao, cap, R, w1.heap.size, h1, k1, HV.keepQ HQ G (fun k hk => by simp [hk]), hM, fun k hk => by simp [hk], HVD, hR, ⟨by omega, by omega, by omega, by omega, by omega, by omega, G.size⟩, hd⟩
end
open Go.ChangeShapes Go.WideShapes Go.ChangeAt Go.RowKit
theorem cellsOp : Tryz.prog.cellsOf 44 = 36 := by kernel_rfl
theorem cells3o : Tryz.prog.cellsOf 3 = 1 := by kernel_rfl
theorem cutOp (l : List Value) (h : l.length = 36) : l = (l.drop 0).take 1 ++ ((l.drop 1).take 1 ++ (l.drop 2).take 34) := by
  rw [List.drop_zero]
  have e1 : (l.drop 2).take 34 = l.drop 2 := List.take_of_length_le (by rw [List.length_drop]; omega)
  have e2 : (l.drop 1).take 1 ++ l.drop 2 = l.drop 1 := by rw [show 2 = 1 + 1 from rfl, ← List.drop_drop, List.take_append_drop]
  rw [e1, e2, List.take_append_drop]
section
variable {H : Type} {enc : TypeId × Value → H} {w : World} {base : Nat} {spare : Nat → Bool} {held : Bool}
theorem Qg {fuel : Nat} {l : List Value} {x : DataW H × List MemPlace} (h : DataW.trod enc Tryz.prog w base spare held fuel 44 l = some x) : ∃ p : OpQ, (p.ok ∧ NC w .u8 p.x.ao p.x.cap p.x.val) ∧ l = opL p ∧ ∀ m, (∀ y ∈ x.1.weights Tryz.prog 44, y ≤ m) → p.x.val.length ≤ m := by
  obtain ⟨xs, n, rfl, hx, hl, hxl, hf⟩ := DataW.trod_struct underlying44 h
  have hxl2 : xs.length = 3 := hxl
  have h0 : DataW.trod enc Tryz.prog w base spare held n 3 ((l.drop 0).take (Tryz.prog.cellsOf 3)) = xs[0]? := hf 0 _ rfl
  have h1 : DataW.trod enc Tryz.prog w base spare held n 3 ((l.drop 1).take (Tryz.prog.cellsOf 3)) = xs[1]? := hf 1 _ rfl
  have h2 : DataW.trod enc Tryz.prog w base spare held n 42 ((l.drop 2).take (Tryz.prog.cellsOf 42)) = xs[2]? := hf 2 _ rfl
  obtain ⟨y0, y1, y2, rfl⟩ : ∃ a b c, xs = [a, b, c] := by
    match xs, hxl2 with
    | [a, b, c], _ => exact ⟨a, b, c, rfl⟩
  rw [cells3o] at h0 h1
  rw [cellsIt] at h2
  rw [cellsOp] at hl
  obtain ⟨k0, e0, _, _⟩ := DataW.trod_int underlying3 (show _ = some y0 from h0)
  obtain ⟨k1, e1, _, wf1⟩ := DataW.trod_int underlying3 (show _ = some y1 from h1)
  obtain ⟨p, hp, e2, hm2⟩ := Qn (show _ = some y2 from h2)
  refine ⟨⟨k0, k1, p⟩, ⟨⟨hp.1, I64.of wf1⟩, hp.2⟩, ?_, fun m hm => hm2 m fun y hy => hm y ?_⟩
  · rw [cutOp l hl, e0, e1, e2]
    rfl
  · have hd2 : x.1 = .agg [y0.1, y1.1, y2.1] := congrArg Prod.fst hx
    rw [hd2, DataW.weights, underlying44]
    exact DataW.weights_mem_each (j := 2) (t := 42) (d := y2.1) rfl rfl _ hy
set_option maxRecDepth 100000 in
theorem jdl {r : Reach} {b0 : Nat} {v : Value} {d : DataW H} {ps : List MemPlace} (hval : Value.okWide Tryz.prog w r b0 22 v) (hd : DataW.Trod enc Tryz.prog w base spare held 22 v d ps) : ∃ ao cap l, v = .slice ao (List.length l) cap ∧ RK kO w ao cap l ∧ (∀ o ∈ l, NC w .u8 o.x.ao o.x.cap o.x.val) ∧ ∀ m, (∀ y ∈ d.weights Tryz.prog 22, y ≤ m) → ∀ o ∈ l, o.x.val.length ≤ m := by
  obtain ⟨a0, len0, cap0, rfl⟩ := okWide_slice underlying22 hval
  obtain ⟨fuel, hf⟩ := hd
  rcases DataW.trod_slice underlying22 hf with ⟨h0, _⟩ | ⟨a, len, cap, elems, rest, n, _, h0, hx, hb, hl, hm, hlen, hel, _, _⟩
  · exact ⟨none, 0, [], by simpa [Value.cells] using h0, RK.nil w, fun _ h => by (cases h), fun _ _ _ h => by (cases h)⟩
  · rw [cellsOp] at hel
    have key : ∀ i, ∃ q : OpQ, i < len → (q.ok ∧ NC w .u8 q.x.ao q.x.cap q.x.val) ∧ w.cells? base (a.add (i * 36)) 36 = some (opL q) ∧ ∃ y, y ∈ elems ∧ ∀ m, (∀ z ∈ y.1.weights Tryz.prog 44, z ≤ m) → q.x.val.length ≤ m := fun i => by
      by_cases hi : i < len
      · have h1 := hel i hi
        rw [List.getElem?_eq_getElem (by omega)] at h1
        cases hcc : w.cells? base (a.add (i * 36)) 36 with
        | none => rw [hcc] at h1; cases h1
        | some lst =>
          rw [hcc] at h1
          obtain ⟨q, hq, hh, hw⟩ := Qg (show _ = some elems[i] from h1)
          exact ⟨q, fun _ => ⟨hq, by rw [hh], elems[i], List.getElem_mem _, hw⟩⟩
      · exact ⟨zO, fun h => absurd h hi⟩
    obtain ⟨f, hfun⟩ := Classical.axiomOfChoice key
    have hlen' : ((List.range len).map f).length = len := by simp
    have hmem : ∀ o ∈ (List.range len).map f, ∃ i, i < len ∧ f i = o := fun o ho => by
      obtain ⟨i, hi, rfl⟩ := List.mem_map.1 ho
      exact ⟨i, List.mem_range.1 hi, rfl⟩
    refine ⟨some a, cap, (List.range len).map f, by rw [hlen']; simpa [Value.cells] using h0, ⟨⟨yn Jy _, by rw [hlen']; exact hl, fun h => (by cases h), fun ad ha j u hu => ?_, fun u hu => ?_⟩, fun o ho => ?_⟩, fun o ho => ?_, fun m hw o ho => ?_⟩
    · cases ha
      have hj := (List.getElem?_eq_some_iff.1 hu).1
      rw [show kO.E = opL from rfl, yn Jy, hlen'] at hj
      have hq : j / 36 < len := by omega
      have hr : j % 36 < 36 := Nat.mod_lt _ (by decide)
      have ej : j / 36 * 36 + j % 36 = j := by omega
      have h2 := JG Jy zO ((List.range len).map f) (j / 36) (by rw [hlen']; exact hq) (j % 36) hr
      rw [ej] at h2
      have h3 : ((List.range len).map f).flatMap opL = ((List.range len).map f).flatMap kO.E := rfl
      rw [h3, hu] at h2
      have hg : ((List.range len).map f).getD (j / 36) zO = f (j / 36) := by
        rw [List.getD_eq_getElem?_getD, List.getElem?_map, List.getElem?_range hq]
        rfl
      rw [hg] at h2
      have hcc := (World.cells?_some (hfun (j / 36) hq).2.1).2.2 (j % 36) hr
      rw [JK, ej] at hcc
      rw [hcc]
      exact h2.symm
    · obtain ⟨o, _, ho⟩ := List.mem_flatMap.1 hu
      exact Vd o u ho
    · obtain ⟨i, hi, rfl⟩ := hmem o ho
      exact (hfun i hi).1.1
    · obtain ⟨i, hi, rfl⟩ := hmem o ho
      exact (hfun i hi).1.2
    · obtain ⟨i, hi, rfl⟩ := hmem o ho
      obtain ⟨y, hy, h5⟩ := (hfun i hi).2.2
      refine h5 m fun z hz => hw z ?_
      have hd2 : d = .slice (elems.map (·.1)) (rest.map (·.1)) := congrArg Prod.fst hx
      rw [hd2, DataW.weights, underlying22]
      refine List.mem_cons_of_mem _ (List.mem_append_left _ ?_)
      exact Za _ y.1 (List.mem_map.2 ⟨y, hy, rfl⟩) z hz
end
end Go.Proofs.YtgfnjekpafempaaGreat
