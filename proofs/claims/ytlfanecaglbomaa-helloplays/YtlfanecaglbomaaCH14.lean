/- Rows of frames compared; frames that fit; the program's and the document's end at once. -/
import Derived.Test.YtlfanecaglbomaaCH13
namespace Go.Proofs.Ytlfanecaglbomaa
set_option maxRecDepth 100000
set_option maxHeartbeats 4000000
open Go.RowKit
theorem YV {P : Program} {c1 c2 : Code} {Q : Exit → Act → World → Prop} {a : Act} {w : World} (R : Act → World → Prop) (h2 : ∀ a w, R a w → c2.wp P Q a w) (h1 : (∀ a w, R a w → c2.wp P Q a w) → c1.wp P (Exit.then (c2.wp P Q) Q) a w) : (Code.seq c1 c2).wp P Q a w := wp_seq (h1 h2)
theorem uh : ∀ (os : List OpH) (j : Nat) (o : OpH), os[j]? = some o → (((os.flatMap opH).drop (j * 99)).take 99).toArray = opA o
  | [], _, _, h => by cases h
  | x :: os, 0, o, h => by
    cases h
    rw [List.flatMap_cons, Nat.zero_mul, List.drop_zero, List.take_left' (yy x)]
    rfl
  | x :: os, j + 1, o, h => by
    have := uh os j o (by simpa using h)
    rw [List.flatMap_cons, show (j + 1) * 99 = 99 + j * 99 by omega, ← List.drop_drop, List.drop_left' (yy x)]
    exact this
theorem ld_opH {w : World} {o : Oper} {A : Act} (x : Operand) (ho : o.op = .load 48 x) (ad : Addr) (j : Nat) (hx : A.eval x = .pointer (some (ad.add (j * 99)))) {cap : Nat} {os : List OpH} (h : XC w 99 (some ad) cap os.length (os.flatMap opH)) (q : OpH) (hq : os[j]? = some q) :
    (execOp A.eval o).run Try.prog w = .ok (.value (.agg (opA q))) w :=
  yN oT _ Try.underlying48 rfl x ho ad j hx w h ((List.getElem?_eq_some_iff.1 hq).1) _ (uh os j q hq)
theorem yI (w : World) (B1 : Nat) (ao : Option Addr) (cap : Nat) (fs : List (PF × Fr)) (H1 : LF w B1 ao cap fs) (B2 : Nat) (ao2 : Option Addr) (cap2 : Nat) (gs : List (PF × Fr)) (H2 : LF w B2 ao2 cap2 gs) (hm : fs.map (·.1) = gs.map (·.1)) (hl : fs.length ≤ 1000000) : Calls Try.prog 9 #[.slice ao fs.length cap, .slice ao2 gs.length cap2] w fun e w' => e = .returned (vTr) ∧ Gro w w' := by
  refine jp Try.func9 rfl Try.ntmps9 [.slice ao fs.length cap, .slice ao2 gs.length cap2] ?_
  intro U h; simp only [List.length_cons, List.length_nil, List.cons_append, List.nil_append, Nat.reduceAdd, Nat.reduceSub, List.reduceReplicate] at h; subst h
  have GG := Gro.refl w
  have HL1 := H1
  have HL2 := H2
  have hlen : fs.length = gs.length := by simpa using congrArg List.length hm
  refine wp_seq (wp_region_lit (mv 4 (vFa) (wpList_nil (jc (wp_seq (wp_seq (wp_region_lit (mv 6 (.slice ao fs.length cap) (sv 7 (iK ((fs.length : Nat) : Int)) (jM Try.underlying50 _ rfl _ _ _ rfl _) (mv 8 (.slice ao2 gs.length cap2) (sv 9 (iK ((gs.length : Nat) : Int)) (jM Try.underlying50 _ rfl _ _ _ rfl _) ?_)))))))))))
  refine sv 10 (vFa) (jP 3 .i64 _ _ _ rfl Try.underlying3 ((fs.length : Nat) : Int) ((gs.length : Nat) : Int) rfl rfl false (decide_eq_true (by omega)) _) (wpList_nil (jc (wp_cond_false rfl (wp_skip (jc (wp_seq (wp_seq (wp_region_lit (mv 11 (.slice ao fs.length cap) (sv 12 (iK ((fs.length : Nat) : Int)) (jM Try.underlying50 _ rfl _ _ _ rfl _) (mv 13 (iK 0) ?_)))))))))))
  refine nr ?_; intro U h; simp only [z0, z1] at h; subst h
  refine wpList_nil (jc (wp_block ?_))
  refine zB (fun mz az wv => ∃ (j : Nat) (us1 : Nat → Value), mz = fs.length - j ∧ az = ⟨[.slice ao fs.length cap, .slice ao2 gs.length cap2, undef, undef, us1 0, us1 1, .slice ao fs.length cap, iK ((fs.length : Nat) : Int), .slice ao2 gs.length cap2, iK ((gs.length : Nat) : Int), vFa, .slice ao fs.length cap, iK ((fs.length : Nat) : Int), iK ((j : Nat) : Int), us1 2, us1 3, us1 4, us1 5, us1 6, us1 7, us1 8, us1 9, us1 10, us1 11, us1 12, us1 13, us1 14].toArray, []⟩ ∧ j ≤ fs.length ∧ Gro w wv ∧ LF wv B1 ao cap fs ∧ LF wv B2 ao2 cap2 gs) ?_ _ ⟨0, usB [4, 5, 14, 15, 16, 17, 18, 19, 20, 21, 22, 23, 24, 25, 26] rfl rfl ⟨Nat.zero_le _, GG, HL1, HL2⟩⟩
  clear GG HL1 HL2
  rintro mz az wv ⟨j, us1, rfl, rfl, hj, GG, HL1, HL2⟩
  refine wp_seq (wp_region_lit ?_)
  obtain ⟨p1, hp1⟩ : ∃ p, decide (((j : Nat) : Int) < ((fs.length : Nat) : Int)) = p := ⟨_, rfl⟩
  refine sv 14 (.bool p1) (jQ 3 _ _ _ rfl ((j : Nat) : Int) ((fs.length : Nat) : Int) rfl rfl p1 hp1 _) ?_
  refine nr ?_; intro U h; simp only [z0, z1] at h; subst h
  cases p1
  refine wpList_nil (jc (wp_seq (wp_cond_false rfl (wp_exit (zi (zi (yl (jc (wp_seq (wp_region_lit (mv 4 (vTr) (wpList_nil (jc (wp_ret ?_))))))))))))))
  refine bodyPost_ret (results_tmp Try.results9 _ _ _) rfl ?_
  exact ⟨rfl, GG⟩
  have hjn : j < fs.length := by have := of_decide_eq_true hp1; omega
  obtain ⟨y1, hy1⟩ : ∃ y, fs[j]? = some y := ⟨_, List.getElem?_eq_getElem hjn⟩
  obtain ⟨y2, hy2⟩ : ∃ y, gs[j]? = some y := ⟨_, List.getElem?_eq_getElem (by omega)⟩
  obtain ⟨ad1, ha1⟩ := HL1.some (by omega)
  obtain ⟨ad2, ha2⟩ := HL2.some (by omega)
  have hL1 : LF wv B1 (some ad1) cap fs := by rw [← ha1]; exact HL1
  have hL2 : LF wv B2 (some ad2) cap2 gs := by rw [← ha2]; exact HL2
  have e12 : y1.1 = y2.1 := by have h := congrArg (fun l => l[j]?) hm; simpa [hy1, hy2] using h
  refine wpList_nil (jc (wp_seq (wp_cond_true rfl (wp_skip (jc (wp_seq (wp_block (wp_seq (wp_region_lit (mv 15 (iK ((j : Nat) : Int)) (mv 5 (iK ((j : Nat) : Int)) (wpList_nil (jc (wp_seq ?_))))))))))))))
  refine jk (A := ?Ax1) 8 [(0, 16), (1, 17), (2, 18), (3, 19), (4, 20), (5, 21), (6, 22), (7, 23)] [.val (.slice ao fs.length cap), .val (iK ((j : Nat) : Int)), .val (.pointer (some (ad1.add (j * 95)))), .val (.agg (frA y1.2)), .val (.slice ao2 gs.length cap2), .val (iK ((j : Nat) : Int)), .val (.pointer (some (ad2.add (j * 95)))), .val (.agg (frA y2.2))] follows (by kernel_rfl) rfl ?hAx1 (ja ?o0x1 (ja ?o1x1 (ja ?o2x1 (ja ?o3x1 (ja ?o4x1 (ja ?o5x1 (ja ?o6x1 (ja ?o7x1 jw)))))))) ?restx1
  case hAx1 =>
    intro ptrs
    simp only [full, foldSlots, filledE, postE, List.foldl_cons, List.foldl_nil, List.getD_cons_zero, List.getD_cons_succ, jr, List.set_cons_zero, List.set_cons_succ]
    exact rfl
  case o0x1 => exact fun _ _ _ _ => jg (v := .slice ao fs.length cap) _ rfl rfl rfl
  case o1x1 => exact fun _ _ _ _ => jg (v := iK ((j : Nat) : Int)) _ rfl rfl rfl
  case o2x1 => exact fun _ _ hw _ => jb (v := .pointer (some (ad1.add (j * 95)))) rfl (ye _ _ rfl ad1 fs.length cap j (by exact congrArg (fun a => Value.slice a fs.length cap) ha1) rfl (by omega) _)
  case o3x1 => exact fun _ _ hw _ => jb (v := .agg (frA y1.2)) rfl (yO _ rfl ad1 j rfl _ (hL1.gro ((Gro.refl _).drew.trans hw)) y1 hy1)
  case o4x1 => exact fun _ _ _ _ => jg (v := .slice ao2 gs.length cap2) _ rfl rfl rfl
  case o5x1 => exact fun _ _ _ _ => jg (v := iK ((j : Nat) : Int)) _ rfl rfl rfl
  case o6x1 => exact fun _ _ hw _ => jb (v := .pointer (some (ad2.add (j * 95)))) rfl (ye _ _ rfl ad2 gs.length cap2 j (by exact congrArg (fun a => Value.slice a gs.length cap2) ha2) rfl (by omega) _)
  case o7x1 => exact fun _ _ hw _ => jb (v := .agg (frA y2.2)) rfl (yO _ rfl ad2 j rfl _ (hL2.gro ((Gro.refl _).drew.trans hw)) y2 hy2)
  intro ptrs w1 GD hxE
  simp only [List.drop_succ_cons, List.drop_zero]
  replace HL1 := HL1.gro ((Gro.refl _).drew.trans GD)
  replace HL2 := HL2.gro ((Gro.refl _).drew.trans GD)
  replace GG := GG.drew.trans GD
  clear GD
  refine jz 24 rfl rfl _ 18 Try.call18 rfl rfl _ rfl [.agg (frA y1.2), .agg (frA y2.2)] rfl (Zb _ y1.1 y1.2 y2.2 (HL1.fv _ (List.mem_of_getElem? hy1)) (e12 ▸ HL2.fv _ (List.mem_of_getElem? hy2))) ?_
  intro w2 G
  replace HL1 := HL1.gro G
  replace HL2 := HL2.gro G
  replace GG := GG.trans G
  clear G
  refine sv 25 (vFa) (jE _ _ rfl true rfl) (wpList_nil (jc (wp_cond_false rfl (wp_skip (zh (jc (wp_region_lit (sv 26 (iK ((j + 1 : Nat) : Int)) (jZ 3 _ _ _ rfl ((j : Nat) : Int) 1 ((j + 1 : Nat) : Int) rfl rfl (by omega) (by omega) (by omega) _) (mv 13 (iK ((j + 1 : Nat) : Int)) (wpList_nil (jc ?_)))))))))))
  exact ⟨_, (by omega : fs.length - (j + 1) < fs.length - j), j + 1, usB [4, 5, 14, 15, 16, 17, 18, 19, 20, 21, 22, 23, 24, 25, 26] rfl rfl ⟨hjn, GG, HL1, HL2⟩⟩
def fitF (o : OpH) (x : ES) : Fr :=
  if o.kd = 4 then o.f
  else if o.kd = 5 then
    if o.f.kind = 3 then ⟨3, zF, 0, false, zF, zF, o.f.n, x.pi, x.pn, x.mi, x.mn, Sl.nil, Sl.nil, zF, 0, zF, Sl.nil, 0, 0, Sl.nil⟩
    else ⟨2, zF, 0, false, zF, zF, o.f.n, x.pi, x.pn, x.mi, x.mn, Sl.nil, Sl.nil, zF, 0, zF, Sl.nil, 0, 0, o.f.tx⟩
  else ⟨1, zF, 0, false, o.f.a, zF, 0, o.f.fi, o.f.fn, x.mi, x.mn, Sl.nil, Sl.nil, zF, 0, zF, Sl.nil, 0, 0, Sl.nil⟩
def fitD (o : OpH) : FD :=
  if o.kd = 4 then o.d else if o.kd = 5 then (if o.f.kind = 3 then ⟨[], [], [], []⟩ else ⟨[], [], [], o.d.tx⟩) else ⟨[], [], [], []⟩
theorem YB (w : World) (r : Nat) (id : Nat → Nat) (x : ES) (s : Sl) (k c : Int) (o : OpH) (H : w.heap[r]? = some (.cells (c34 id x.up x.op x.mi x.mn x.pi x.pn x.oth s k c) 34 (0, 0))) (h4 : o.kd = 4) : Calls Try.prog 19 #[.agg (c48 o.kd o.ni o.nn ⟨o.ao, o.l.length, o.cap⟩ o.f.kind o.f.pw o.f.pn o.f.toA o.f.a o.f.b o.f.n o.f.fi o.f.fn o.f.ti o.f.tn o.f.tr o.f.ids o.f.key o.f.vn o.f.vw o.f.val o.f.op o.f.ttl o.f.tx), pK r 0] w fun e w' => e = .returned (.agg (frA (o.f))) ∧ Gro w w' := by
  refine jp Try.func19 rfl Try.ntmps19 [.agg (c48 o.kd o.ni o.nn ⟨o.ao, o.l.length, o.cap⟩ o.f.kind o.f.pw o.f.pn o.f.toA o.f.a o.f.b o.f.n o.f.fi o.f.fn o.f.ti o.f.tn o.f.tr o.f.ids o.f.key o.f.vn o.f.vw o.f.val o.f.op o.f.ttl o.f.tx), pK r 0] ?_
  intro U h; simp only [List.length_cons, List.length_nil, List.cons_append, List.nil_append, Nat.reduceAdd, Nat.reduceSub, List.reduceReplicate] at h; subst h
  have GG := Gro.refl w
  have kr := H
  refine wp_seq (wp_region_lit ?_)
  refine jB 2 rfl rfl 48 _ rfl _ rfl (c48 o.kd o.ni o.nn ⟨o.ao, o.l.length, o.cap⟩ o.f.kind o.f.pw o.f.pn o.f.toA o.f.a o.f.b o.f.n o.f.fi o.f.fn o.f.ti o.f.tn o.f.tr o.f.ids o.f.key o.f.vn o.f.vw o.f.val o.f.op o.f.ttl o.f.tx) rfl ?_
  intro w1 g1 G eg1 kg1
  have bg1 := jm GG eg1
  have drg1 := je kr eg1
  replace kr := G.has kr
  replace GG := GG.trans G
  clear G eg1
  refine jq 4 rfl rfl 46 rfl _ zv46 _ rfl ?_
  intro w2 g2 G eg2 kg2
  have bg2 := jm GG eg2
  have drg2 := je kr eg2
  have dg1g2 := je kg1 eg2
  replace kr := G.has kr
  replace kg1 := G.has kg1
  replace GG := GG.trans G
  clear G eg2
  refine wpList_nil (jc (wp_seq (wp_seq (wp_region_lit (sv 5 (pK g1 0) (jd 48 _ 0 rfl _ _ rfl _) (sv 6 (iK o.kd) (jh 3 _ rfl g1 0 rfl 48 _ kg1 (na3 _) _ rfl) (wpList_nil (jc (wp_block (wp_seq (wp_region_lit (sv 8 (vTr) (jo 3 .i64 _ _ _ rfl Try.underlying3 o.kd 4 rfl rfl true (decide_eq_true h4) _) (mv 7 (vTr) (wpList_nil (jc ?_)))))))))))))))
  refine wp_cond_true rfl (wp_seq (wp_region_lit (sv 9 (pK g1 4) (jd 48 _ 3 rfl _ _ rfl _) (sv 10 (.agg (frA o.f)) (jf 46 _ rfl g1 4 95 rfl 48 _ kg1 _ Try.underlying46 rfl si46 _) ?_))))
  refine jn rfl rfl 46 _ _ rfl g2 0 rfl (.agg (frA o.f)) rfl 46 _ kg2 (frA o.f) rfl (by kernel_rfl) (nlB rfl) (by kernel_rfl) (frA o.f) (by kernel_rfl) ?_
  intro w4 St
  replace kr := St.has (by omega) kr
  replace kg1 := St.has (by omega) kg1
  replace GG := GG.store St bg2
  replace kg2 := St.new
  clear St
  refine wpList_nil (jc (wp_ret (jV (jC ?_))))
  refine bodyPost_ret (results_cell_row Try.results19 _ _ g2 46 _ (0, 0) _ rfl kg2 Try.underlying46 rfl (by kernel_rfl)) rfl ?_
  exact ⟨rfl, GG⟩
theorem ZE (w : World) (r : Nat) (id : Nat → Nat) (x : ES) (s : Sl) (k c : Int) (o : OpH) (H : w.heap[r]? = some (.cells (c34 id x.up x.op x.mi x.mn x.pi x.pn x.oth s k c) 34 (0, 0))) (h4 : ¬ o.kd = 4) (h5 : o.kd = 5) (h3 : o.f.kind = 3) : Calls Try.prog 19 #[.agg (c48 o.kd o.ni o.nn ⟨o.ao, o.l.length, o.cap⟩ o.f.kind o.f.pw o.f.pn o.f.toA o.f.a o.f.b o.f.n o.f.fi o.f.fn o.f.ti o.f.tn o.f.tr o.f.ids o.f.key o.f.vn o.f.vw o.f.val o.f.op o.f.ttl o.f.tx), pK r 0] w fun e w' => e = .returned (.agg (frA ((⟨3, zF, 0, false, zF, zF, o.f.n, x.pi, x.pn, x.mi, x.mn, Sl.nil, Sl.nil, zF, 0, zF, Sl.nil, 0, 0, Sl.nil⟩ : Fr)))) ∧ Gro w w' := by
  refine jp Try.func19 rfl Try.ntmps19 [.agg (c48 o.kd o.ni o.nn ⟨o.ao, o.l.length, o.cap⟩ o.f.kind o.f.pw o.f.pn o.f.toA o.f.a o.f.b o.f.n o.f.fi o.f.fn o.f.ti o.f.tn o.f.tr o.f.ids o.f.key o.f.vn o.f.vw o.f.val o.f.op o.f.ttl o.f.tx), pK r 0] ?_
  intro U h; simp only [List.length_cons, List.length_nil, List.cons_append, List.nil_append, Nat.reduceAdd, Nat.reduceSub, List.reduceReplicate] at h; subst h
  have GG := Gro.refl w
  have kr := H
  refine wp_seq (wp_region_lit ?_)
  refine jB 2 rfl rfl 48 _ rfl _ rfl (c48 o.kd o.ni o.nn ⟨o.ao, o.l.length, o.cap⟩ o.f.kind o.f.pw o.f.pn o.f.toA o.f.a o.f.b o.f.n o.f.fi o.f.fn o.f.ti o.f.tn o.f.tr o.f.ids o.f.key o.f.vn o.f.vw o.f.val o.f.op o.f.ttl o.f.tx) rfl ?_
  intro w1 g1 G eg1 kg1
  have bg1 := jm GG eg1
  have drg1 := je kr eg1
  replace kr := G.has kr
  replace GG := GG.trans G
  clear G eg1
  refine jq 4 rfl rfl 46 rfl _ zv46 _ rfl ?_
  intro w2 g2 G eg2 kg2
  have bg2 := jm GG eg2
  have drg2 := je kr eg2
  have dg1g2 := je kg1 eg2
  replace kr := G.has kr
  replace kg1 := G.has kg1
  replace GG := GG.trans G
  clear G eg2
  refine wpList_nil (jc (wp_seq (wp_seq (wp_region_lit (sv 5 (pK g1 0) (jd 48 _ 0 rfl _ _ rfl _) (sv 6 (iK o.kd) (jh 3 _ rfl g1 0 rfl 48 _ kg1 (na3 _) _ rfl) (wpList_nil (jc (wp_block (wp_seq (wp_region_lit (sv 8 (vFa) (jo 3 .i64 _ _ _ rfl Try.underlying3 o.kd 4 rfl rfl false (decide_eq_false h4) _) (mv 7 (vFa) (wpList_nil (jc ?_)))))))))))))))
  refine wp_cond_false rfl (wp_seq (wp_region_lit (sv 12 (vTr) (jo 3 .i64 _ _ _ rfl Try.underlying3 o.kd 5 rfl rfl true (decide_eq_true h5) _) (mv 11 (vTr) (wpList_nil (jc (wp_cond_true rfl (wp_seq (wp_seq (wp_region_lit (sv 13 (pK g1 4) (jd 48 _ 3 rfl _ _ rfl _) ?_)))))))))))
  refine nr ?_; intro U h; simp only [z0, z1] at h; subst h
  refine sv 14 (pK g1 4) (jd 46 _ 0 rfl _ _ rfl _) (sv 15 (iK o.f.kind) (jh 3 _ rfl g1 4 rfl 48 _ kg1 (na3 _) _ rfl) (sv 16 (vTr) (jo 3 .i64 _ _ _ rfl Try.underlying3 o.f.kind 3 rfl rfl true (decide_eq_true h3) _) (wpList_nil (jc (wp_cond_true rfl (wp_seq ?_))))))
  refine jk (A := ?Ax2) 11 [(0, 17), (1, 18), (2, 19), (3, 20), (4, 21), (5, 22), (6, 23), (7, 24), (8, 25), (9, 26), (10, 27)] [.val (pK r 0), .val (pK r 0), .val (pK r 20), .val (.agg (c29 x.pi x.pn)), .val (pK r 0), .val (pK r 0), .val (pK r 18), .val (.agg (c29 x.mi x.mn)), .val (pK g1 4), .val (pK g1 55), .val (iK o.f.n)] follows (by kernel_rfl) rfl ?hAx2 (ja ?o0x2 (ja ?o1x2 (ja ?o2x2 (ja ?o3x2 (ja ?o4x2 (ja ?o5x2 (ja ?o6x2 (ja ?o7x2 (ja ?o8x2 (ja ?o9x2 (ja ?o10x2 jw))))))))))) ?restx2
  case hAx2 =>
    intro ptrs
    simp only [full, foldSlots, filledE, postE, List.foldl_cons, List.foldl_nil, List.getD_cons_zero, List.getD_cons_succ, jr, List.set_cons_zero, List.set_cons_succ]
    exact rfl
  case o0x2 => exact fun _ _ _ _ => jg (v := pK r 0) _ rfl rfl rfl
  case o1x2 => exact fun _ _ hw _ => jb (v := pK r 0) rfl (jj _ rfl _ rfl)
  case o2x2 => exact fun _ _ hw _ => jb (v := pK r 20) rfl (jd 34 _ 4 rfl _ _ rfl _)
  case o3x2 => exact fun _ _ hw _ => jb (v := .agg (c29 x.pi x.pn)) rfl (jf 29 _ rfl r 20 2 rfl 34 _ (hw.has kr) _ Try.underlying29 rfl si29 _)
  case o4x2 => exact fun _ _ _ _ => jg (v := pK r 0) _ rfl rfl rfl
  case o5x2 => exact fun _ _ hw _ => jb (v := pK r 0) rfl (jj _ rfl _ rfl)
  case o6x2 => exact fun _ _ hw _ => jb (v := pK r 18) rfl (jd 34 _ 3 rfl _ _ rfl _)
  case o7x2 => exact fun _ _ hw _ => jb (v := .agg (c29 x.mi x.mn)) rfl (jf 29 _ rfl r 18 2 rfl 34 _ (hw.has kr) _ Try.underlying29 rfl si29 _)
  case o8x2 => exact fun _ _ hw _ => jb (v := pK g1 4) rfl (jd 48 _ 3 rfl _ _ rfl _)
  case o9x2 => exact fun _ _ hw _ => jb (v := pK g1 55) rfl (jd 46 _ 5 rfl _ _ rfl _)
  case o10x2 => exact fun _ _ hw _ => jb (v := iK o.f.n) rfl (jh 2 _ rfl g1 55 rfl 48 _ (hw.has kg1) (na2 _) _ rfl)
  intro ptrs w3 GD hxE
  simp only [List.drop_succ_cons, List.drop_zero]
  replace kr := GD.has kr
  replace kg1 := GD.has kg1
  replace kg2 := GD.has kg2
  replace GG := GG.drew.trans GD
  clear GD
  refine sv 28 (.agg (c46 3 zF 0 false zF zF o.f.n x.pi x.pn x.mi x.mn Sl.nil Sl.nil zF 0 zF Sl.nil 0 0 Sl.nil)) (jy 46 _ rfl [(0, iK 3), (6, .agg (c29 x.pi x.pn)), (7, .agg (c29 x.mi x.mn)), (5, iK o.f.n)] rfl _ (by kernel_rfl)) ?_
  refine jn rfl rfl 46 _ _ rfl g2 0 rfl (.agg (c46 3 zF 0 false zF zF o.f.n x.pi x.pn x.mi x.mn Sl.nil Sl.nil zF 0 zF Sl.nil 0 0 Sl.nil)) rfl 46 _ kg2 (c46 3 zF 0 false zF zF o.f.n x.pi x.pn x.mi x.mn Sl.nil Sl.nil zF 0 zF Sl.nil 0 0 Sl.nil) rfl (by kernel_rfl) (nlB rfl) (by kernel_rfl) (c46 3 zF 0 false zF zF o.f.n x.pi x.pn x.mi x.mn Sl.nil Sl.nil zF 0 zF Sl.nil 0 0 Sl.nil) (by kernel_rfl) ?_
  intro w5 St
  replace kr := St.has (by omega) kr
  replace kg1 := St.has (by omega) kg1
  replace GG := GG.store St bg2
  replace kg2 := St.new
  clear St
  refine wpList_nil (jc (wp_ret (jC (jV (jC ?_)))))
  refine bodyPost_ret (results_cell_row Try.results19 _ _ g2 46 _ (0, 0) _ rfl kg2 Try.underlying46 rfl (by kernel_rfl)) rfl ?_
  exact ⟨rfl, GG⟩
theorem fit_two (w : World) (r : Nat) (id : Nat → Nat) (x : ES) (s : Sl) (k c : Int) (o : OpH) (H : w.heap[r]? = some (.cells (c34 id x.up x.op x.mi x.mn x.pi x.pn x.oth s k c) 34 (0, 0))) (h4 : ¬ o.kd = 4) (h5 : o.kd = 5) (h3 : ¬ o.f.kind = 3) : Calls Try.prog 19 #[.agg (c48 o.kd o.ni o.nn ⟨o.ao, o.l.length, o.cap⟩ o.f.kind o.f.pw o.f.pn o.f.toA o.f.a o.f.b o.f.n o.f.fi o.f.fn o.f.ti o.f.tn o.f.tr o.f.ids o.f.key o.f.vn o.f.vw o.f.val o.f.op o.f.ttl o.f.tx), pK r 0] w fun e w' => e = .returned (.agg (frA ((⟨2, zF, 0, false, zF, zF, o.f.n, x.pi, x.pn, x.mi, x.mn, Sl.nil, Sl.nil, zF, 0, zF, Sl.nil, 0, 0, o.f.tx⟩ : Fr)))) ∧ Gro w w' := by
  refine jp Try.func19 rfl Try.ntmps19 [.agg (c48 o.kd o.ni o.nn ⟨o.ao, o.l.length, o.cap⟩ o.f.kind o.f.pw o.f.pn o.f.toA o.f.a o.f.b o.f.n o.f.fi o.f.fn o.f.ti o.f.tn o.f.tr o.f.ids o.f.key o.f.vn o.f.vw o.f.val o.f.op o.f.ttl o.f.tx), pK r 0] ?_
  intro U h; simp only [List.length_cons, List.length_nil, List.cons_append, List.nil_append, Nat.reduceAdd, Nat.reduceSub, List.reduceReplicate] at h; subst h
  have GG := Gro.refl w
  have kr := H
  refine wp_seq (wp_region_lit ?_)
  refine jB 2 rfl rfl 48 _ rfl _ rfl (c48 o.kd o.ni o.nn ⟨o.ao, o.l.length, o.cap⟩ o.f.kind o.f.pw o.f.pn o.f.toA o.f.a o.f.b o.f.n o.f.fi o.f.fn o.f.ti o.f.tn o.f.tr o.f.ids o.f.key o.f.vn o.f.vw o.f.val o.f.op o.f.ttl o.f.tx) rfl ?_
  intro w1 g1 G eg1 kg1
  have bg1 := jm GG eg1
  have drg1 := je kr eg1
  replace kr := G.has kr
  replace GG := GG.trans G
  clear G eg1
  refine jq 4 rfl rfl 46 rfl _ zv46 _ rfl ?_
  intro w2 g2 G eg2 kg2
  have bg2 := jm GG eg2
  have drg2 := je kr eg2
  have dg1g2 := je kg1 eg2
  replace kr := G.has kr
  replace kg1 := G.has kg1
  replace GG := GG.trans G
  clear G eg2
  refine wpList_nil (jc (wp_seq (wp_seq (wp_region_lit (sv 5 (pK g1 0) (jd 48 _ 0 rfl _ _ rfl _) (sv 6 (iK o.kd) (jh 3 _ rfl g1 0 rfl 48 _ kg1 (na3 _) _ rfl) (wpList_nil (jc (wp_block (wp_seq (wp_region_lit (sv 8 (vFa) (jo 3 .i64 _ _ _ rfl Try.underlying3 o.kd 4 rfl rfl false (decide_eq_false h4) _) (mv 7 (vFa) (wpList_nil (jc ?_)))))))))))))))
  refine wp_cond_false rfl (wp_seq (wp_region_lit (sv 12 (vTr) (jo 3 .i64 _ _ _ rfl Try.underlying3 o.kd 5 rfl rfl true (decide_eq_true h5) _) (mv 11 (vTr) (wpList_nil (jc (wp_cond_true rfl (wp_seq (wp_seq (wp_region_lit (sv 13 (pK g1 4) (jd 48 _ 3 rfl _ _ rfl _) ?_)))))))))))
  refine nr ?_; intro U h; simp only [z0, z1] at h; subst h
  refine sv 14 (pK g1 4) (jd 46 _ 0 rfl _ _ rfl _) (sv 15 (iK o.f.kind) (jh 3 _ rfl g1 4 rfl 48 _ kg1 (na3 _) _ rfl) (sv 16 (vFa) (jo 3 .i64 _ _ _ rfl Try.underlying3 o.f.kind 3 rfl rfl false (decide_eq_false h3) _) (wpList_nil (jc (wp_cond_false rfl (wp_skip (jc (wp_seq ?_))))))))
  refine jk (A := ?Ax3) 14 [(0, 29), (1, 30), (2, 31), (3, 32), (4, 33), (5, 34), (6, 35), (7, 36), (8, 37), (9, 38), (10, 39), (11, 40), (12, 41), (13, 42)] [.val (pK r 0), .val (pK r 0), .val (pK r 20), .val (.agg (c29 x.pi x.pn)), .val (pK r 0), .val (pK r 0), .val (pK r 18), .val (.agg (c29 x.mi x.mn)), .val (pK g1 4), .val (pK g1 55), .val (iK o.f.n), .val (pK g1 4), .val (pK g1 98), .val (.slice o.f.tx.ao o.f.tx.n o.f.tx.cap)] follows (by kernel_rfl) rfl ?hAx3 (ja ?o0x3 (ja ?o1x3 (ja ?o2x3 (ja ?o3x3 (ja ?o4x3 (ja ?o5x3 (ja ?o6x3 (ja ?o7x3 (ja ?o8x3 (ja ?o9x3 (ja ?o10x3 (ja ?o11x3 (ja ?o12x3 (ja ?o13x3 jw)))))))))))))) ?restx3
  case hAx3 =>
    intro ptrs
    simp only [full, foldSlots, filledE, postE, List.foldl_cons, List.foldl_nil, List.getD_cons_zero, List.getD_cons_succ, jr, List.set_cons_zero, List.set_cons_succ]
    exact rfl
  case o0x3 => exact fun _ _ _ _ => jg (v := pK r 0) _ rfl rfl rfl
  case o1x3 => exact fun _ _ hw _ => jb (v := pK r 0) rfl (jj _ rfl _ rfl)
  case o2x3 => exact fun _ _ hw _ => jb (v := pK r 20) rfl (jd 34 _ 4 rfl _ _ rfl _)
  case o3x3 => exact fun _ _ hw _ => jb (v := .agg (c29 x.pi x.pn)) rfl (jf 29 _ rfl r 20 2 rfl 34 _ (hw.has kr) _ Try.underlying29 rfl si29 _)
  case o4x3 => exact fun _ _ _ _ => jg (v := pK r 0) _ rfl rfl rfl
  case o5x3 => exact fun _ _ hw _ => jb (v := pK r 0) rfl (jj _ rfl _ rfl)
  case o6x3 => exact fun _ _ hw _ => jb (v := pK r 18) rfl (jd 34 _ 3 rfl _ _ rfl _)
  case o7x3 => exact fun _ _ hw _ => jb (v := .agg (c29 x.mi x.mn)) rfl (jf 29 _ rfl r 18 2 rfl 34 _ (hw.has kr) _ Try.underlying29 rfl si29 _)
  case o8x3 => exact fun _ _ hw _ => jb (v := pK g1 4) rfl (jd 48 _ 3 rfl _ _ rfl _)
  case o9x3 => exact fun _ _ hw _ => jb (v := pK g1 55) rfl (jd 46 _ 5 rfl _ _ rfl _)
  case o10x3 => exact fun _ _ hw _ => jb (v := iK o.f.n) rfl (jh 2 _ rfl g1 55 rfl 48 _ (hw.has kg1) (na2 _) _ rfl)
  case o11x3 => exact fun _ _ hw _ => jb (v := pK g1 4) rfl (jd 48 _ 3 rfl _ _ rfl _)
  case o12x3 => exact fun _ _ hw _ => jb (v := pK g1 98) rfl (jd 46 _ 13 rfl _ _ rfl _)
  case o13x3 => exact fun _ _ hw _ => jb (v := .slice o.f.tx.ao o.f.tx.n o.f.tx.cap) rfl (jh 36 _ rfl g1 98 rfl 48 _ (hw.has kg1) (na36 _) _ rfl)
  intro ptrs w3 GD hxE
  simp only [List.drop_succ_cons, List.drop_zero]
  replace kr := GD.has kr
  replace kg1 := GD.has kg1
  replace kg2 := GD.has kg2
  replace GG := GG.drew.trans GD
  clear GD
  refine sv 43 (.agg (c46 2 zF 0 false zF zF o.f.n x.pi x.pn x.mi x.mn Sl.nil Sl.nil zF 0 zF Sl.nil 0 0 o.f.tx)) (jy 46 _ rfl [(0, iK 2), (6, .agg (c29 x.pi x.pn)), (7, .agg (c29 x.mi x.mn)), (5, iK o.f.n), (13, .slice o.f.tx.ao o.f.tx.n o.f.tx.cap)] rfl _ (by kernel_rfl)) ?_
  refine jn rfl rfl 46 _ _ rfl g2 0 rfl (.agg (c46 2 zF 0 false zF zF o.f.n x.pi x.pn x.mi x.mn Sl.nil Sl.nil zF 0 zF Sl.nil 0 0 o.f.tx)) rfl 46 _ kg2 (c46 2 zF 0 false zF zF o.f.n x.pi x.pn x.mi x.mn Sl.nil Sl.nil zF 0 zF Sl.nil 0 0 o.f.tx) rfl (by kernel_rfl) (nlB rfl) (by kernel_rfl) (c46 2 zF 0 false zF zF o.f.n x.pi x.pn x.mi x.mn Sl.nil Sl.nil zF 0 zF Sl.nil 0 0 o.f.tx) (by kernel_rfl) ?_
  intro w5 St
  replace kr := St.has (by omega) kr
  replace kg1 := St.has (by omega) kg1
  replace GG := GG.store St bg2
  replace kg2 := St.new
  clear St
  refine wpList_nil (jc (wp_ret (jV (jC ?_))))
  refine bodyPost_ret (results_cell_row Try.results19 _ _ g2 46 _ (0, 0) _ rfl kg2 Try.underlying46 rfl (by kernel_rfl)) rfl ?_
  exact ⟨rfl, GG⟩
theorem fit_one (w : World) (r : Nat) (id : Nat → Nat) (x : ES) (s : Sl) (k c : Int) (o : OpH) (H : w.heap[r]? = some (.cells (c34 id x.up x.op x.mi x.mn x.pi x.pn x.oth s k c) 34 (0, 0))) (h4 : ¬ o.kd = 4) (h5 : ¬ o.kd = 5) : Calls Try.prog 19 #[.agg (c48 o.kd o.ni o.nn ⟨o.ao, o.l.length, o.cap⟩ o.f.kind o.f.pw o.f.pn o.f.toA o.f.a o.f.b o.f.n o.f.fi o.f.fn o.f.ti o.f.tn o.f.tr o.f.ids o.f.key o.f.vn o.f.vw o.f.val o.f.op o.f.ttl o.f.tx), pK r 0] w fun e w' => e = .returned (.agg (frA ((⟨1, zF, 0, false, o.f.a, zF, 0, o.f.fi, o.f.fn, x.mi, x.mn, Sl.nil, Sl.nil, zF, 0, zF, Sl.nil, 0, 0, Sl.nil⟩ : Fr)))) ∧ Gro w w' := by
  refine jp Try.func19 rfl Try.ntmps19 [.agg (c48 o.kd o.ni o.nn ⟨o.ao, o.l.length, o.cap⟩ o.f.kind o.f.pw o.f.pn o.f.toA o.f.a o.f.b o.f.n o.f.fi o.f.fn o.f.ti o.f.tn o.f.tr o.f.ids o.f.key o.f.vn o.f.vw o.f.val o.f.op o.f.ttl o.f.tx), pK r 0] ?_
  intro U h; simp only [List.length_cons, List.length_nil, List.cons_append, List.nil_append, Nat.reduceAdd, Nat.reduceSub, List.reduceReplicate] at h; subst h
  have GG := Gro.refl w
  have kr := H
  refine wp_seq (wp_region_lit ?_)
  refine jB 2 rfl rfl 48 _ rfl _ rfl (c48 o.kd o.ni o.nn ⟨o.ao, o.l.length, o.cap⟩ o.f.kind o.f.pw o.f.pn o.f.toA o.f.a o.f.b o.f.n o.f.fi o.f.fn o.f.ti o.f.tn o.f.tr o.f.ids o.f.key o.f.vn o.f.vw o.f.val o.f.op o.f.ttl o.f.tx) rfl ?_
  intro w1 g1 G eg1 kg1
  have bg1 := jm GG eg1
  have drg1 := je kr eg1
  replace kr := G.has kr
  replace GG := GG.trans G
  clear G eg1
  refine jq 4 rfl rfl 46 rfl _ zv46 _ rfl ?_
  intro w2 g2 G eg2 kg2
  have bg2 := jm GG eg2
  have drg2 := je kr eg2
  have dg1g2 := je kg1 eg2
  replace kr := G.has kr
  replace kg1 := G.has kg1
  replace GG := GG.trans G
  clear G eg2
  refine wpList_nil (jc (wp_seq (wp_seq (wp_region_lit (sv 5 (pK g1 0) (jd 48 _ 0 rfl _ _ rfl _) (sv 6 (iK o.kd) (jh 3 _ rfl g1 0 rfl 48 _ kg1 (na3 _) _ rfl) (wpList_nil (jc (wp_block (wp_seq (wp_region_lit (sv 8 (vFa) (jo 3 .i64 _ _ _ rfl Try.underlying3 o.kd 4 rfl rfl false (decide_eq_false h4) _) (mv 7 (vFa) (wpList_nil (jc ?_)))))))))))))))
  refine wp_cond_false rfl (wp_seq (wp_region_lit (sv 12 (vFa) (jo 3 .i64 _ _ _ rfl Try.underlying3 o.kd 5 rfl rfl false (decide_eq_false h5) _) (mv 11 (vFa) (wpList_nil (jc (wp_cond_false rfl (wp_skip (zh (jc (wp_seq ?_)))))))))))
  refine jk (A := ?Ax4) 10 [(0, 44), (1, 45), (2, 46), (3, 47), (4, 48), (5, 49), (6, 50), (7, 51), (8, 52), (9, 53)] [.val (pK g1 4), .val (pK g1 56), .val (.agg (c29 o.f.fi o.f.fn)), .val (pK r 0), .val (pK r 0), .val (pK r 18), .val (.agg (c29 x.mi x.mn)), .val (pK g1 4), .val (pK g1 23), .val (.agg (c23 o.f.a))] follows (by kernel_rfl) rfl ?hAx4 (ja ?o0x4 (ja ?o1x4 (ja ?o2x4 (ja ?o3x4 (ja ?o4x4 (ja ?o5x4 (ja ?o6x4 (ja ?o7x4 (ja ?o8x4 (ja ?o9x4 jw)))))))))) ?restx4
  case hAx4 =>
    intro ptrs
    simp only [full, foldSlots, filledE, postE, List.foldl_cons, List.foldl_nil, List.getD_cons_zero, List.getD_cons_succ, jr, List.set_cons_zero, List.set_cons_succ]
    exact rfl
  case o0x4 => exact fun _ _ hw _ => jb (v := pK g1 4) rfl (jd 48 _ 3 rfl _ _ rfl _)
  case o1x4 => exact fun _ _ hw _ => jb (v := pK g1 56) rfl (jd 46 _ 6 rfl _ _ rfl _)
  case o2x4 => exact fun _ _ hw _ => jb (v := .agg (c29 o.f.fi o.f.fn)) rfl (jf 29 _ rfl g1 56 2 rfl 48 _ (hw.has kg1) _ Try.underlying29 rfl si29 _)
  case o3x4 => exact fun _ _ _ _ => jg (v := pK r 0) _ rfl rfl rfl
  case o4x4 => exact fun _ _ hw _ => jb (v := pK r 0) rfl (jj _ rfl _ rfl)
  case o5x4 => exact fun _ _ hw _ => jb (v := pK r 18) rfl (jd 34 _ 3 rfl _ _ rfl _)
  case o6x4 => exact fun _ _ hw _ => jb (v := .agg (c29 x.mi x.mn)) rfl (jf 29 _ rfl r 18 2 rfl 34 _ (hw.has kr) _ Try.underlying29 rfl si29 _)
  case o7x4 => exact fun _ _ hw _ => jb (v := pK g1 4) rfl (jd 48 _ 3 rfl _ _ rfl _)
  case o8x4 => exact fun _ _ hw _ => jb (v := pK g1 23) rfl (jd 46 _ 3 rfl _ _ rfl _)
  case o9x4 => exact fun _ _ hw _ => jb (v := .agg (c23 o.f.a)) rfl (jf 23 _ rfl g1 23 16 rfl 48 _ (hw.has kg1) _ Try.underlying23 rfl si23 _)
  intro ptrs w3 GD hxE
  simp only [List.drop_succ_cons, List.drop_zero]
  replace kr := GD.has kr
  replace kg1 := GD.has kg1
  replace kg2 := GD.has kg2
  replace GG := GG.drew.trans GD
  clear GD
  refine sv 54 (.agg (c46 1 zF 0 false o.f.a zF 0 o.f.fi o.f.fn x.mi x.mn Sl.nil Sl.nil zF 0 zF Sl.nil 0 0 Sl.nil)) (jy 46 _ rfl [(0, iK 1), (6, .agg (c29 o.f.fi o.f.fn)), (7, .agg (c29 x.mi x.mn)), (3, .agg (c23 o.f.a))] rfl _ (by kernel_rfl)) ?_
  refine nr ?_; intro U h; simp only [z0, z1] at h; subst h
  refine jn rfl rfl 46 _ _ rfl g2 0 rfl (.agg (c46 1 zF 0 false o.f.a zF 0 o.f.fi o.f.fn x.mi x.mn Sl.nil Sl.nil zF 0 zF Sl.nil 0 0 Sl.nil)) rfl 46 _ kg2 (c46 1 zF 0 false o.f.a zF 0 o.f.fi o.f.fn x.mi x.mn Sl.nil Sl.nil zF 0 zF Sl.nil 0 0 Sl.nil) rfl (by kernel_rfl) (nlB rfl) (by kernel_rfl) (c46 1 zF 0 false o.f.a zF 0 o.f.fi o.f.fn x.mi x.mn Sl.nil Sl.nil zF 0 zF Sl.nil 0 0 Sl.nil) (by kernel_rfl) ?_
  intro w5 St
  replace kr := St.has (by omega) kr
  replace kg1 := St.has (by omega) kg1
  replace GG := GG.store St bg2
  replace kg2 := St.new
  clear St
  refine wpList_nil (jc (wp_ret ?_))
  refine bodyPost_ret (results_cell_row Try.results19 _ _ g2 46 _ (0, 0) _ rfl kg2 Try.underlying46 rfl (by kernel_rfl)) rfl ?_
  exact ⟨rfl, GG⟩
theorem fit_any (w : World) (r : Nat) (id : Nat → Nat) (x : ES) (s : Sl) (k c : Int) (o : OpH) (H : w.heap[r]? = some (.cells (c34 id x.up x.op x.mi x.mn x.pi x.pn x.oth s k c) 34 (0, 0))) : Calls Try.prog 19 #[.agg (c48 o.kd o.ni o.nn ⟨o.ao, o.l.length, o.cap⟩ o.f.kind o.f.pw o.f.pn o.f.toA o.f.a o.f.b o.f.n o.f.fi o.f.fn o.f.ti o.f.tn o.f.tr o.f.ids o.f.key o.f.vn o.f.vw o.f.val o.f.op o.f.ttl o.f.tx), pK r 0] w fun e w' => e = .returned (.agg (frA (fitF o x))) ∧ Gro w w' := by
  unfold fitF
  by_cases h4 : o.kd = 4
  · rw [if_pos h4]
    exact YB w r id x s k c o H h4
  · rw [if_neg h4]
    by_cases h5 : o.kd = 5
    · rw [if_pos h5]
      by_cases h3 : o.f.kind = 3
      · rw [if_pos h3]
        exact ZE w r id x s k c o H h4 h5 h3
      · rw [if_neg h3]
        exact fit_two w r id x s k c o H h4 h5 h3
    · rw [if_neg h5]
      exact fit_one w r id x s k c o H h4 h5
structure FitW (w : World) (o : OpH) (x : ES) : Prop where
  fw : FrW w (fitF o x) (fitD o)
  fs : FrS (fitF o x)
  tx : (fitD o).tx.length ≤ 140737488355000
  old : ∀ ad, (fitF o x).tx.ao = some ad → 0 < (fitD o).tx.length → ad.block < w.heap.size
theorem XC.tlt {w : World} {ao : Option Addr} {cap n : Nat} {l : List Nat} (h : XC w 1 ao cap n (bL l)) (ad : Addr) (ha : ao = Option.some ad) (h0 : 0 < l.length) : ad.block < w.heap.size := h.lt ad ha (by simpa [bL] using h0)
theorem fit_w {w : World} {o : OpH} (x : ES) (H : OpW w o) (hs : OpS o 140737488351232) : FitW w o x := by
  obtain ⟨h1, h2, h3, h4, h5⟩ := hs
  have n1 := jX (g := fun r : Int => Value.int .i64 r) H.fw.tr
  have n2 := H.fw.idn
  have n3 := jX (g := fun r : Nat => Value.int .u8 (r : Int)) H.fw.val
  have n4 := jX (g := fun r : Nat => Value.int .u8 (r : Int)) H.fw.tx
  have z : ∀ b, Small Sl.nil.n b := zl
  have zx : ∀ sz, XC w sz Sl.nil.ao Sl.nil.cap Sl.nil.n [] := fun sz => XC.nil w sz
  by_cases k4 : o.kd = 4
  · have e1 : fitF o x = o.f := if_pos k4
    have e2 : fitD o = o.d := if_pos k4
    refine ⟨by rw [e1, e2]; exact H.fw, by rw [e1]; exact ⟨⟨by omega⟩, ⟨by omega⟩, ⟨by omega⟩, ⟨by omega⟩⟩, by rw [e2]; omega, fun ad ha h0 => ?_⟩
    rw [e1] at ha
    rw [e2] at h0
    exact H.fw.tx.tlt ad ha h0
  · by_cases k5 : o.kd = 5
    · by_cases k3 : o.f.kind = 3
      · have e1 : fitF o x = (⟨3, zF, 0, false, zF, zF, o.f.n, x.pi, x.pn, x.mi, x.mn, Sl.nil, Sl.nil, zF, 0, zF, Sl.nil, 0, 0, Sl.nil⟩ : Fr) := (if_neg k4).trans ((if_pos k5).trans (if_pos k3))
        have e2 : fitD o = ⟨[], [], [], []⟩ := (if_neg k4).trans ((if_pos k5).trans (if_pos k3))
        refine ⟨by rw [e1, e2]; exact ⟨zx 1, zx 16, zx 1, zx 1, (fun _ h => by cases h), (fun _ h => by cases h), (fun _ h => by cases h)⟩, by rw [e1]; exact ⟨z _, z _, z _, z _⟩, by rw [e2]; exact Nat.zero_le _, fun ad ha h0 => ?_⟩
        rw [e2] at h0
        cases h0
      · have e1 : fitF o x = (⟨2, zF, 0, false, zF, zF, o.f.n, x.pi, x.pn, x.mi, x.mn, Sl.nil, Sl.nil, zF, 0, zF, Sl.nil, 0, 0, o.f.tx⟩ : Fr) := (if_neg k4).trans ((if_pos k5).trans (if_neg k3))
        have e2 : fitD o = ⟨[], [], [], o.d.tx⟩ := (if_neg k4).trans ((if_pos k5).trans (if_neg k3))
        refine ⟨by rw [e1, e2]; exact ⟨zx 1, zx 16, zx 1, H.fw.tx, (fun _ h => by cases h), (fun _ h => by cases h), H.fw.otx⟩, by rw [e1]; exact ⟨z _, z _, z _, ⟨by show o.f.tx.n * 1 ≤ _; omega⟩⟩, by rw [e2]; show o.d.tx.length ≤ _; omega, fun ad ha h0 => ?_⟩
        rw [e1] at ha
        rw [e2] at h0
        exact H.fw.tx.tlt ad ha h0
    · have e1 : fitF o x = (⟨1, zF, 0, false, o.f.a, zF, 0, o.f.fi, o.f.fn, x.mi, x.mn, Sl.nil, Sl.nil, zF, 0, zF, Sl.nil, 0, 0, Sl.nil⟩ : Fr) := (if_neg k4).trans (if_neg k5)
      have e2 : fitD o = ⟨[], [], [], []⟩ := (if_neg k4).trans (if_neg k5)
      refine ⟨by rw [e1, e2]; exact ⟨zx 1, zx 16, zx 1, zx 1, (fun _ h => by cases h), (fun _ h => by cases h), (fun _ h => by cases h)⟩, by rw [e1]; exact ⟨z _, z _, z _, z _⟩, by rw [e2]; exact Nat.zero_le _, fun ad ha h0 => ?_⟩
      rw [e2] at h0
      cases h0
theorem OpW.gro {w w' : World} {o : OpH} (H : OpW w o) (G : Gro w w') : OpW w' o := ⟨H.nc.gro G, H.fw.gro G, H.fr⟩
theorem FitW.gro {w w' : World} {o : OpH} {x : ES} (H : FitW w o x) (G : Gro w w') : FitW w' o x := ⟨H.fw.gro G, H.fs, H.tx, fun ad ha h0 => Nat.lt_of_lt_of_le (H.old ad ha h0) G.size⟩
def Bth (B0 : Nat) (S : List Nat) (w : World) (p r : Nat) (id : Nat → Nat) (x y : ES) : Prop := ∃ mua tba mub tbb, EX w p id x mua tba ∧ DX w r id y mub tbb ∧ (∀ k ∈ mua, B0 ≤ k) ∧ (∀ k ∈ mub, B0 ≤ k) ∧ Dis mua mub ∧ Dis tba S ∧ Dis tbb S
section
variable {B0 : Nat} {S : List Nat} {w w' : World} {p r : Nat} {id : Nat → Nat} {x y : ES}
theorem Bth.gro (H : Bth B0 S w p r id x y) (G : Gro w w') : Bth B0 S w' p r id x y := by
  obtain ⟨a, b, c, d, h1, h2, h3⟩ := H
  exact ⟨a, b, c, d, h1.gro G, h2.gro G, h3⟩
theorem Bth.none (H : Bth B0 S w p r id x y) : Bth B0 [] w p r id x y := by
  obtain ⟨a, b, c, d, h1, h2, h3, h4, h5, _⟩ := H
  exact ⟨a, b, c, d, h1, h2, h3, h4, h5, fun _ _ h => (by cases h), fun _ _ h => (by cases h)⟩
theorem Bth.avoid (H : Bth B0 [] w p r id x y) {T : List Nat} (hT : ∀ k ∈ T, w.heap.size ≤ k) : Bth B0 T w p r id x y := by
  obtain ⟨a, b, c, d, h1, h2, h3, h4, h5, _⟩ := H
  exact ⟨a, b, c, d, h1, h2, h3, h4, h5, fun k h h' => absurd (h1.tlt k h) (by have := hT k h'; omega), fun k h h' => absurd (h2.tlt k h) (by have := hT k h'; omega)⟩
theorem Bth.stT (H : Bth B0 S w p r id x y) {g : Nat} {t' : TypeId} (h98 : t' ≠ 98) (h121 : t' ≠ 121) (h36 : t' ≠ 36) (h5 : t' ≠ 5) (h34 : t' ≠ 34) {cs : Array Value} {o : Obj} (hg : w.heap[g]? = some (.cells cs t' (0, 0))) (St : Stored w w' g o) : Bth B0 S w' p r id x y := by
  obtain ⟨a, b, c, d, h1, h2, h3⟩ := H
  exact ⟨a, b, c, d, h1.stT h98 h121 h36 h5 hg St, h2.stT h34 h36 h5 hg St, h3⟩
theorem Bth.five (H : Bth B0 S w p r id x y) {g : Nat} {o : Obj} {cs : Array Value} (hg : w.heap[g]? = some (.cells cs 5 (0, 0))) (St : Stored w w' g o) (hS : g ∈ S) : Bth B0 S w' p r id x y := by
  obtain ⟨a, b, c, d, h1, h2, h3, h4, h5, h6, h7⟩ := H
  exact ⟨a, b, c, d, h1.five hg St (fun h => h6 g h hS), h2.five hg St (fun h => h7 g h hS), h3, h4, h5, h6, h7⟩
theorem Bth.fst (H : Bth B0 S w p r id x y) (hB : B0 ≤ w.heap.size) (hS : ∀ k ∈ S, k < w.heap.size) : ∃ mu tb, EX w p id x mu tb ∧ (∀ k ∈ mu, B0 ≤ k) ∧ ∀ w' x' mu' tb', EX w' p id x' mu' tb' → GroS mu w w' → Fresh w mu mu' → Fresh w tb tb' → Bth B0 S w' p r id x' y := by
  obtain ⟨a, b, c, d, h1, h2, h3, h4, h5, h6, h7⟩ := H
  refine ⟨a, b, h1, h3, fun w' x' mu' tb' h G F F2 => ⟨mu', tb', c, d, h, h2.gros G h5 h1.own, fun k hk => (F k hk).elim (h3 k) fun h => Nat.le_trans hB h, h4, h5.fresh F h2.lt, h6.fresh F2 hS, h7⟩⟩
theorem Bth.snd (H : Bth B0 S w p r id x y) (hB : B0 ≤ w.heap.size) (hS : ∀ k ∈ S, k < w.heap.size) : ∃ mu tb, DX w r id y mu tb ∧ (∀ k ∈ mu, B0 ≤ k) ∧ ∀ w' y' mu' tb', DX w' r id y' mu' tb' → GroS mu w w' → Fresh w mu mu' → Fresh w tb tb' → Bth B0 S w' p r id x y' := by
  obtain ⟨a, b, c, d, h1, h2, h3, h4, h5, h6, h7⟩ := H
  refine ⟨c, d, h2, h4, fun w' x' mu' tb' h G F F2 => ⟨a, b, mu', tb', h1.gros G h5.symm h2.own, h, h3, fun k hk => (F k hk).elim (h4 k) fun h => Nat.le_trans hB h, (h5.symm.fresh F h1.lt).symm, h6, h7.fresh F2 hS⟩⟩
end
structure Bd (n : Nat) (x : ES) : Prop where
  k : x.k + x.q.length ≤ n
  c : x.c ≤ n
  dn : x.up = false → x = ES.new
theorem Bd.mono {n m : Nat} {x : ES} (h : Bd n x) (hm : n ≤ m) : Bd m x := ⟨Nat.le_trans h.k hm, Nat.le_trans h.c hm, h.dn⟩
theorem Bd.new (n : Nat) : Bd n ES.new := ⟨Nat.zero_le _, Nat.zero_le _, fun _ => rfl⟩
theorem Bd.rise {n : Nat} {x : ES} (h : Bd n x) (id : Nat → Nat) (i k : Int) : Bd n (riseS id x i k).1 := by
  unfold riseS
  split
  · exact h
  · exact ⟨h.k, h.c, fun e => by cases e⟩
theorem Bd.send {n : Nat} {x : ES} (h : Bd n x) (l : List Nat) : Bd (n + 1) (sendS x l).1 := by
  unfold sendS
  split
  · rename_i ho
    split
    · exact h.mono (Nat.le_succ _)
    · refine ⟨?_, Nat.le_succ_of_le h.c, fun e => ?_⟩
      · have := h.k
        simp only [List.length_append, List.length_cons, List.length_nil]
        omega
      · have := h.dn e
        rw [this] at ho
        cases ho
  · exact h.mono (Nat.le_succ _)
theorem Yt {n : Nat} {x : ES} (hk : x.k + x.q.length ≤ n) (hc : x.c ≤ n) (hu : x.up = true) (id : Nat → Nat) (d : Bool) (m : PF) : Bd n (metS id d x m).1 := by
  unfold metS
  split
  · split
    · exact ⟨hk, hc, fun e => by rw [hu] at e; cases e⟩
    · exact ⟨hk, hc, fun e => by simp only at e; rw [hu] at e; cases e⟩
  · exact ⟨hk, hc, fun e => by rw [hu] at e; cases e⟩
theorem Bd.hear {n : Nat} {x : ES} (h : Bd n x) (id : Nat → Nat) (m : PF) (ni nn : Int) : Bd (n + 1) (hearS id x m ni nn).1 := by
  have h1 := h.mono (Nat.le_succ n)
  unfold hearS
  split
  · rename_i hu
    split
    · unfold helloS
      split
      · exact h1
      · split
        · exact (Yt (n := n) (x := anewS x m ni nn) (Nat.zero_le _) (Nat.zero_le _) hu id x.op m).mono (Nat.le_succ _)
        · exact (Yt h.k h.c hu id false m).mono (Nat.le_succ _)
    · split
      · split
        · unfold cameS
          split
          · exact ⟨Nat.le_succ_of_le h.k, Nat.succ_le_succ h.c, fun e => by simp only at e; rw [hu] at e; cases e⟩
          · exact ⟨h1.k, h1.c, fun e => by simp only at e; rw [hu] at e; cases e⟩
        · exact h1
      · split
        · split
          · unfold ackS
            split
            · rename_i ha
              refine ⟨?_, h1.c, fun e => by simp only at e; rw [hu] at e; cases e⟩
              have := h1.k
              simp only [List.length_drop]
              simp only at ha
              omega
            · exact ⟨h1.k, h1.c, fun e => by simp only at e; rw [hu] at e; cases e⟩
          · exact h1
        · exact h1
  · exact h1
end Go.Proofs.Ytlfanecaglbomaa
