/- Every script of calls is answered as the document says (HelloPlays). -/
import Derived.Test.YtlfanecaglbomaaCH14
namespace Go.Proofs.Ytlfanecaglbomaa
open Go.RowKit
theorem AL.stT {w w' : World} {M g : Nat} {r : List (Nat × List Nat)} (h : AL w M g r) {gm : Nat} {t' : TypeId} {c : Array Value} {o : Obj} (h36 : (36 : TypeId) ≠ t') (h5 : (5 : TypeId) ≠ t') (hg : w.heap[gm]? = some (.cells c t' (0, 0))) (St : Stored w w' gm o) : AL w' M g r :=
  ⟨h.base, St.has (jJ h.row hg h36) h.row, fun x hx => ⟨(h.fr x hx).1, St.has (jJ (h.fr x hx).2.1 hg h5) (h.fr x hx).2.1, (h.fr x hx).2.2⟩⟩
theorem Gro.gro {a b c : World} (h : Gro a b) (k : Gro b c) : Gro a c := h.trans k
def lsE (ms : List PF) : PostE := PostE.ex (fun v x => ∃ (ao : Option Addr) (cap : Nat) (fs : List (PF × Fr)), v = .slice ao fs.length cap ∧ fs.map (·.1) = ms ∧ LF x 0 ao cap fs) (fun _ _ _ G ⟨a, c, f, h1, h2, h3⟩ => ⟨a, c, f, h1, h2, h3.gro G⟩)
theorem fill_ls (ms : List PF) (v : Value) : (lsE ms).fill v = v := rfl
def tvE (t : PT) : PostE := PostE.ex (fun v x => TV x t v) (fun _ _ _ G h => h.gro G)
theorem fill_tv (t : PT) (v : Value) : (tvE t).fill v = v := rfl
def cfE (f : Fr) (d : FD) : PostE := PostE.ex (fun v x => ∃ g : Fr, v = .agg (frA g) ∧ FrW x g d ∧ pin g d = pin f d ∧ FrS g) (fun _ _ _ G ⟨g, h1, h2, h3, h4⟩ => ⟨g, h1, h2.gro G, h3, h4⟩)
theorem fill_cf (f : Fr) (d : FD) (v : Value) : (cfE f d).fill v = v := rfl
theorem FrO.frw {w : World} {B : Nat} {f : Fr} {d : FD} (h : FrO w B f d) : FrW w f d := ⟨h.tr.xc, h.ids.xc, h.val.xc, h.tx.xc, h.oids, h.oval, h.otx⟩
theorem frs_of {w : World} {f g : Fr} {d : FD} (h : FrW w f d) (k : FrW w g d) (hs : FrS f) : FrS g := by
  have a1 := jX (g := fun r : Int => Value.int .i64 r) h.tr
  have b1 := jX (g := fun r : Int => Value.int .i64 r) k.tr
  have a2 := h.idn
  have b2 := k.idn
  have a3 := jX (g := fun r : Nat => Value.int .u8 (r : Int)) h.val
  have b3 := jX (g := fun r : Nat => Value.int .u8 (r : Int)) k.val
  have a4 := jX (g := fun r : Nat => Value.int .u8 (r : Int)) h.tx
  have b4 := jX (g := fun r : Nat => Value.int .u8 (r : Int)) k.tx
  exact ⟨⟨by rw [b1, ← a1]; exact hs.tr.out⟩, ⟨by rw [b2, ← a2]; exact hs.ids.out⟩, ⟨by rw [b3, ← a3]; exact hs.val.out⟩, ⟨by rw [b4, ← a4]; exact hs.tx.out⟩⟩
theorem EX.ob {w : World} {p : Nat} {id : Nat → Nat} {x : ES} {mu tb : List Nat} (H : EX w p id x mu tb) {B : Nat} {a : Option Addr} {c : Nat} {l : List Nat} (h : OB w 5 .u8 B a c l) : ∀ ad, a = some ad → ad.block ∉ mu := fun ad ha hm => by
  obtain ⟨cur, hc⟩ := h.blk5 ha
  obtain ⟨c', t, h1, h2⟩ := H.own _ hm
  exact jJ h1 hc h2 rfl
theorem open_xt (w : World) (p : Nat) (id : Nat → Nat) (x : ES) (mu tb : List Nat) (H : EX w p id x mu tb) (h : x.op = true) : Calls Try.prog 24 #[pK p 0] w fun e w' => e = .returned (.tuple #[.agg (c23 x.oth), vTr]) ∧ Gro w w' := by
  have := JL w p id x mu tb H
  rw [if_pos h, h] at this
  exact this
theorem open_xf (w : World) (p : Nat) (id : Nat → Nat) (x : ES) (mu tb : List Nat) (H : EX w p id x mu tb) (h : x.op = false) : Calls Try.prog 24 #[pK p 0] w fun e w' => e = .returned (.tuple #[.agg (c23 zF), vFa]) ∧ Gro w w' := by
  have := JL w p id x mu tb H
  rw [h] at this
  exact this
theorem Yc (id : Nat → Nat) (x : ES) (i n : Int) : (riseS id x i n).2.length ≤ 1000000 := by
  unfold riseS
  split <;> simp
theorem vr (x : ES) : ∀ (l : List (List Nat)) (n : Nat), (ticksF x n l).length = l.length
  | [], _ => rfl
  | _ :: r, n => by simp [ticksF, vr x r (n + 1)]
theorem ZR (id : Nat → Nat) (x : ES) (h : x.q.length ≤ 100000) : (tickS id x).length ≤ 1000000 := by
  unfold tickS
  split
  · split
    · rw [vr]; omega
    · simp
  · simp
theorem Yz (id : Nat → Nat) (x : ES) (m : PF) (ni nn : Int) : (hearS id x m ni nn).2.out.length ≤ 1000000 := by
  have h1 : ∀ d y, (metS id d y m).2.out.length ≤ 1000000 := fun d y => by
    unfold metS
    split
    · split <;> simp
    · simp
  unfold hearS
  split
  · split
    · unfold helloS
      split
      · simp [PT.no]
      · split
        · exact h1 _ _
        · exact h1 _ _
    · split
      · split
        · unfold cameS
          split <;> simp
        · simp [PT.no]
      · split
        · split <;> simp [PT.no]
        · simp [PT.no]
  · simp [PT.no]
set_option maxRecDepth 100000 in
set_option maxHeartbeats 4000000 in
theorem vH (w : World) (id : Nat → Nat) (ao : Option Addr) (cap : Nat) (os : List OpH) (HO : OH w ao cap os) (hol : os.length ≤ 140737488355000) (hlens : ∀ o ∈ os, OpS o 140737488351232) : Calls Try.prog 3 #[.agg (c23 id), .slice ao os.length cap] w fun e w' => e = .returned (vTr) ∧ Gro w w' := by
  refine jp Try.func3 rfl Try.ntmps3 [.agg (c23 id), .slice ao os.length cap] ?_
  intro U h; simp only [List.length_cons, List.length_nil, List.cons_append, List.nil_append, Nat.reduceAdd, Nat.reduceSub, List.reduceReplicate] at h; subst h
  have GG := Gro.refl w
  have hsz0 := Nat.le_refl w.heap.size
  refine wp_seq (wp_region_lit ?_)
  refine jB 2 rfl rfl 23 _ rfl _ rfl (c23 id) rfl ?_
  intro w1 g1 G eg1 kg1
  have bg1 := jm GG eg1
  replace GG := GG.trans G
  clear G eg1
  refine mv 4 (vFa) (wpList_nil (jc (wp_seq (wp_region_lit (sv 27 (.agg (c23 id)) (jf 23 _ rfl g1 0 16 rfl 23 _ kg1 _ Try.underlying23 rfl si23 _) ?_)))))
  refine nr ?_; intro U h; simp only [z0, z1] at h; subst h
  refine jD 28 rfl rfl _ 7 Try.call7 rfl rfl _ rfl [.agg (c23 id)] rfl (yr _ id) (fun _ _ ⟨_, _, he, _⟩ => ⟨_, he⟩) ?_
  rintro v w2 ⟨p, wp, he, G, hp, hwp, HE⟩
  cases he
  replace hp := Nat.le_trans GG.size hp
  replace hwp := Nat.le_trans GG.size hwp
  replace kg1 := G.has kg1
  replace GG := GG.trans G
  clear G
  refine mv 5 (pK p 0) (wpList_nil (jc (wp_seq (wp_region_lit (sv 29 (.agg (c23 id)) (jf 23 _ rfl g1 0 16 rfl 23 _ kg1 _ Try.underlying23 rfl si23 _) ?_)))))
  refine nr ?_; intro U h; simp only [z0, z1] at h; subst h
  refine sv 30 (.agg (c34 id false false 0 0 0 0 zF Sl.nil 0 0)) (jy 34 _ rfl [(0, .agg (c23 id))] rfl _ (by kernel_rfl)) ?_
  refine jB 31 rfl rfl 34 _ rfl _ rfl (c34 id false false 0 0 0 0 zF Sl.nil 0 0) rfl ?_
  intro w3 r G er kr
  have br := jm GG er
  have hlr : ∀ k ∈ [p, wp], k < r := fun k hk => er ▸ (EX.of_new (w := w) hp hwp HE).1.lt k hk
  clear er
  replace kg1 := G.has kg1
  replace HE := HE.gro G
  replace GG := GG.trans G
  clear G
  have HB : Bth w.heap.size [] _ p r id ES.new ES.new := ⟨[p, wp], [], [r], [], (EX.of_new hp hwp HE).1, ⟨w.heap.size, none, 0, [], WX.new kr br (by decide), Nat.zero_le _, rfl, rfl, rfl⟩, (EX.of_new hp hwp HE).2, fun k hk => by cases List.mem_singleton.1 hk; exact br, fun k hk hm => by cases List.mem_singleton.1 hm; exact absurd (hlr r hk) (Nat.lt_irrefl _), (fun _ h => by cases h), (fun _ h => by cases h)⟩
  clear kr HE hlr
  refine mv 6 (pK r 0) ?_
  refine nr ?_; intro U h; simp only [z0, z1] at h; subst h
  refine wpList_nil (jc (wp_seq (wp_seq ?_)))
  refine jt ?_
  intro OPS hY
  have y2 := hY 2 34 rfl
  clear hY
  refine mv 32 (pK p 0) (sv 33 (vFa) (zg 25 _ _ _ rfl _ rfl rfl Try.underlying25 _) (mv 34 (vFa) ?_))
  refine nr ?_; intro U h; simp only [z0, z1] at h; subst h
  refine zW 35 rfl rfl y2 rfl _ 8 Try.call8 rfl rfl _ rfl [] rfl (ZD _) ?_
  intro w4 G
  replace kg1 := G.has kg1
  replace HB := HB.gro G
  replace GG := GG.trans G
  clear G
  refine ji 36 rfl rfl y2 rfl (vFa) (jE _ _ rfl true rfl) (mv 37 (vFa) ?_)
  refine nr ?_; intro U h; simp only [z0, z1] at h; subst h
  refine wpList_nil (jc (wp_cond_false rfl (wp_skip (jc (wp_seq (wp_seq (wp_region_lit (mv 38 (.slice ao os.length cap) (sv 39 (iK ((os.length : Nat) : Int)) (jM Try.underlying24 _ rfl _ _ _ rfl _) (mv 40 (iK 0) ?_))))))))))
  refine nr ?_; intro U h; simp only [z0, z1] at h; subst h
  refine wpList_nil (jc (wp_block ?_))
  refine zB (fun mz az wv => ∃ (j : Nat) (x : ES) (us1 : Nat → Value), mz = os.length - j ∧ az = ⟨[.agg (c23 id), .slice ao os.length cap, pK g1 0, undef, us1 0, pK p 0, pK r 0, us1 1, us1 2, us1 3, us1 4, us1 5, us1 6, us1 7, us1 8, us1 9, us1 10, us1 11, us1 12, us1 13, us1 14, us1 15, us1 16, us1 17, us1 18, us1 19, us1 20, .agg (c23 id), pK p 0, .agg (c23 id), .agg (c34 id false false 0 0 0 0 zF Sl.nil 0 0), pK r 0, pK p 0, vFa, vFa, vTr, vFa, vFa, .slice ao os.length cap, iK ((os.length : Nat) : Int), iK ((j : Nat) : Int), us1 21, us1 22, us1 23, us1 24, us1 25, us1 26, us1 27, us1 28, us1 29, us1 30, us1 31, us1 32, us1 33, us1 34, us1 35, us1 36, us1 37, us1 38, us1 39, us1 40, us1 41, us1 42, us1 43, us1 44, us1 45, us1 46, us1 47, us1 48, us1 49, us1 50, us1 51, us1 52, us1 53, us1 54, us1 55, us1 56, us1 57, us1 58, us1 59, us1 60, us1 61, us1 62, us1 63, us1 64, us1 65, us1 66, us1 67, us1 68, us1 69, us1 70, us1 71, us1 72, us1 73, us1 74, us1 75, us1 76, us1 77, us1 78, us1 79, us1 80, us1 81, us1 82, us1 83, us1 84, us1 85, us1 86, us1 87, us1 88, us1 89, us1 90, us1 91, us1 92, us1 93, us1 94, us1 95, us1 96, us1 97, us1 98, us1 99, us1 100, us1 101, us1 102, us1 103, us1 104, us1 105, us1 106, us1 107, us1 108, us1 109, us1 110, us1 111, us1 112, us1 113, us1 114, us1 115, us1 116, us1 117, us1 118, us1 119, us1 120, us1 121, us1 122, us1 123, us1 124, us1 125, us1 126, us1 127, us1 128, us1 129, us1 130, us1 131, us1 132, us1 133, us1 134, us1 135, us1 136, us1 137, us1 138, us1 139, us1 140, us1 141, us1 142, us1 143, us1 144, us1 145, us1 146, us1 147, us1 148, us1 149, us1 150, us1 151, us1 152, us1 153, us1 154, us1 155, us1 156, us1 157, us1 158, us1 159, us1 160, us1 161, us1 162, us1 163, us1 164, us1 165, us1 166, us1 167, us1 168, us1 169, us1 170, us1 171, us1 172, us1 173, us1 174, us1 175, us1 176, us1 177, us1 178, us1 179, us1 180, us1 181, us1 182, us1 183, us1 184, us1 185, us1 186, us1 187, us1 188, us1 189, us1 190, us1 191, us1 192, us1 193, us1 194, us1 195, us1 196, us1 197, us1 198, us1 199, us1 200, us1 201, us1 202, us1 203, us1 204, us1 205, us1 206, us1 207, us1 208, us1 209, us1 210, us1 211, us1 212, us1 213, us1 214, us1 215, us1 216, us1 217, us1 218, us1 219, us1 220, us1 221, us1 222, us1 223, us1 224, us1 225, us1 226, us1 227, us1 228, us1 229, us1 230, us1 231, us1 232, us1 233, us1 234, us1 235, us1 236, us1 237, us1 238, us1 239, us1 240, us1 241, us1 242, us1 243, us1 244, us1 245, us1 246, us1 247].toArray, []⟩ ∧ j ≤ os.length ∧ j ≤ 201 ∧ Bd j x ∧ Gro w wv ∧ Bth w.heap.size [] wv p r id x x) ?_ _ ⟨0, ES.new, usB [4, 7, 8, 9, 10, 11, 12, 13, 14, 15, 16, 17, 18, 19, 20, 21, 22, 23, 24, 25, 26, 41, 42, 43, 44, 45, 46, 47, 48, 49, 50, 51, 52, 53, 54, 55, 56, 57, 58, 59, 60, 61, 62, 63, 64, 65, 66, 67, 68, 69, 70, 71, 72, 73, 74, 75, 76, 77, 78, 79, 80, 81, 82, 83, 84, 85, 86, 87, 88, 89, 90, 91, 92, 93, 94, 95, 96, 97, 98, 99, 100, 101, 102, 103, 104, 105, 106, 107, 108, 109, 110, 111, 112, 113, 114, 115, 116, 117, 118, 119, 120, 121, 122, 123, 124, 125, 126, 127, 128, 129, 130, 131, 132, 133, 134, 135, 136, 137, 138, 139, 140, 141, 142, 143, 144, 145, 146, 147, 148, 149, 150, 151, 152, 153, 154, 155, 156, 157, 158, 159, 160, 161, 162, 163, 164, 165, 166, 167, 168, 169, 170, 171, 172, 173, 174, 175, 176, 177, 178, 179, 180, 181, 182, 183, 184, 185, 186, 187, 188, 189, 190, 191, 192, 193, 194, 195, 196, 197, 198, 199, 200, 201, 202, 203, 204, 205, 206, 207, 208, 209, 210, 211, 212, 213, 214, 215, 216, 217, 218, 219, 220, 221, 222, 223, 224, 225, 226, 227, 228, 229, 230, 231, 232, 233, 234, 235, 236, 237, 238, 239, 240, 241, 242, 243, 244, 245, 246, 247, 248, 249, 250, 251, 252, 253, 254, 255, 256, 257, 258, 259, 260, 261, 262, 263, 264, 265, 266, 267] rfl rfl ⟨Nat.zero_le _, Nat.zero_le _, (Bd.new _), GG, HB⟩⟩
  clear GG HB
  rintro mz az wv ⟨j, x, us1, rfl, rfl, hj, hj2, hbd, GG, HB⟩
  refine wp_seq (wp_region_lit ?_)
  obtain ⟨p1, hp1⟩ : ∃ p, decide (((j : Nat) : Int) < ((os.length : Nat) : Int)) = p := ⟨_, rfl⟩
  refine sv 41 (.bool p1) (jQ 3 _ _ _ rfl ((j : Nat) : Int) ((os.length : Nat) : Int) rfl rfl p1 hp1 _) ?_
  refine nr ?_; intro U h; simp only [z0, z1] at h; subst h
  cases p1
  refine wpList_nil (jc (wp_seq (wp_cond_false rfl (wp_exit (zi (zi (yl (jc (wp_seq (wp_region_lit (mv 4 (vTr) (wpList_nil (jc (wp_ret ?_))))))))))))))
  refine bodyPost_ret (results_tmp Try.results3 _ _ _) rfl ?_
  exact ⟨rfl, GG⟩
  have hjn : j < os.length := by have := of_decide_eq_true hp1; omega
  obtain ⟨o, ho⟩ : ∃ o, os[j]? = some o := ⟨_, List.getElem?_eq_getElem hjn⟩
  have hom := List.mem_of_getElem? ho
  have hop := HO.op o hom
  have hos := hlens o hom
  obtain ⟨ad, hao⟩ := HO.row.some (by omega)
  refine wpList_nil (jc (wp_seq (wp_cond_true rfl (wp_skip (jc (wp_seq (wp_block (wp_seq (wp_region_lit (mv 42 (iK ((j : Nat) : Int)) (sv 43 (.pointer (some (ad.add (j * 99)))) (yo oT _ _ rfl ad os.length cap j (by exact congrArg (fun a => Value.slice a os.length cap) hao) rfl hjn _) ?_)))))))))))
  refine nr ?_; intro U h; simp only [z0, z1] at h; subst h
  refine sv 44 (.agg (c48 o.kd o.ni o.nn ⟨o.ao, o.l.length, o.cap⟩ o.f.kind o.f.pw o.f.pn o.f.toA o.f.a o.f.b o.f.n o.f.fi o.f.fn o.f.ti o.f.tn o.f.tr o.f.ids o.f.key o.f.vn o.f.vw o.f.val o.f.op o.f.ttl o.f.tx)) (ld_opH _ rfl ad j rfl (by rw [← hao]; exact HO.row.gro GG) o ho) ?_
  refine jq 8 rfl rfl 48 rfl _ zv48 _ rfl ?_
  intro w5 g2 G eg2 kg2
  have bg2 := jm GG eg2
  replace HB := HB.gro G
  replace GG := GG.trans G
  clear G eg2
  refine mv 7 (iK ((j : Nat) : Int)) ?_
  refine nr ?_; intro U h; simp only [z0, z1] at h; subst h
  refine jn rfl rfl 48 _ _ rfl g2 0 rfl (.agg (c48 o.kd o.ni o.nn ⟨o.ao, o.l.length, o.cap⟩ o.f.kind o.f.pw o.f.pn o.f.toA o.f.a o.f.b o.f.n o.f.fi o.f.fn o.f.ti o.f.tn o.f.tr o.f.ids o.f.key o.f.vn o.f.vw o.f.val o.f.op o.f.ttl o.f.tx)) rfl 48 _ kg2 (c48 o.kd o.ni o.nn ⟨o.ao, o.l.length, o.cap⟩ o.f.kind o.f.pw o.f.pn o.f.toA o.f.a o.f.b o.f.n o.f.fi o.f.fn o.f.ti o.f.tn o.f.tr o.f.ids o.f.key o.f.vn o.f.vw o.f.val o.f.op o.f.ttl o.f.tx) rfl (by kernel_rfl) (nlB rfl) (by kernel_rfl) (c48 o.kd o.ni o.nn ⟨o.ao, o.l.length, o.cap⟩ o.f.kind o.f.pw o.f.pn o.f.toA o.f.a o.f.b o.f.n o.f.fi o.f.fn o.f.ti o.f.tn o.f.tr o.f.ids o.f.key o.f.vn o.f.vw o.f.val o.f.op o.f.ttl o.f.tx) (by kernel_rfl) ?_
  intro w7 St
  replace HB := HB.stT (by decide) (by decide) (by decide) (by decide) (by decide) kg2 St
  replace GG := GG.store St bg2
  replace kg2 := St.new
  clear St
  refine wpList_nil (jc (wp_seq (wp_seq (wp_region_lit (mv 45 (iK ((j : Nat) : Int)) ?_)))))
  refine nr ?_; intro U h; simp only [z0, z1] at h; subst h
  obtain ⟨p2, hp2⟩ : ∃ p, decide (200 < ((j : Nat) : Int)) = p := ⟨_, rfl⟩
  refine sv 46 (.bool p2) (jS 3 _ _ _ rfl ((j : Nat) : Int) 200 rfl rfl p2 hp2 _) ?_
  refine nr ?_; intro U h; simp only [z0, z1] at h; subst h
  cases p2
  have hj200 : j ≤ 200 := by have := of_decide_eq_false hp2; omega
  have hb1 := hbd.k
  have hb2 := hbd.c
  refine wpList_nil (jc (wp_cond_false rfl (wp_skip (jc ?_))))
  refine YV (fun az wv => ∃ (x2 : ES) (um1 : Nat → Value), az = ⟨[.agg (c23 id), .slice ao os.length cap, pK g1 0, undef, um1 0, pK p 0, pK r 0, iK ((j : Nat) : Int), pK g2 0, um1 1, um1 2, um1 3, um1 4, um1 5, um1 6, um1 7, um1 8, um1 9, us1 12, us1 13, us1 14, us1 15, us1 16, us1 17, us1 18, us1 19, us1 20, .agg (c23 id), pK p 0, .agg (c23 id), .agg (c34 id false false 0 0 0 0 zF Sl.nil 0 0), pK r 0, pK p 0, vFa, vFa, vTr, vFa, vFa, .slice ao os.length cap, iK ((os.length : Nat) : Int), iK ((j : Nat) : Int), vTr, iK ((j : Nat) : Int), .pointer (some (ad.add (j * 99))), .agg (c48 o.kd o.ni o.nn ⟨o.ao, o.l.length, o.cap⟩ o.f.kind o.f.pw o.f.pn o.f.toA o.f.a o.f.b o.f.n o.f.fi o.f.fn o.f.ti o.f.tn o.f.tr o.f.ids o.f.key o.f.vn o.f.vw o.f.val o.f.op o.f.ttl o.f.tx), iK ((j : Nat) : Int), vFa, um1 10, um1 11, um1 12, um1 13, um1 14, um1 15, um1 16, um1 17, um1 18, um1 19, um1 20, um1 21, um1 22, um1 23, um1 24, um1 25, um1 26, um1 27, um1 28, um1 29, um1 30, um1 31, um1 32, um1 33, um1 34, um1 35, um1 36, um1 37, um1 38, um1 39, um1 40, um1 41, um1 42, um1 43, um1 44, um1 45, um1 46, um1 47, um1 48, um1 49, um1 50, um1 51, um1 52, um1 53, um1 54, um1 55, um1 56, um1 57, um1 58, um1 59, um1 60, um1 61, um1 62, um1 63, um1 64, um1 65, um1 66, um1 67, um1 68, um1 69, um1 70, um1 71, um1 72, um1 73, um1 74, um1 75, um1 76, um1 77, um1 78, um1 79, um1 80, um1 81, um1 82, um1 83, um1 84, um1 85, um1 86, um1 87, um1 88, um1 89, um1 90, um1 91, um1 92, um1 93, um1 94, um1 95, um1 96, um1 97, um1 98, um1 99, um1 100, um1 101, um1 102, um1 103, um1 104, um1 105, um1 106, um1 107, um1 108, um1 109, um1 110, um1 111, um1 112, um1 113, um1 114, um1 115, um1 116, um1 117, um1 118, um1 119, um1 120, um1 121, um1 122, um1 123, um1 124, um1 125, um1 126, um1 127, um1 128, us1 146, us1 147, us1 148, us1 149, us1 150, us1 151, us1 152, us1 153, us1 154, us1 155, us1 156, us1 157, us1 158, us1 159, us1 160, us1 161, us1 162, us1 163, us1 164, us1 165, us1 166, us1 167, us1 168, us1 169, us1 170, us1 171, us1 172, us1 173, us1 174, us1 175, us1 176, us1 177, us1 178, us1 179, us1 180, us1 181, us1 182, us1 183, us1 184, us1 185, us1 186, us1 187, us1 188, us1 189, us1 190, us1 191, us1 192, us1 193, us1 194, us1 195, us1 196, us1 197, us1 198, us1 199, us1 200, us1 201, us1 202, us1 203, us1 204, us1 205, us1 206, us1 207, us1 208, us1 209, us1 210, us1 211, us1 212, us1 213, us1 214, us1 215, us1 216, us1 217, us1 218, us1 219, us1 220, us1 221, us1 222, us1 223, us1 224, us1 225, us1 226, us1 227, us1 228, us1 229, us1 230, us1 231, us1 232, us1 233, us1 234, us1 235, us1 236, us1 237, us1 238, us1 239, us1 240, us1 241, us1 242, us1 243, us1 244, us1 245, us1 246, us1 247].toArray, []⟩ ∧ Bd (j + 1) x2 ∧ Gro w wv ∧ Bth w.heap.size [] wv p r id x2 x2) ?tm1 ?hm1
  case tm1 =>
    clear GG HB kg2
    rintro az wv ⟨x2, um1, rfl, hbd2, GG, HB⟩
    have hb3 := hbd2.k
    have hb4 := hbd2.c
    refine wp_seq (wp_region_lit (mv 167 (pK p 0) ?_))
    refine nr ?_; intro U h; simp only [z0, z1] at h; subst h
    have HB9 := HB
    obtain ⟨mu9, tb9, _, _, HM, _⟩ := HB9
    refine jz 168 rfl rfl _ 23 Try.call23 rfl rfl _ rfl [pK p 0] rfl (pair_x _ p id x2 mu9 tb9 HM) ?_
    intro w8 G
    replace HB := HB.gro G
    replace GG := GG.trans G
    clear G
    refine nr ?_; intro U h; simp only [z0, z1] at h; subst h
    clear HM
    refine mv 166 (.tuple #[.agg (c29 x2.mi x2.mn), .agg (c29 x2.pi x2.pn)]) (mv 169 (.agg (c29 x2.mi x2.mn)) (mv 170 (.agg (c29 x2.pi x2.pn)) ?_))
    refine nr ?_; intro U h; simp only [z0, z1] at h; subst h
    refine jq 18 rfl rfl 29 rfl _ zv29 _ rfl ?_
    intro w9 g3 G eg3 kg3
    have bg3 := jm GG eg3
    replace HB := HB.gro G
    replace GG := GG.trans G
    clear G eg3
    refine jq 19 rfl rfl 29 rfl _ zv29 _ rfl ?_
    intro w10 g4 G eg4 kg4
    have bg4 := jm GG eg4
    have dg3g4 := je kg3 eg4
    replace kg3 := G.has kg3
    replace HB := HB.gro G
    replace GG := GG.trans G
    clear G eg4
    refine jn rfl rfl 29 _ _ rfl g3 0 rfl (.agg (c29 x2.mi x2.mn)) rfl 29 _ kg3 (c29 x2.mi x2.mn) rfl (by kernel_rfl) (nlB rfl) (by kernel_rfl) (c29 x2.mi x2.mn) (by kernel_rfl) ?_
    intro w12 St
    replace kg4 := St.has (by omega) kg4
    replace HB := HB.stT (by decide) (by decide) (by decide) (by decide) (by decide) kg3 St
    replace GG := GG.store St bg3
    replace kg3 := St.new
    clear St
    refine jn rfl rfl 29 _ _ rfl g4 0 rfl (.agg (c29 x2.pi x2.pn)) rfl 29 _ kg4 (c29 x2.pi x2.pn) rfl (by kernel_rfl) (nlB rfl) (by kernel_rfl) (c29 x2.pi x2.pn) (by kernel_rfl) ?_
    intro w14 St
    replace kg3 := St.has (by omega) kg3
    replace HB := HB.stT (by decide) (by decide) (by decide) (by decide) (by decide) kg4 St
    replace GG := GG.store St bg4
    replace kg4 := St.new
    clear St
    refine wpList_nil (jc (wp_seq (wp_region_lit ?_)))
    cases hop2 : x2.op
    refine mv 172 (pK p 0) ?_
    refine nr ?_; intro U h; simp only [z0, z1] at h; subst h
    have HB9 := HB
    obtain ⟨mu9, tb9, _, _, HM, _⟩ := HB9
    refine jz 173 rfl rfl _ 24 Try.call24 rfl rfl _ rfl [pK p 0] rfl (open_xf _ p id x2 mu9 tb9 HM hop2) ?_
    intro w15 G
    replace kg3 := G.has kg3
    replace kg4 := G.has kg4
    replace HB := HB.gro G
    replace GG := GG.trans G
    clear G
    refine nr ?_; intro U h; simp only [z0, z1] at h; subst h
    clear HM
    refine mv 171 (.tuple #[.agg (c23 zF), vFa]) (mv 174 (.agg (c23 zF)) (mv 175 (vFa) ?_))
    refine nr ?_; intro U h; simp only [z0, z1] at h; subst h
    refine jq 20 rfl rfl 23 rfl _ zv23 _ rfl ?_
    intro w16 g5 G eg5 kg5
    have bg5 := jm GG eg5
    have dg3g5 := je kg3 eg5
    have dg4g5 := je kg4 eg5
    replace kg3 := G.has kg3
    replace kg4 := G.has kg4
    replace HB := HB.gro G
    replace GG := GG.trans G
    clear G eg5
    refine jn rfl rfl 23 _ _ rfl g5 0 rfl (.agg (c23 zF)) rfl 23 _ kg5 (c23 zF) rfl (by kernel_rfl) (nlB rfl) (by kernel_rfl) (c23 zF) (by kernel_rfl) ?_
    intro w18 St
    replace kg3 := St.has (by omega) kg3
    replace kg4 := St.has (by omega) kg4
    replace HB := HB.stT (by decide) (by decide) (by decide) (by decide) (by decide) kg5 St
    replace GG := GG.store St bg5
    replace kg5 := St.new
    clear St
    refine mv 21 (vFa) (wpList_nil (jc (wp_seq (wp_region_lit (mv 177 (pK p 0) ?_)))))
    refine nr ?_; intro U h; simp only [z0, z1] at h; subst h
    have HB9 := HB
    obtain ⟨mu9, tb9, _, _, HM, _⟩ := HB9
    refine jD 178 rfl rfl _ 25 Try.call25 rfl rfl _ rfl [pK p 0] rfl (uK _ p id x2 mu9 tb9 HM (by omega) (by omega)) (fun _ _ ⟨_, _, _, he, _⟩ => ⟨_, he⟩) ?_
    rintro v w19 ⟨gr, rr, MA, he, G, hr, HA⟩
    cases he
    clear HM
    have hrl : rr.length = x2.q.length := by rw [← hr, List.length_map]
    replace kg3 := G.has kg3
    replace kg4 := G.has kg4
    replace kg5 := G.has kg5
    replace HB := HB.gro G
    replace GG := GG.trans G
    clear G
    refine mv 176 (.tuple #[iK ((x2.k + 1 : Nat) : Int), .slice (some ⟨gr, 0, none⟩) rr.length rr.length, iK ((x2.c : Nat) : Int)]) (mv 179 (iK ((x2.k + 1 : Nat) : Int)) ?_)
    refine nr ?_; intro U h; simp only [z0, z1] at h; subst h
    refine mv 180 (.slice (some ⟨gr, 0, none⟩) rr.length rr.length) (mv 181 (iK ((x2.c : Nat) : Int)) (mv 22 (iK ((x2.k + 1 : Nat) : Int)) ?_))
    refine nr ?_; intro U h; simp only [z0, z1] at h; subst h
    refine mv 23 (.slice (some ⟨gr, 0, none⟩) rr.length rr.length) (mv 24 (iK ((x2.c : Nat) : Int)) (wpList_nil (jc (wp_seq (wp_region_lit (mv 183 (pK r 0) ?_))))))
    refine nr ?_; intro U h; simp only [z0, z1] at h; subst h
    refine sv 184 (pK r 0) (jj _ rfl _ rfl) (sv 185 (pK r 38) (jd 34 _ 6 rfl _ _ rfl _) ?_)
    refine nr ?_; intro U h; simp only [z0, z1] at h; subst h
    obtain ⟨mu9, tb9, _, _, HM, HD, hB9⟩ := HB
    have HD9 := HD
    obtain ⟨B, so, sc, u, HX, hku, hqu, _, _⟩ := HD9
    have hlu := yq hqu hku
    have hld : (u.drop x2.k).length = x2.q.length := by rw [← hqu, List.length_map]
    refine jz 186 rfl rfl _ 26 Try.call26 rfl rfl _ rfl [pK r 38] rfl (yD _ r B id x2.up x2.op x2.mi x2.mn x2.pi x2.pn x2.oth so sc u x2.k x2.c HX hku (by omega) (by omega)) ?_
    intro w20 G
    replace kg3 := G.has kg3
    replace kg4 := G.has kg4
    replace kg5 := G.has kg5
    replace HA := HA.gro G
    replace HM := HM.gro G
    replace HD := HD.gro G
    replace HX := HX.gro G
    replace GG := GG.trans G
    clear G
    refine mv 182 (.tuple #[iK ((x2.k + 1 : Nat) : Int), .slice (if sc = x2.k then so else so.map (·.add (x2.k * 1))) ((u.drop x2.k).length) (sc - x2.k)]) (mv 187 (iK ((x2.k + 1 : Nat) : Int)) ?_)
    refine nr ?_; intro U h; simp only [z0, z1] at h; subst h
    refine mv 188 (.slice (if sc = x2.k then so else so.map (·.add (x2.k * 1))) ((u.drop x2.k).length) (sc - x2.k)) (mv 25 (iK ((x2.k + 1 : Nat) : Int)) (mv 26 (.slice (if sc = x2.k then so else so.map (·.add (x2.k * 1))) ((u.drop x2.k).length) (sc - x2.k)) ?_))
    refine nr ?_; intro U h; simp only [z0, z1] at h; subst h
    refine wpList_nil (jc (wp_seq ?_))
    have kr := HX.box
    rw [hop2] at kr
    refine jk (A := ?Ax1) 76 [(0, 189), (1, 190), (2, 191), (3, 192), (4, 193), (5, 194), (6, 195), (7, 196), (8, 197), (9, 198), (10, 199), (11, 200), (12, 201), (13, 202), (14, 203), (15, 204), (16, 205), (17, 206), (18, 207), (19, 208), (20, 209), (21, 210), (22, 211), (23, 212), (24, 213), (25, 214), (26, 215), (27, 216), (28, 217), (29, 218), (30, 219), (31, 220), (32, 221), (33, 222), (34, 223), (35, 224), (36, 225), (37, 226), (38, 227), (39, 228), (40, 229), (41, 230), (42, 231), (43, 232), (44, 233), (45, 234), (46, 235), (47, 236), (48, 237), (49, 238), (50, 239), (51, 240), (52, 241), (53, 242), (54, 243), (55, 244), (56, 245), (57, 246), (58, 247), (59, 248), (60, 249), (61, 250), (62, 251), (63, 252), (64, 253), (65, 254), (66, 255), (67, 256), (68, 257), (69, 258), (70, 259), (71, 260), (72, 261), (73, 262), (74, 263), (75, 264)] [.val (pK p 0), .val (iK ((x2.q.length : Nat) : Int)), .val (.slice (if sc = x2.k then so else so.map (·.add (x2.k * 1))) ((u.drop x2.k).length) (sc - x2.k)), .val (iK (((u.drop x2.k).length : Nat) : Int)), .val (vFa), .val (vFa), .val (pK p 0), .val (.bool x2.up), .val (pK r 0), .val (pK r 0), .val (pK r 16), .val (.bool x2.up), .val (vFa), .val (vFa), .val (vFa), .val (.agg (c29 x2.mi x2.mn)), .val (pK r 0), .val (pK r 0), .val (pK r 18), .val (.agg (c29 x2.mi x2.mn)), .val (vFa), .val (vFa), .val (vFa), .val (.agg (c29 x2.pi x2.pn)), .val (pK r 0), .val (pK r 0), .val (pK r 20), .val (.agg (c29 x2.pi x2.pn)), .val (vFa), .val (vFa), .val (vFa), .val (vFa), .val (pK r 0), .val (pK r 0), .val (pK r 17), .val (vFa), .val (vFa), .val (vFa), .val (vFa), .val (vFa), .val (vFa), .val undef, .val undef, .val undef, .val undef, .val undef, .val undef, .val (vFa), .val (vFa), .val (vFa), .val (vFa), .val (vTr), .val (vTr), .val (.agg (c23 zF)), .val (.agg (c23 zF)), .val (vFa), .val (vFa), .val (vFa), .val (vFa), .val (iK ((x2.k + 1 : Nat) : Int)), .val (iK ((x2.k + 1 : Nat) : Int)), .val (vFa), .val (vFa), .val (vFa), .val (.slice (some ⟨gr, 0, none⟩) rr.length rr.length), .val (.slice (if sc = x2.k then so else so.map (·.add (x2.k * 1))) ((u.drop x2.k).length) (sc - x2.k)), .val (vTr), .val (vFa), .val (vFa), .val (vFa), .val (iK ((x2.c : Nat) : Int)), .val (pK r 0), .val (pK r 0), .val (pK r 38), .val (pK r 40), .val (iK ((x2.c : Nat) : Int))] follows (by kernel_rfl) rfl ?hAx1 (ja ?o0x1 (ja ?o1x1 (ja ?o2x1 (ja ?o3x1 (ja ?o4x1 (ja ?o5x1 (ja ?o6x1 (ja ?o7x1 (ja ?o8x1 (ja ?o9x1 (ja ?o10x1 (ja ?o11x1 (ja ?o12x1 (ja ?o13x1 (ja ?o14x1 (ja ?o15x1 (ja ?o16x1 (ja ?o17x1 (ja ?o18x1 (ja ?o19x1 (ja ?o20x1 (ja ?o21x1 (ja ?o22x1 (ja ?o23x1 (ja ?o24x1 (ja ?o25x1 (ja ?o26x1 (ja ?o27x1 (ja ?o28x1 (ja ?o29x1 (ja ?o30x1 (ja ?o31x1 (ja ?o32x1 (ja ?o33x1 (ja ?o34x1 (ja ?o35x1 (ja ?o36x1 (ja ?o37x1 (ja ?o38x1 (ja ?o39x1 (ja ?o40x1 (ja ?o41x1 (ja ?o42x1 (ja ?o43x1 (ja ?o44x1 (ja ?o45x1 (ja ?o46x1 (ja ?o47x1 (ja ?o48x1 (ja ?o49x1 (ja ?o50x1 (ja ?o51x1 (ja ?o52x1 (ja ?o53x1 (ja ?o54x1 (ja ?o55x1 (ja ?o56x1 (ja ?o57x1 (ja ?o58x1 (ja ?o59x1 (ja ?o60x1 (ja ?o61x1 (ja ?o62x1 (ja ?o63x1 (ja ?o64x1 (ja ?o65x1 (ja ?o66x1 (ja ?o67x1 (ja ?o68x1 (ja ?o69x1 (ja ?o70x1 (ja ?o71x1 (ja ?o72x1 (ja ?o73x1 (ja ?o74x1 (ja ?o75x1 jw)))))))))))))))))))))))))))))))))))))))))))))))))))))))))))))))))))))))))))) ?restx1
    case hAx1 =>
      intro ptrs
      simp only [full, foldSlots, filledE, postE, List.foldl_cons, List.foldl_nil, List.getD_cons_zero, List.getD_cons_succ, jr, List.set_cons_zero, List.set_cons_succ]
      exact rfl
    case o0x1 => exact fun _ _ _ _ => jg (v := pK p 0) _ rfl rfl rfl
    case o1x1 => exact fun _ _ hw _ => jT (.val (iK ((x2.q.length : Nat) : Int))) rfl _ 27 Try.call27 rfl rfl _ rfl [pK p 0] rfl ((vW _ p id x2 mu9 tb9 (HM.gro ((Gro.refl _).drew.trans hw)) (by omega) (by omega)).mono fun e w' ⟨he, hg⟩ => ⟨_, he, hg, rfl⟩)
    case o2x1 => exact fun _ _ _ _ => jg (v := .slice (if sc = x2.k then so else so.map (·.add (x2.k * 1))) ((u.drop x2.k).length) (sc - x2.k)) _ rfl rfl rfl
    case o3x1 => exact fun _ _ hw _ => jb (v := iK (((u.drop x2.k).length : Nat) : Int)) rfl (jM Try.underlying30 _ rfl _ _ _ rfl _)
    case o4x1 => exact fun _ _ hw _ => jb (v := vFa) rfl (jP 3 .i64 _ _ _ rfl Try.underlying3 ((x2.q.length : Nat) : Int) (((u.drop x2.k).length : Nat) : Int) rfl rfl false (decide_eq_true (by rw [hld])) _)
    case o5x1 => exact fun _ _ _ _ => jg (v := vFa) _ rfl rfl rfl
    case o6x1 => exact fun _ _ _ _ => jg (v := pK p 0) _ rfl rfl rfl
    case o7x1 => exact fun _ _ hw _ => jT (.val (.bool x2.up)) rfl _ 28 Try.call28 rfl rfl _ rfl [pK p 0] rfl ((up_x _ p id x2 mu9 tb9 (HM.gro ((Gro.refl _).drew.trans hw))).mono fun e w' ⟨he, hg⟩ => ⟨_, he, hg, rfl⟩)
    case o8x1 => exact fun _ _ _ _ => jg (v := pK r 0) _ rfl rfl rfl
    case o9x1 => exact fun _ _ hw _ => jb (v := pK r 0) rfl (jj _ rfl _ rfl)
    case o10x1 => exact fun _ _ hw _ => jb (v := pK r 16) rfl (jd 34 _ 1 rfl _ _ rfl _)
    case o11x1 => exact fun _ _ hw _ => jb (v := .bool x2.up) rfl (jh 4 _ rfl r 16 rfl 34 _ (hw.has kr) (na4 _) _ rfl)
    case o12x1 => exact fun _ _ hw _ => jb (v := vFa) rfl (yc 4 _ _ _ rfl x2.up x2.up rfl rfl Try.underlying4 false (decide_eq_true rfl) _)
    case o13x1 => exact fun _ _ _ _ => zc (v := vFa) _ _ _ rfl rfl false rfl rfl
    case o14x1 => exact fun _ _ _ _ => jg (v := vFa) _ rfl rfl rfl
    case o15x1 => exact fun _ _ hw _ => jb (v := .agg (c29 x2.mi x2.mn)) rfl (jf 29 _ rfl g3 0 2 rfl 29 _ (hw.has kg3) _ Try.underlying29 rfl si29 _)
    case o16x1 => exact fun _ _ _ _ => jg (v := pK r 0) _ rfl rfl rfl
    case o17x1 => exact fun _ _ hw _ => jb (v := pK r 0) rfl (jj _ rfl _ rfl)
    case o18x1 => exact fun _ _ hw _ => jb (v := pK r 18) rfl (jd 34 _ 3 rfl _ _ rfl _)
    case o19x1 => exact fun _ _ hw _ => jb (v := .agg (c29 x2.mi x2.mn)) rfl (jf 29 _ rfl r 18 2 rfl 34 _ (hw.has kr) _ Try.underlying29 rfl si29 _)
    case o20x1 => exact fun _ _ hw _ => jb (v := vFa) rfl (zq _ _ _ rfl x2.mi x2.mn x2.mi x2.mn rfl rfl false (by simp) _)
    case o21x1 => exact fun _ _ _ _ => zc (v := vFa) _ _ _ rfl rfl false rfl rfl
    case o22x1 => exact fun _ _ _ _ => jg (v := vFa) _ rfl rfl rfl
    case o23x1 => exact fun _ _ hw _ => jb (v := .agg (c29 x2.pi x2.pn)) rfl (jf 29 _ rfl g4 0 2 rfl 29 _ (hw.has kg4) _ Try.underlying29 rfl si29 _)
    case o24x1 => exact fun _ _ _ _ => jg (v := pK r 0) _ rfl rfl rfl
    case o25x1 => exact fun _ _ hw _ => jb (v := pK r 0) rfl (jj _ rfl _ rfl)
    case o26x1 => exact fun _ _ hw _ => jb (v := pK r 20) rfl (jd 34 _ 4 rfl _ _ rfl _)
    case o27x1 => exact fun _ _ hw _ => jb (v := .agg (c29 x2.pi x2.pn)) rfl (jf 29 _ rfl r 20 2 rfl 34 _ (hw.has kr) _ Try.underlying29 rfl si29 _)
    case o28x1 => exact fun _ _ hw _ => jb (v := vFa) rfl (zq _ _ _ rfl x2.pi x2.pn x2.pi x2.pn rfl rfl false (by simp) _)
    case o29x1 => exact fun _ _ _ _ => zc (v := vFa) _ _ _ rfl rfl false rfl rfl
    case o30x1 => exact fun _ _ _ _ => jg (v := vFa) _ rfl rfl rfl
    case o31x1 => exact fun _ _ _ _ => jg (v := vFa) _ rfl rfl rfl
    case o32x1 => exact fun _ _ _ _ => jg (v := pK r 0) _ rfl rfl rfl
    case o33x1 => exact fun _ _ hw _ => jb (v := pK r 0) rfl (jj _ rfl _ rfl)
    case o34x1 => exact fun _ _ hw _ => jb (v := pK r 17) rfl (jd 34 _ 2 rfl _ _ rfl _)
    case o35x1 => exact fun _ _ hw _ => jb (v := vFa) rfl (jh 4 _ rfl r 17 rfl 34 _ (hw.has kr) (na4 _) _ rfl)
    case o36x1 => exact fun _ _ hw _ => jb (v := vFa) rfl (yc 4 _ _ _ rfl false false rfl rfl Try.underlying4 false (decide_eq_true rfl) _)
    case o37x1 => exact fun _ _ _ _ => zc (v := vFa) _ _ _ rfl rfl false rfl rfl
    case o38x1 => exact fun _ _ _ _ => jg (v := vFa) _ rfl rfl rfl
    case o39x1 => exact fun _ _ _ _ => jg (v := vFa) _ rfl rfl rfl
    case o40x1 => exact fun _ _ _ _ => jg (v := vFa) _ rfl rfl rfl
    case o41x1 => exact fun _ _ _ _ => jO rfl
    case o42x1 => exact fun _ _ _ _ => jO rfl
    case o43x1 => exact fun _ _ _ _ => jO rfl
    case o44x1 => exact fun _ _ _ _ => jO rfl
    case o45x1 => exact fun _ _ _ _ => jO rfl
    case o46x1 => exact fun _ _ _ _ => jO rfl
    case o47x1 => exact fun _ _ _ _ => zc (v := vFa) _ _ _ rfl rfl false rfl rfl
    case o48x1 => exact fun _ _ _ _ => zc (v := vFa) _ _ _ rfl rfl false rfl rfl
    case o49x1 => exact fun _ _ _ _ => jg (v := vFa) _ rfl rfl rfl
    case o50x1 => exact fun _ _ _ _ => jg (v := vFa) _ rfl rfl rfl
    case o51x1 => exact fun _ _ hw _ => jb (v := vTr) rfl (jE _ _ rfl false rfl)
    case o52x1 => exact fun _ _ _ _ => jg (v := vTr) _ rfl rfl rfl
    case o53x1 => exact fun _ _ hw _ => jb (v := .agg (c23 zF)) rfl (jf 23 _ rfl g5 0 16 rfl 23 _ (hw.has kg5) _ Try.underlying23 rfl si23 _)
    case o54x1 => exact fun _ _ hw _ => jb (v := .agg (c23 zF)) rfl (jy 23 _ rfl [] rfl _ (by kernel_rfl))
    case o55x1 => exact fun _ _ hw _ => jb (v := vFa) rfl (zv .neq 23 _ _ _ rfl _ _ rfl rfl (by kernel_rfl) _ ((ne23 zF zF _).trans (by rw [decide_eq_true rfl]; rfl)))
    case o56x1 => exact fun _ _ _ _ => zc (v := vFa) _ _ _ rfl rfl true rfl rfl
    case o57x1 => exact fun _ _ _ _ => zc (v := vFa) _ _ _ rfl rfl false rfl rfl
    case o58x1 => exact fun _ _ _ _ => jg (v := vFa) _ rfl rfl rfl
    case o59x1 => exact fun _ _ _ _ => jg (v := iK ((x2.k + 1 : Nat) : Int)) _ rfl rfl rfl
    case o60x1 => exact fun _ _ _ _ => jg (v := iK ((x2.k + 1 : Nat) : Int)) _ rfl rfl rfl
    case o61x1 => exact fun _ _ hw _ => jb (v := vFa) rfl (jP 2 .i64 _ _ _ rfl Try.underlying2 ((x2.k + 1 : Nat) : Int) ((x2.k + 1 : Nat) : Int) rfl rfl false (decide_eq_true (rfl)) _)
    case o62x1 => exact fun _ _ _ _ => zc (v := vFa) _ _ _ rfl rfl false rfl rfl
    case o63x1 => exact fun _ _ _ _ => jg (v := vFa) _ rfl rfl rfl
    case o64x1 => exact fun _ _ _ _ => jg (v := .slice (some ⟨gr, 0, none⟩) rr.length rr.length) _ rfl rfl rfl
    case o65x1 => exact fun _ _ _ _ => jg (v := .slice (if sc = x2.k then so else so.map (·.add (x2.k * 1))) ((u.drop x2.k).length) (sc - x2.k)) _ rfl rfl rfl
    case o66x1 => exact fun _ _ hw _ => jT (.val (vTr)) rfl _ 29 Try.call29 rfl rfl _ rfl [.slice (some ⟨gr, 0, none⟩) rr.length rr.length, .slice (if sc = x2.k then so else so.map (·.add (x2.k * 1))) ((u.drop x2.k).length) (sc - x2.k)] rfl ((vY _ (some ⟨gr, 0, none⟩) rr.length _ (HA.gro ((Gro.refl _).drew.trans hw)).lc _ _ _ ((HX.gro ((Gro.refl _).drew.trans hw)).lcd x2.k hku) rr.length _ (by simp) (by simp) (by omega) (hr.trans hqu.symm)).mono fun e w' ⟨he, hg⟩ => ⟨_, he, hg, rfl⟩)
    case o67x1 => exact fun _ _ hw _ => jb (v := vFa) rfl (jE _ _ rfl true rfl)
    case o68x1 => exact fun _ _ _ _ => zc (v := vFa) _ _ _ rfl rfl false rfl rfl
    case o69x1 => exact fun _ _ _ _ => jg (v := vFa) _ rfl rfl rfl
    case o70x1 => exact fun _ _ _ _ => jg (v := iK ((x2.c : Nat) : Int)) _ rfl rfl rfl
    case o71x1 => exact fun _ _ _ _ => jg (v := pK r 0) _ rfl rfl rfl
    case o72x1 => exact fun _ _ hw _ => jb (v := pK r 0) rfl (jj _ rfl _ rfl)
    case o73x1 => exact fun _ _ hw _ => jb (v := pK r 38) rfl (jd 34 _ 6 rfl _ _ rfl _)
    case o74x1 => exact fun _ _ hw _ => jb (v := pK r 40) rfl (jd 32 _ 2 rfl _ _ rfl _)
    case o75x1 => exact fun _ _ hw _ => jb (v := iK ((x2.c : Nat) : Int)) rfl (jh 2 _ rfl r 40 rfl 34 _ (hw.has kr) (na2 _) _ rfl)
    intro ptrs w21 GD hxE
    simp only
    replace kg3 := GD.has kg3
    replace kg4 := GD.has kg4
    replace kg5 := GD.has kg5
    replace kr := GD.has kr
    replace HA := HA.gro ((Gro.refl _).drew.trans GD)
    replace HM := HM.gro ((Gro.refl _).drew.trans GD)
    replace HD := HD.gro ((Gro.refl _).drew.trans GD)
    replace HX := HX.gro ((Gro.refl _).drew.trans GD)
    replace GG := GG.drew.trans GD
    have HB : Bth w.heap.size [] _ p r id x2 x2 := ⟨mu9, tb9, _, _, HM, HD, hB9⟩
    clear GD
    refine jI 265 rfl rfl (vFa) (jP 2 .i64 _ _ _ rfl Try.underlying2 ((x2.c : Nat) : Int) ((x2.c : Nat) : Int) rfl rfl false (decide_eq_true (rfl)) _) (mv 266 (vFa) (wpList_nil (jc (wp_cond_false rfl (wp_skip (zh (jc (wp_region_lit (sv 267 (iK ((j + 1 : Nat) : Int)) (jZ 3 _ _ _ rfl ((j : Nat) : Int) 1 ((j + 1 : Nat) : Int) rfl rfl (by omega) (by omega) (by omega) _) ?_)))))))))
    refine nr ?_; intro U h; simp only [z0, z1] at h; subst h
    refine mv 40 (iK ((j + 1 : Nat) : Int)) (wpList_nil (jc ?_))
    exact ⟨_, (by omega : os.length - (j + 1) < os.length - j), j + 1, x2, usB [4, 7, 8, 9, 10, 11, 12, 13, 14, 15, 16, 17, 18, 19, 20, 21, 22, 23, 24, 25, 26, 41, 42, 43, 44, 45, 46, 47, 48, 49, 50, 51, 52, 53, 54, 55, 56, 57, 58, 59, 60, 61, 62, 63, 64, 65, 66, 67, 68, 69, 70, 71, 72, 73, 74, 75, 76, 77, 78, 79, 80, 81, 82, 83, 84, 85, 86, 87, 88, 89, 90, 91, 92, 93, 94, 95, 96, 97, 98, 99, 100, 101, 102, 103, 104, 105, 106, 107, 108, 109, 110, 111, 112, 113, 114, 115, 116, 117, 118, 119, 120, 121, 122, 123, 124, 125, 126, 127, 128, 129, 130, 131, 132, 133, 134, 135, 136, 137, 138, 139, 140, 141, 142, 143, 144, 145, 146, 147, 148, 149, 150, 151, 152, 153, 154, 155, 156, 157, 158, 159, 160, 161, 162, 163, 164, 165, 166, 167, 168, 169, 170, 171, 172, 173, 174, 175, 176, 177, 178, 179, 180, 181, 182, 183, 184, 185, 186, 187, 188, 189, 190, 191, 192, 193, 194, 195, 196, 197, 198, 199, 200, 201, 202, 203, 204, 205, 206, 207, 208, 209, 210, 211, 212, 213, 214, 215, 216, 217, 218, 219, 220, 221, 222, 223, 224, 225, 226, 227, 228, 229, 230, 231, 232, 233, 234, 235, 236, 237, 238, 239, 240, 241, 242, 243, 244, 245, 246, 247, 248, 249, 250, 251, 252, 253, 254, 255, 256, 257, 258, 259, 260, 261, 262, 263, 264, 265, 266, 267] rfl rfl ⟨hjn, (by omega), hbd2, GG, HB⟩⟩
    refine mv 172 (pK p 0) ?_
    refine nr ?_; intro U h; simp only [z0, z1] at h; subst h
    have HB9 := HB
    obtain ⟨mu9, tb9, _, _, HM, _⟩ := HB9
    refine jz 173 rfl rfl _ 24 Try.call24 rfl rfl _ rfl [pK p 0] rfl (open_xt _ p id x2 mu9 tb9 HM hop2) ?_
    intro w15 G
    replace kg3 := G.has kg3
    replace kg4 := G.has kg4
    replace HB := HB.gro G
    replace GG := GG.trans G
    clear G
    refine nr ?_; intro U h; simp only [z0, z1] at h; subst h
    clear HM
    refine mv 171 (.tuple #[.agg (c23 x2.oth), vTr]) (mv 174 (.agg (c23 x2.oth)) (mv 175 (vTr) ?_))
    refine nr ?_; intro U h; simp only [z0, z1] at h; subst h
    refine jq 20 rfl rfl 23 rfl _ zv23 _ rfl ?_
    intro w16 g5 G eg5 kg5
    have bg5 := jm GG eg5
    have dg3g5 := je kg3 eg5
    have dg4g5 := je kg4 eg5
    replace kg3 := G.has kg3
    replace kg4 := G.has kg4
    replace HB := HB.gro G
    replace GG := GG.trans G
    clear G eg5
    refine jn rfl rfl 23 _ _ rfl g5 0 rfl (.agg (c23 x2.oth)) rfl 23 _ kg5 (c23 x2.oth) rfl (by kernel_rfl) (nlB rfl) (by kernel_rfl) (c23 x2.oth) (by kernel_rfl) ?_
    intro w18 St
    replace kg3 := St.has (by omega) kg3
    replace kg4 := St.has (by omega) kg4
    replace HB := HB.stT (by decide) (by decide) (by decide) (by decide) (by decide) kg5 St
    replace GG := GG.store St bg5
    replace kg5 := St.new
    clear St
    refine mv 21 (vTr) (wpList_nil (jc (wp_seq (wp_region_lit (mv 177 (pK p 0) ?_)))))
    refine nr ?_; intro U h; simp only [z0, z1] at h; subst h
    have HB9 := HB
    obtain ⟨mu9, tb9, _, _, HM, _⟩ := HB9
    refine jD 178 rfl rfl _ 25 Try.call25 rfl rfl _ rfl [pK p 0] rfl (uK _ p id x2 mu9 tb9 HM (by omega) (by omega)) (fun _ _ ⟨_, _, _, he, _⟩ => ⟨_, he⟩) ?_
    rintro v w19 ⟨gr, rr, MA, he, G, hr, HA⟩
    cases he
    clear HM
    have hrl : rr.length = x2.q.length := by rw [← hr, List.length_map]
    replace kg3 := G.has kg3
    replace kg4 := G.has kg4
    replace kg5 := G.has kg5
    replace HB := HB.gro G
    replace GG := GG.trans G
    clear G
    refine mv 176 (.tuple #[iK ((x2.k + 1 : Nat) : Int), .slice (some ⟨gr, 0, none⟩) rr.length rr.length, iK ((x2.c : Nat) : Int)]) (mv 179 (iK ((x2.k + 1 : Nat) : Int)) ?_)
    refine nr ?_; intro U h; simp only [z0, z1] at h; subst h
    refine mv 180 (.slice (some ⟨gr, 0, none⟩) rr.length rr.length) (mv 181 (iK ((x2.c : Nat) : Int)) (mv 22 (iK ((x2.k + 1 : Nat) : Int)) ?_))
    refine nr ?_; intro U h; simp only [z0, z1] at h; subst h
    refine mv 23 (.slice (some ⟨gr, 0, none⟩) rr.length rr.length) (mv 24 (iK ((x2.c : Nat) : Int)) (wpList_nil (jc (wp_seq (wp_region_lit (mv 183 (pK r 0) ?_))))))
    refine nr ?_; intro U h; simp only [z0, z1] at h; subst h
    refine sv 184 (pK r 0) (jj _ rfl _ rfl) (sv 185 (pK r 38) (jd 34 _ 6 rfl _ _ rfl _) ?_)
    refine nr ?_; intro U h; simp only [z0, z1] at h; subst h
    obtain ⟨mu9, tb9, _, _, HM, HD, hB9⟩ := HB
    have HD9 := HD
    obtain ⟨B, so, sc, u, HX, hku, hqu, _, _⟩ := HD9
    have hlu := yq hqu hku
    have hld : (u.drop x2.k).length = x2.q.length := by rw [← hqu, List.length_map]
    refine jz 186 rfl rfl _ 26 Try.call26 rfl rfl _ rfl [pK r 38] rfl (yD _ r B id x2.up x2.op x2.mi x2.mn x2.pi x2.pn x2.oth so sc u x2.k x2.c HX hku (by omega) (by omega)) ?_
    intro w20 G
    replace kg3 := G.has kg3
    replace kg4 := G.has kg4
    replace kg5 := G.has kg5
    replace HA := HA.gro G
    replace HM := HM.gro G
    replace HD := HD.gro G
    replace HX := HX.gro G
    replace GG := GG.trans G
    clear G
    refine mv 182 (.tuple #[iK ((x2.k + 1 : Nat) : Int), .slice (if sc = x2.k then so else so.map (·.add (x2.k * 1))) ((u.drop x2.k).length) (sc - x2.k)]) (mv 187 (iK ((x2.k + 1 : Nat) : Int)) ?_)
    refine nr ?_; intro U h; simp only [z0, z1] at h; subst h
    refine mv 188 (.slice (if sc = x2.k then so else so.map (·.add (x2.k * 1))) ((u.drop x2.k).length) (sc - x2.k)) (mv 25 (iK ((x2.k + 1 : Nat) : Int)) (mv 26 (.slice (if sc = x2.k then so else so.map (·.add (x2.k * 1))) ((u.drop x2.k).length) (sc - x2.k)) ?_))
    refine nr ?_; intro U h; simp only [z0, z1] at h; subst h
    refine wpList_nil (jc (wp_seq ?_))
    have kr := HX.box
    rw [hop2] at kr
    refine jk (A := ?Ax2) 76 [(0, 189), (1, 190), (2, 191), (3, 192), (4, 193), (5, 194), (6, 195), (7, 196), (8, 197), (9, 198), (10, 199), (11, 200), (12, 201), (13, 202), (14, 203), (15, 204), (16, 205), (17, 206), (18, 207), (19, 208), (20, 209), (21, 210), (22, 211), (23, 212), (24, 213), (25, 214), (26, 215), (27, 216), (28, 217), (29, 218), (30, 219), (31, 220), (32, 221), (33, 222), (34, 223), (35, 224), (36, 225), (37, 226), (38, 227), (39, 228), (40, 229), (41, 230), (42, 231), (43, 232), (44, 233), (45, 234), (46, 235), (47, 236), (48, 237), (49, 238), (50, 239), (51, 240), (52, 241), (53, 242), (54, 243), (55, 244), (56, 245), (57, 246), (58, 247), (59, 248), (60, 249), (61, 250), (62, 251), (63, 252), (64, 253), (65, 254), (66, 255), (67, 256), (68, 257), (69, 258), (70, 259), (71, 260), (72, 261), (73, 262), (74, 263), (75, 264)] [.val (pK p 0), .val (iK ((x2.q.length : Nat) : Int)), .val (.slice (if sc = x2.k then so else so.map (·.add (x2.k * 1))) ((u.drop x2.k).length) (sc - x2.k)), .val (iK (((u.drop x2.k).length : Nat) : Int)), .val (vFa), .val (vFa), .val (pK p 0), .val (.bool x2.up), .val (pK r 0), .val (pK r 0), .val (pK r 16), .val (.bool x2.up), .val (vFa), .val (vFa), .val (vFa), .val (.agg (c29 x2.mi x2.mn)), .val (pK r 0), .val (pK r 0), .val (pK r 18), .val (.agg (c29 x2.mi x2.mn)), .val (vFa), .val (vFa), .val (vFa), .val (.agg (c29 x2.pi x2.pn)), .val (pK r 0), .val (pK r 0), .val (pK r 20), .val (.agg (c29 x2.pi x2.pn)), .val (vFa), .val (vFa), .val (vFa), .val (vTr), .val (pK r 0), .val (pK r 0), .val (pK r 17), .val (vTr), .val (vFa), .val (vFa), .val (vFa), .val (vTr), .val (vTr), .val (.agg (c23 x2.oth)), .val (pK r 0), .val (pK r 0), .val (pK r 22), .val (.agg (c23 x2.oth)), .val (vFa), .val (vFa), .val (vFa), .val (vFa), .val (vTr), .val (vFa), .val (vFa), .val undef, .val undef, .val undef, .val (vFa), .val (vFa), .val (vFa), .val (iK ((x2.k + 1 : Nat) : Int)), .val (iK ((x2.k + 1 : Nat) : Int)), .val (vFa), .val (vFa), .val (vFa), .val (.slice (some ⟨gr, 0, none⟩) rr.length rr.length), .val (.slice (if sc = x2.k then so else so.map (·.add (x2.k * 1))) ((u.drop x2.k).length) (sc - x2.k)), .val (vTr), .val (vFa), .val (vFa), .val (vFa), .val (iK ((x2.c : Nat) : Int)), .val (pK r 0), .val (pK r 0), .val (pK r 38), .val (pK r 40), .val (iK ((x2.c : Nat) : Int))] follows (by kernel_rfl) rfl ?hAx2 (ja ?o0x2 (ja ?o1x2 (ja ?o2x2 (ja ?o3x2 (ja ?o4x2 (ja ?o5x2 (ja ?o6x2 (ja ?o7x2 (ja ?o8x2 (ja ?o9x2 (ja ?o10x2 (ja ?o11x2 (ja ?o12x2 (ja ?o13x2 (ja ?o14x2 (ja ?o15x2 (ja ?o16x2 (ja ?o17x2 (ja ?o18x2 (ja ?o19x2 (ja ?o20x2 (ja ?o21x2 (ja ?o22x2 (ja ?o23x2 (ja ?o24x2 (ja ?o25x2 (ja ?o26x2 (ja ?o27x2 (ja ?o28x2 (ja ?o29x2 (ja ?o30x2 (ja ?o31x2 (ja ?o32x2 (ja ?o33x2 (ja ?o34x2 (ja ?o35x2 (ja ?o36x2 (ja ?o37x2 (ja ?o38x2 (ja ?o39x2 (ja ?o40x2 (ja ?o41x2 (ja ?o42x2 (ja ?o43x2 (ja ?o44x2 (ja ?o45x2 (ja ?o46x2 (ja ?o47x2 (ja ?o48x2 (ja ?o49x2 (ja ?o50x2 (ja ?o51x2 (ja ?o52x2 (ja ?o53x2 (ja ?o54x2 (ja ?o55x2 (ja ?o56x2 (ja ?o57x2 (ja ?o58x2 (ja ?o59x2 (ja ?o60x2 (ja ?o61x2 (ja ?o62x2 (ja ?o63x2 (ja ?o64x2 (ja ?o65x2 (ja ?o66x2 (ja ?o67x2 (ja ?o68x2 (ja ?o69x2 (ja ?o70x2 (ja ?o71x2 (ja ?o72x2 (ja ?o73x2 (ja ?o74x2 (ja ?o75x2 jw)))))))))))))))))))))))))))))))))))))))))))))))))))))))))))))))))))))))))))) ?restx2
    case hAx2 =>
      intro ptrs
      simp only [full, foldSlots, filledE, postE, List.foldl_cons, List.foldl_nil, List.getD_cons_zero, List.getD_cons_succ, jr, List.set_cons_zero, List.set_cons_succ]
      exact rfl
    case o0x2 => exact fun _ _ _ _ => jg (v := pK p 0) _ rfl rfl rfl
    case o1x2 => exact fun _ _ hw _ => jT (.val (iK ((x2.q.length : Nat) : Int))) rfl _ 27 Try.call27 rfl rfl _ rfl [pK p 0] rfl ((vW _ p id x2 mu9 tb9 (HM.gro ((Gro.refl _).drew.trans hw)) (by omega) (by omega)).mono fun e w' ⟨he, hg⟩ => ⟨_, he, hg, rfl⟩)
    case o2x2 => exact fun _ _ _ _ => jg (v := .slice (if sc = x2.k then so else so.map (·.add (x2.k * 1))) ((u.drop x2.k).length) (sc - x2.k)) _ rfl rfl rfl
    case o3x2 => exact fun _ _ hw _ => jb (v := iK (((u.drop x2.k).length : Nat) : Int)) rfl (jM Try.underlying30 _ rfl _ _ _ rfl _)
    case o4x2 => exact fun _ _ hw _ => jb (v := vFa) rfl (jP 3 .i64 _ _ _ rfl Try.underlying3 ((x2.q.length : Nat) : Int) (((u.drop x2.k).length : Nat) : Int) rfl rfl false (decide_eq_true (by rw [hld])) _)
    case o5x2 => exact fun _ _ _ _ => jg (v := vFa) _ rfl rfl rfl
    case o6x2 => exact fun _ _ _ _ => jg (v := pK p 0) _ rfl rfl rfl
    case o7x2 => exact fun _ _ hw _ => jT (.val (.bool x2.up)) rfl _ 28 Try.call28 rfl rfl _ rfl [pK p 0] rfl ((up_x _ p id x2 mu9 tb9 (HM.gro ((Gro.refl _).drew.trans hw))).mono fun e w' ⟨he, hg⟩ => ⟨_, he, hg, rfl⟩)
    case o8x2 => exact fun _ _ _ _ => jg (v := pK r 0) _ rfl rfl rfl
    case o9x2 => exact fun _ _ hw _ => jb (v := pK r 0) rfl (jj _ rfl _ rfl)
    case o10x2 => exact fun _ _ hw _ => jb (v := pK r 16) rfl (jd 34 _ 1 rfl _ _ rfl _)
    case o11x2 => exact fun _ _ hw _ => jb (v := .bool x2.up) rfl (jh 4 _ rfl r 16 rfl 34 _ (hw.has kr) (na4 _) _ rfl)
    case o12x2 => exact fun _ _ hw _ => jb (v := vFa) rfl (yc 4 _ _ _ rfl x2.up x2.up rfl rfl Try.underlying4 false (decide_eq_true rfl) _)
    case o13x2 => exact fun _ _ _ _ => zc (v := vFa) _ _ _ rfl rfl false rfl rfl
    case o14x2 => exact fun _ _ _ _ => jg (v := vFa) _ rfl rfl rfl
    case o15x2 => exact fun _ _ hw _ => jb (v := .agg (c29 x2.mi x2.mn)) rfl (jf 29 _ rfl g3 0 2 rfl 29 _ (hw.has kg3) _ Try.underlying29 rfl si29 _)
    case o16x2 => exact fun _ _ _ _ => jg (v := pK r 0) _ rfl rfl rfl
    case o17x2 => exact fun _ _ hw _ => jb (v := pK r 0) rfl (jj _ rfl _ rfl)
    case o18x2 => exact fun _ _ hw _ => jb (v := pK r 18) rfl (jd 34 _ 3 rfl _ _ rfl _)
    case o19x2 => exact fun _ _ hw _ => jb (v := .agg (c29 x2.mi x2.mn)) rfl (jf 29 _ rfl r 18 2 rfl 34 _ (hw.has kr) _ Try.underlying29 rfl si29 _)
    case o20x2 => exact fun _ _ hw _ => jb (v := vFa) rfl (zq _ _ _ rfl x2.mi x2.mn x2.mi x2.mn rfl rfl false (by simp) _)
    case o21x2 => exact fun _ _ _ _ => zc (v := vFa) _ _ _ rfl rfl false rfl rfl
    case o22x2 => exact fun _ _ _ _ => jg (v := vFa) _ rfl rfl rfl
    case o23x2 => exact fun _ _ hw _ => jb (v := .agg (c29 x2.pi x2.pn)) rfl (jf 29 _ rfl g4 0 2 rfl 29 _ (hw.has kg4) _ Try.underlying29 rfl si29 _)
    case o24x2 => exact fun _ _ _ _ => jg (v := pK r 0) _ rfl rfl rfl
    case o25x2 => exact fun _ _ hw _ => jb (v := pK r 0) rfl (jj _ rfl _ rfl)
    case o26x2 => exact fun _ _ hw _ => jb (v := pK r 20) rfl (jd 34 _ 4 rfl _ _ rfl _)
    case o27x2 => exact fun _ _ hw _ => jb (v := .agg (c29 x2.pi x2.pn)) rfl (jf 29 _ rfl r 20 2 rfl 34 _ (hw.has kr) _ Try.underlying29 rfl si29 _)
    case o28x2 => exact fun _ _ hw _ => jb (v := vFa) rfl (zq _ _ _ rfl x2.pi x2.pn x2.pi x2.pn rfl rfl false (by simp) _)
    case o29x2 => exact fun _ _ _ _ => zc (v := vFa) _ _ _ rfl rfl false rfl rfl
    case o30x2 => exact fun _ _ _ _ => jg (v := vFa) _ rfl rfl rfl
    case o31x2 => exact fun _ _ _ _ => jg (v := vTr) _ rfl rfl rfl
    case o32x2 => exact fun _ _ _ _ => jg (v := pK r 0) _ rfl rfl rfl
    case o33x2 => exact fun _ _ hw _ => jb (v := pK r 0) rfl (jj _ rfl _ rfl)
    case o34x2 => exact fun _ _ hw _ => jb (v := pK r 17) rfl (jd 34 _ 2 rfl _ _ rfl _)
    case o35x2 => exact fun _ _ hw _ => jb (v := vTr) rfl (jh 4 _ rfl r 17 rfl 34 _ (hw.has kr) (na4 _) _ rfl)
    case o36x2 => exact fun _ _ hw _ => jb (v := vFa) rfl (yc 4 _ _ _ rfl true true rfl rfl Try.underlying4 false (decide_eq_true rfl) _)
    case o37x2 => exact fun _ _ _ _ => zc (v := vFa) _ _ _ rfl rfl false rfl rfl
    case o38x2 => exact fun _ _ _ _ => jg (v := vFa) _ rfl rfl rfl
    case o39x2 => exact fun _ _ _ _ => jg (v := vTr) _ rfl rfl rfl
    case o40x2 => exact fun _ _ _ _ => jg (v := vTr) _ rfl rfl rfl
    case o41x2 => exact fun _ _ hw _ => jb (v := .agg (c23 x2.oth)) rfl (jf 23 _ rfl g5 0 16 rfl 23 _ (hw.has kg5) _ Try.underlying23 rfl si23 _)
    case o42x2 => exact fun _ _ _ _ => jg (v := pK r 0) _ rfl rfl rfl
    case o43x2 => exact fun _ _ hw _ => jb (v := pK r 0) rfl (jj _ rfl _ rfl)
    case o44x2 => exact fun _ _ hw _ => jb (v := pK r 22) rfl (jd 34 _ 5 rfl _ _ rfl _)
    case o45x2 => exact fun _ _ hw _ => jb (v := .agg (c23 x2.oth)) rfl (jf 23 _ rfl r 22 16 rfl 34 _ (hw.has kr) _ Try.underlying23 rfl si23 _)
    case o46x2 => exact fun _ _ hw _ => jb (v := vFa) rfl (zv .neq 23 _ _ _ rfl _ _ rfl rfl (by kernel_rfl) _ ((ne23 x2.oth x2.oth _).trans (by rw [decide_eq_true rfl]; rfl)))
    case o47x2 => exact fun _ _ _ _ => zc (v := vFa) _ _ _ rfl rfl true rfl rfl
    case o48x2 => exact fun _ _ _ _ => zc (v := vFa) _ _ _ rfl rfl false rfl rfl
    case o49x2 => exact fun _ _ _ _ => jg (v := vFa) _ rfl rfl rfl
    case o50x2 => exact fun _ _ _ _ => jg (v := vTr) _ rfl rfl rfl
    case o51x2 => exact fun _ _ hw _ => jb (v := vFa) rfl (jE _ _ rfl true rfl)
    case o52x2 => exact fun _ _ _ _ => jg (v := vFa) _ rfl rfl rfl
    case o53x2 => exact fun _ _ _ _ => jO rfl
    case o54x2 => exact fun _ _ _ _ => jO rfl
    case o55x2 => exact fun _ _ _ _ => jO rfl
    case o56x2 => exact fun _ _ _ _ => zc (v := vFa) _ _ _ rfl rfl false rfl rfl
    case o57x2 => exact fun _ _ _ _ => zc (v := vFa) _ _ _ rfl rfl false rfl rfl
    case o58x2 => exact fun _ _ _ _ => jg (v := vFa) _ rfl rfl rfl
    case o59x2 => exact fun _ _ _ _ => jg (v := iK ((x2.k + 1 : Nat) : Int)) _ rfl rfl rfl
    case o60x2 => exact fun _ _ _ _ => jg (v := iK ((x2.k + 1 : Nat) : Int)) _ rfl rfl rfl
    case o61x2 => exact fun _ _ hw _ => jb (v := vFa) rfl (jP 2 .i64 _ _ _ rfl Try.underlying2 ((x2.k + 1 : Nat) : Int) ((x2.k + 1 : Nat) : Int) rfl rfl false (decide_eq_true (rfl)) _)
    case o62x2 => exact fun _ _ _ _ => zc (v := vFa) _ _ _ rfl rfl false rfl rfl
    case o63x2 => exact fun _ _ _ _ => jg (v := vFa) _ rfl rfl rfl
    case o64x2 => exact fun _ _ _ _ => jg (v := .slice (some ⟨gr, 0, none⟩) rr.length rr.length) _ rfl rfl rfl
    case o65x2 => exact fun _ _ _ _ => jg (v := .slice (if sc = x2.k then so else so.map (·.add (x2.k * 1))) ((u.drop x2.k).length) (sc - x2.k)) _ rfl rfl rfl
    case o66x2 => exact fun _ _ hw _ => jT (.val (vTr)) rfl _ 29 Try.call29 rfl rfl _ rfl [.slice (some ⟨gr, 0, none⟩) rr.length rr.length, .slice (if sc = x2.k then so else so.map (·.add (x2.k * 1))) ((u.drop x2.k).length) (sc - x2.k)] rfl ((vY _ (some ⟨gr, 0, none⟩) rr.length _ (HA.gro ((Gro.refl _).drew.trans hw)).lc _ _ _ ((HX.gro ((Gro.refl _).drew.trans hw)).lcd x2.k hku) rr.length _ (by simp) (by simp) (by omega) (hr.trans hqu.symm)).mono fun e w' ⟨he, hg⟩ => ⟨_, he, hg, rfl⟩)
    case o67x2 => exact fun _ _ hw _ => jb (v := vFa) rfl (jE _ _ rfl true rfl)
    case o68x2 => exact fun _ _ _ _ => zc (v := vFa) _ _ _ rfl rfl false rfl rfl
    case o69x2 => exact fun _ _ _ _ => jg (v := vFa) _ rfl rfl rfl
    case o70x2 => exact fun _ _ _ _ => jg (v := iK ((x2.c : Nat) : Int)) _ rfl rfl rfl
    case o71x2 => exact fun _ _ _ _ => jg (v := pK r 0) _ rfl rfl rfl
    case o72x2 => exact fun _ _ hw _ => jb (v := pK r 0) rfl (jj _ rfl _ rfl)
    case o73x2 => exact fun _ _ hw _ => jb (v := pK r 38) rfl (jd 34 _ 6 rfl _ _ rfl _)
    case o74x2 => exact fun _ _ hw _ => jb (v := pK r 40) rfl (jd 32 _ 2 rfl _ _ rfl _)
    case o75x2 => exact fun _ _ hw _ => jb (v := iK ((x2.c : Nat) : Int)) rfl (jh 2 _ rfl r 40 rfl 34 _ (hw.has kr) (na2 _) _ rfl)
    intro ptrs w21 GD hxE
    simp only
    replace kg3 := GD.has kg3
    replace kg4 := GD.has kg4
    replace kg5 := GD.has kg5
    replace kr := GD.has kr
    replace HA := HA.gro ((Gro.refl _).drew.trans GD)
    replace HM := HM.gro ((Gro.refl _).drew.trans GD)
    replace HD := HD.gro ((Gro.refl _).drew.trans GD)
    replace HX := HX.gro ((Gro.refl _).drew.trans GD)
    replace GG := GG.drew.trans GD
    have HB : Bth w.heap.size [] _ p r id x2 x2 := ⟨mu9, tb9, _, _, HM, HD, hB9⟩
    clear GD
    refine jI 265 rfl rfl (vFa) (jP 2 .i64 _ _ _ rfl Try.underlying2 ((x2.c : Nat) : Int) ((x2.c : Nat) : Int) rfl rfl false (decide_eq_true (rfl)) _) (mv 266 (vFa) (wpList_nil (jc (wp_cond_false rfl (wp_skip (zh (jc (wp_region_lit (sv 267 (iK ((j + 1 : Nat) : Int)) (jZ 3 _ _ _ rfl ((j : Nat) : Int) 1 ((j + 1 : Nat) : Int) rfl rfl (by omega) (by omega) (by omega) _) ?_)))))))))
    refine nr ?_; intro U h; simp only [z0, z1] at h; subst h
    refine mv 40 (iK ((j + 1 : Nat) : Int)) (wpList_nil (jc ?_))
    exact ⟨_, (by omega : os.length - (j + 1) < os.length - j), j + 1, x2, usB [4, 7, 8, 9, 10, 11, 12, 13, 14, 15, 16, 17, 18, 19, 20, 21, 22, 23, 24, 25, 26, 41, 42, 43, 44, 45, 46, 47, 48, 49, 50, 51, 52, 53, 54, 55, 56, 57, 58, 59, 60, 61, 62, 63, 64, 65, 66, 67, 68, 69, 70, 71, 72, 73, 74, 75, 76, 77, 78, 79, 80, 81, 82, 83, 84, 85, 86, 87, 88, 89, 90, 91, 92, 93, 94, 95, 96, 97, 98, 99, 100, 101, 102, 103, 104, 105, 106, 107, 108, 109, 110, 111, 112, 113, 114, 115, 116, 117, 118, 119, 120, 121, 122, 123, 124, 125, 126, 127, 128, 129, 130, 131, 132, 133, 134, 135, 136, 137, 138, 139, 140, 141, 142, 143, 144, 145, 146, 147, 148, 149, 150, 151, 152, 153, 154, 155, 156, 157, 158, 159, 160, 161, 162, 163, 164, 165, 166, 167, 168, 169, 170, 171, 172, 173, 174, 175, 176, 177, 178, 179, 180, 181, 182, 183, 184, 185, 186, 187, 188, 189, 190, 191, 192, 193, 194, 195, 196, 197, 198, 199, 200, 201, 202, 203, 204, 205, 206, 207, 208, 209, 210, 211, 212, 213, 214, 215, 216, 217, 218, 219, 220, 221, 222, 223, 224, 225, 226, 227, 228, 229, 230, 231, 232, 233, 234, 235, 236, 237, 238, 239, 240, 241, 242, 243, 244, 245, 246, 247, 248, 249, 250, 251, 252, 253, 254, 255, 256, 257, 258, 259, 260, 261, 262, 263, 264, 265, 266, 267] rfl rfl ⟨hjn, (by omega), hbd2, GG, HB⟩⟩
  case hm1 =>
    intro HTm1
    refine wp_seq (wp_region_lit (sv 47 (pK g2 0) (jd 48 _ 0 rfl _ _ rfl _) (sv 48 (iK o.kd) (jh 3 _ rfl g2 0 rfl 48 _ kg2 (na3 _) _ rfl) ?_)))
    refine nr ?_; intro U h; simp only [z0, z1] at h; subst h
    refine wpList_nil (jc (wp_block (wp_seq (wp_region_lit ?_))))
    obtain ⟨p3, hp3⟩ : ∃ p, decide (o.kd = 0) = p := ⟨_, rfl⟩
    refine sv 100 (.bool p3) (jo 3 .i64 _ _ _ rfl Try.underlying3 o.kd 0 rfl rfl p3 hp3 _) ?_
    refine nr ?_; intro U h; simp only [z0, z1] at h; subst h
    cases p3
    refine jx _ rfl rfl (vFa) rfl ?_
    refine wpList_nil (jc (wp_cond_false rfl (wp_seq (wp_region_lit ?_))))
    obtain ⟨p4, hp4⟩ : ∃ p, decide (o.kd = 1) = p := ⟨_, rfl⟩
    refine sv 112 (.bool p4) (jo 3 .i64 _ _ _ rfl Try.underlying3 o.kd 1 rfl rfl p4 hp4 _) ?_
    refine nr ?_; intro U h; simp only [z0, z1] at h; subst h
    cases p4
    refine jx _ rfl rfl (vFa) rfl ?_
    refine wpList_nil (jc (wp_cond_false rfl (wp_seq (wp_region_lit ?_))))
    obtain ⟨p5, hp5⟩ : ∃ p, decide (o.kd = 2) = p := ⟨_, rfl⟩
    refine sv 119 (.bool p5) (jo 3 .i64 _ _ _ rfl Try.underlying3 o.kd 2 rfl rfl p5 hp5 _) ?_
    refine nr ?_; intro U h; simp only [z0, z1] at h; subst h
    cases p5
    refine jx _ rfl rfl (vFa) rfl ?_
    refine wpList_nil (jc (wp_cond_false rfl (wp_seq (wp_region_lit ?_))))
    obtain ⟨p6, hp6⟩ : ∃ p, decide (o.kd = 3) = p := ⟨_, rfl⟩
    refine sv 127 (.bool p6) (jo 3 .i64 _ _ _ rfl Try.underlying3 o.kd 3 rfl rfl p6 hp6 _) ?_
    refine nr ?_; intro U h; simp only [z0, z1] at h; subst h
    cases p6
    refine jx _ rfl rfl (vFa) rfl ?_
    refine wpList_nil (jc (wp_cond_false rfl (wp_seq (wp_region_lit (sv 49 (.agg (c48 o.kd o.ni o.nn ⟨o.ao, o.l.length, o.cap⟩ o.f.kind o.f.pw o.f.pn o.f.toA o.f.a o.f.b o.f.n o.f.fi o.f.fn o.f.ti o.f.tn o.f.tr o.f.ids o.f.key o.f.vn o.f.vw o.f.val o.f.op o.f.ttl o.f.tx)) (jf 48 _ rfl g2 0 99 rfl 48 _ kg2 _ Try.underlying48 rfl si48 _) (mv 50 (pK r 0) ?_))))))
    refine nr ?_; intro U h; simp only [z0, z1] at h; subst h
    have HB9 := HB
    obtain ⟨_, _, _, _, _, HD9, _⟩ := HB9
    obtain ⟨B9, so9, sc9, u9, HX9, _⟩ := HD9
    refine jz 51 rfl rfl _ 19 Try.call19 rfl rfl _ rfl [.agg (c48 o.kd o.ni o.nn ⟨o.ao, o.l.length, o.cap⟩ o.f.kind o.f.pw o.f.pn o.f.toA o.f.a o.f.b o.f.n o.f.fi o.f.fn o.f.ti o.f.tn o.f.tr o.f.ids o.f.key o.f.vn o.f.vw o.f.val o.f.op o.f.ttl o.f.tx), pK r 0] rfl (fit_any _ r id x ⟨so9, u9.length, sc9⟩ _ _ o HX9.box) ?_
    intro w8 G
    replace kg2 := G.has kg2
    replace HB := HB.gro G
    replace GG := GG.trans G
    clear G
    refine nr ?_; intro U h; simp only [z0, z1] at h; subst h
    clear HX9
    have HF : FitW w o x := fit_w x hop hos
    obtain ⟨ff, hff⟩ : ∃ ff, fitF o x = ff := ⟨_, rfl⟩
    have hF1 := HF.fw
    have hF2 := HF.fs
    have hF3 := HF.tx
    have hF4 := HF.old
    rw [hff] at hF1 hF2 hF4
    rw [hff]
    clear HF
    refine jq 15 rfl rfl 46 rfl _ zv46 _ rfl ?_
    intro w9 g3 G eg3 kg3
    have bg3 := jm GG eg3
    have dg2g3 := je kg2 eg3
    replace kg2 := G.has kg2
    replace HB := HB.gro G
    replace GG := GG.trans G
    clear G eg3
    refine jn rfl rfl 46 _ _ rfl g3 0 rfl (.agg (frA ff)) rfl 46 _ kg3 (frA ff) rfl (by kernel_rfl) (nlB rfl) (by kernel_rfl) (frA ff) (by kernel_rfl) ?_
    intro w11 St
    replace kg2 := St.has (by omega) kg2
    replace HB := HB.stT (by decide) (by decide) (by decide) (by decide) (by decide) kg3 St
    replace GG := GG.store St bg3
    replace kg3 := St.new
    clear St
    refine wpList_nil (jc (wp_seq ?_))
    obtain ⟨M, eM⟩ : ∃ M, w11.heap.size = M := ⟨_, rfl⟩
    have hM := Nat.le_of_eq eM.symm
    have dg2M : g2 < M := eM ▸ ju kg2
    have dg3M : g3 < M := eM ▸ ju kg3
    have hbM := eM ▸ GG.size
    clear eM
    refine jR (A := ?Ap1) (fun L xw => Gro w xw ∧ xw.heap[g2]? = some (.cells (c48 o.kd o.ni o.nn ⟨o.ao, o.l.length, o.cap⟩ o.f.kind o.f.pw o.f.pn o.f.toA o.f.a o.f.b o.f.n o.f.fi o.f.fn o.f.ti o.f.tn o.f.tr o.f.ids o.f.key o.f.vn o.f.vw o.f.val o.f.op o.f.ttl o.f.tx) 48 (0, 0)) ∧ xw.heap[g3]? = some (.cells (frA ff) 46 (0, 0)) ∧ Bth w.heap.size [] xw p r id (cond (L 5) (hearS id x (pin ff (fitD o)) o.ni o.nn).1 x) x ∧ M ≤ xw.heap.size) 7 [(0, 52), (1, 53), (2, 54), (3, 55), (4, 56), (5, 57), (6, 16)] [.val (pK p 0), .val (.agg (frA ff)), cfE ff (fitD o), .val (pK g2 1), .val (.agg (c29 o.ni o.nn)), tvE (hearS id x (pin ff (fitD o)) o.ni o.nn).2, alE M 59 (c59 false false Sl.nil false Sl.nil)] [(5, 2)] [5, 6] follows (by kernel_rfl) rfl (by kernel_rfl) (by decide) ⟨GG.drew, (Gro.refl _).drew.has kg2, (Gro.refl _).drew.has kg3, HB.gro (Gro.refl _).drew, Nat.le_trans hM (Gro.refl _).drew.size⟩ ?hAp1 (js (fun _ _ _ h _ G => ⟨h.1.trans G, G.has h.2.1, G.has h.2.2.1, h.2.2.2.1.gro G, Nat.le_trans h.2.2.2.2 G.size⟩) ?o0p1 (js (fun _ _ _ h _ G => ⟨h.1.trans G, G.has h.2.1, G.has h.2.2.1, h.2.2.2.1.gro G, Nat.le_trans h.2.2.2.2 G.size⟩) ?o1p1 (js (fun _ _ _ h _ G => ⟨h.1.trans G, G.has h.2.1, G.has h.2.2.1, h.2.2.2.1.gro G, Nat.le_trans h.2.2.2.2 G.size⟩) ?o2p1 (js (fun _ _ _ h _ G => ⟨h.1.trans G, G.has h.2.1, G.has h.2.2.1, h.2.2.2.1.gro G, Nat.le_trans h.2.2.2.2 G.size⟩) ?o3p1 (js (fun _ _ _ h _ G => ⟨h.1.trans G, G.has h.2.1, G.has h.2.2.1, h.2.2.2.1.gro G, Nat.le_trans h.2.2.2.2 G.size⟩) ?o4p1 (jW ?o5p1 (js (fun _ _ _ h _ G => ⟨h.1.trans G, G.has h.2.1, G.has h.2.2.1, h.2.2.2.1.gro G, Nat.le_trans h.2.2.2.2 G.size⟩) ?o6p1 zp))))))) ?restp1
    case hAp1 =>
      intro ptrs
      simp only [full, foldSlots, filledE, postE, List.foldl_cons, List.foldl_nil, List.getD_cons_zero, List.getD_cons_succ, jr, fill_cf, fill_tv, vo,  List.set_cons_zero, List.set_cons_succ]
      exact rfl
    case o0p1 => exact fun _ _ _ _ _ _ _ _ => jg (v := pK p 0) _ rfl rfl rfl
    case o1p1 => exact fun _ _ xw hx _ _ _ _ => jb (v := .agg (frA ff)) rfl (jf 46 _ rfl g3 0 95 rfl 46 _ hx.2.2.1 _ Try.underlying46 rfl si46 _)
    case o2p1 =>
      intro _ _ xw hx _ _ _ _
      exact jT (cfE ff (fitD o)) rfl _ 21 Try.call21 rfl rfl _ rfl [.agg (frA ff)] rfl ((copy_d ff (fitD o) xw (hF1.gro hx.1) hF2).mono fun e w' ⟨s1, s2, s3, s4, he, hO, hg⟩ => ⟨_, he, hg, _, rfl, hO.frw, rfl, frs_of ((hF1.gro hx.1).gro hg) hO.frw hF2⟩)
    case o3p1 => exact fun _ _ xw hx _ _ _ _ => jb (v := pK g2 1) rfl (jd 48 _ 1 rfl _ _ rfl _)
    case o4p1 => exact fun _ _ xw hx _ _ _ _ => jb (v := .agg (c29 o.ni o.nn)) rfl (jf 29 _ rfl g2 1 2 rfl 48 _ hx.2.1 _ Try.underlying29 rfl si29 _)
    case o5p1 =>
      intro L ptrs xw hx hL hed hno hE
      have hE2 := hE
      have h2 := hx.2.2.2.1
      rw [hL] at h2
      obtain ⟨mu, tb, HM, hge, hnext⟩ := h2.fst hx.1.size (fun k hk => by cases hk)
      obtain ⟨⟨g5, hv5, hw5, hp5, hs5⟩, _⟩ := hE2
      have hc5 := Jl _ p id x mu tb HM g5 (fitD o) hw5 hs5 o.ni o.nn (by omega) (by omega)
      rw [hp5] at hc5
      exact yf (tvE (hearS id x (pin ff (fitD o)) o.ni o.nn).2) rfl _ 20 Try.call20 rfl rfl _ rfl [pK p 0, .agg (frA g5), .agg (c29 o.ni o.nn)] (by exact congrArg (fun v => [pK p 0, v, .agg (c29 o.ni o.nn)]) hv5) (hc5.mono fun e y ⟨v, mu', tb', he, HTv, HX, G, F1, F2⟩ => ⟨_, he, ⟨⟨G.gro hx.1 hge, G.has hx.2.1 (HM.not hx.2.1 (by decide) (by decide) (by decide)), G.has hx.2.2.1 (HM.not hx.2.2.1 (by decide) (by decide) (by decide)), hnext _ _ _ _ HX G F1 F2, Nat.le_trans hx.2.2.2.2 G.size⟩, StM.valsX [0, 1, 3, 4] [6] (by kernel_rfl) ⟨⟨_, rfl⟩, ⟨_, rfl⟩, ⟨_, rfl⟩, ⟨_, rfl⟩, trivial⟩ (fun j hj u hp => by cases List.mem_singleton.1 hj; obtain ⟨g, h1, h2, h3⟩ := hp; exact ⟨g, h1, h2, G.has h3 (HM.not h3 (by decide) (by decide) (by decide))⟩)⟩, HTv⟩)
    case o6p1 =>
      intro _ _ xw hx _ _ _ _
      exact uu rfl 59 rfl _ (zv59 _) (c59 false false Sl.nil false Sl.nil) rfl hx.2.2.2.2
    intro ptrs w12 HJ hxE
    simp only [List.drop_succ_cons, List.drop_zero]
    clear GG kg2 kg3 HB hM
    obtain ⟨GG, kg2, kg3, HB, hM⟩ := HJ
    replace HB : Bth w.heap.size [] w12 p r id (hearS id x (pin ff (fitD o)) o.ni o.nn).1 x := HB
    obtain ⟨⟨aoa, capa, ooa, oca, fsa, hva, HOa, hma, HLa⟩, ⟨gt, hv, hgt, kgt⟩, _⟩ := hxE
    simp only [hv, hva]
    clear hv hva hM
    have dg2gt := Nat.lt_of_lt_of_le dg2M hgt
    have dg3gt := Nat.lt_of_lt_of_le dg3M hgt
    have bgt := Nat.le_trans hbM hgt
    refine jn rfl rfl 59 _ _ rfl gt 0 rfl (.agg (c59 ((hearS id x (pin ff (fitD o)) o.ni o.nn).2.died) ((hearS id x (pin ff (fitD o)) o.ni o.nn).2.opened) ⟨aoa, (hearS id x (pin ff (fitD o)) o.ni o.nn).2.tx.length, capa⟩ ((hearS id x (pin ff (fitD o)) o.ni o.nn).2.came) ⟨ooa, fsa.length, oca⟩)) rfl 59 _ kgt (c59 ((hearS id x (pin ff (fitD o)) o.ni o.nn).2.died) ((hearS id x (pin ff (fitD o)) o.ni o.nn).2.opened) ⟨aoa, (hearS id x (pin ff (fitD o)) o.ni o.nn).2.tx.length, capa⟩ ((hearS id x (pin ff (fitD o)) o.ni o.nn).2.came) ⟨ooa, fsa.length, oca⟩) rfl (by kernel_rfl) (nlB rfl) (by kernel_rfl) (c59 ((hearS id x (pin ff (fitD o)) o.ni o.nn).2.died) ((hearS id x (pin ff (fitD o)) o.ni o.nn).2.opened) ⟨aoa, (hearS id x (pin ff (fitD o)) o.ni o.nn).2.tx.length, capa⟩ ((hearS id x (pin ff (fitD o)) o.ni o.nn).2.came) ⟨ooa, fsa.length, oca⟩) (by kernel_rfl) ?_
    intro w14 St
    replace kg2 := St.has (by omega) kg2
    replace kg3 := St.has (by omega) kg3
    replace HB := HB.stT (by decide) (by decide) (by decide) (by decide) (by decide) kgt St
    replace HOa := HOa.no5 ((GroS.refl [gt] _).st St (.inr (by simp))) (jG kgt (by decide))
    replace HLa := HLa.no46 ((GroS.refl [gt] _).st St (.inr (by simp))) (jU kgt (by decide) (by decide))
    replace GG := GG.store St bgt
    replace kgt := St.new
    clear St
    refine wpList_nil (jc (wp_seq (wp_region_lit (mv 58 (pK r 0) (sv 59 (.agg (frA ff)) (jf 46 _ rfl g3 0 95 rfl 46 _ kg3 _ Try.underlying46 rfl si46 _) ?_)))))
    refine nr ?_; intro U h; simp only [z0, z1] at h; subst h
    refine sv 60 (pK g2 1) (jd 48 _ 1 rfl _ _ rfl _) (sv 61 (.agg (c29 o.ni o.nn)) (jf 29 _ rfl g2 1 2 rfl 48 _ kg2 _ Try.underlying29 rfl si29 _) ?_)
    refine nr ?_; intro U h; simp only [z0, z1] at h; subst h
    obtain ⟨mu, tb, HM, hge, hnext⟩ := HB.snd GG.size (fun k hk => by cases hk)
    refine jD 62 rfl rfl _ 22 Try.call22 rfl rfl _ rfl [pK r 0, .agg (frA ff), .agg (c29 o.ni o.nn)] rfl (Zv _ r id x mu tb HM ff (fitD o) (hF1.gro GG) hF3 (fun ad ha h0 hm => by have h1 := hF4 ad ha h0; have h2 := hge _ hm; omega) o.ni o.nn (by omega) (by omega)) (fun _ _ ⟨_, _, _, he, _⟩ => ⟨_, he⟩) ?_
    rintro v w15 ⟨vb, mu2, tb2, he, ⟨aob, capb, oob, ocb, fsb, hvb, HOb, hmb, HLb⟩, HX, G, F1, F2⟩
    cases he
    replace kg2 := G.has kg2 (HM.not kg2 (by decide) (by decide))
    replace kg3 := G.has kg3 (HM.not kg3 (by decide) (by decide))
    replace kgt := G.has kgt (HM.not kgt (by decide) (by decide))
    replace HOa := HOa.no5 G HM.own
    replace HLa := HLa.no46 G HM.no46
    replace HB := hnext _ _ _ _ HX G F1 F2
    replace GG := G.gro GG hge
    clear HX G F1 F2 HM hge hnext
    subst hvb
    refine jq 17 rfl rfl 62 rfl _ zv62 _ rfl ?_
    intro w16 g4 G eg4 kg4
    have bg4 := jm GG eg4
    have dg2g4 := je kg2 eg4
    have dg3g4 := je kg3 eg4
    have dgtg4 := je kgt eg4
    replace kg2 := G.has kg2
    replace kg3 := G.has kg3
    replace kgt := G.has kgt
    replace HB := HB.gro G
    replace HOa := HOa.gro G
    replace HLa := HLa.gro G
    replace HOb := HOb.gro G
    replace HLb := HLb.gro G
    replace GG := GG.trans G
    clear G eg4
    refine jn rfl rfl 62 _ _ rfl g4 0 rfl (.agg (c62 ((hearS id x (pin ff (fitD o)) o.ni o.nn).2.died) ((hearS id x (pin ff (fitD o)) o.ni o.nn).2.opened) ⟨aob, (hearS id x (pin ff (fitD o)) o.ni o.nn).2.tx.length, capb⟩ ((hearS id x (pin ff (fitD o)) o.ni o.nn).2.came) ⟨oob, fsb.length, ocb⟩)) rfl 62 _ kg4 (c62 ((hearS id x (pin ff (fitD o)) o.ni o.nn).2.died) ((hearS id x (pin ff (fitD o)) o.ni o.nn).2.opened) ⟨aob, (hearS id x (pin ff (fitD o)) o.ni o.nn).2.tx.length, capb⟩ ((hearS id x (pin ff (fitD o)) o.ni o.nn).2.came) ⟨oob, fsb.length, ocb⟩) rfl (by kernel_rfl) (nlB rfl) (by kernel_rfl) (c62 ((hearS id x (pin ff (fitD o)) o.ni o.nn).2.died) ((hearS id x (pin ff (fitD o)) o.ni o.nn).2.opened) ⟨aob, (hearS id x (pin ff (fitD o)) o.ni o.nn).2.tx.length, capb⟩ ((hearS id x (pin ff (fitD o)) o.ni o.nn).2.came) ⟨oob, fsb.length, ocb⟩) (by kernel_rfl) ?_
    intro w18 St
    replace kg2 := St.has (by omega) kg2
    replace kg3 := St.has (by omega) kg3
    replace kgt := St.has (by omega) kgt
    replace HB := HB.stT (by decide) (by decide) (by decide) (by decide) (by decide) kg4 St
    replace HOa := HOa.no5 ((GroS.refl [g4] _).st St (.inr (by simp))) (jG kg4 (by decide))
    replace HLa := HLa.no46 ((GroS.refl [g4] _).st St (.inr (by simp))) (jU kg4 (by decide) (by decide))
    replace HOb := HOb.no5 ((GroS.refl [g4] _).st St (.inr (by simp))) (jG kg4 (by decide))
    replace HLb := HLb.no46 ((GroS.refl [g4] _).st St (.inr (by simp))) (jU kg4 (by decide) (by decide))
    replace GG := GG.store St bg4
    replace kg4 := St.new
    clear St
    refine wpList_nil (jc (wp_seq ?_))
    refine jt ?_
    intro OPS hY
    have y5 := hY 5 68 rfl
    have y12 := hY 12 75 rfl
    have y19 := hY 19 82 rfl
    have y28 := hY 28 91 rfl
    clear hY
    refine sv 63 (pK gt 0) (jd 59 _ 0 rfl _ _ rfl _) ?_
    refine nr ?_; intro U h; simp only [z0, z1] at h; subst h
    refine sv 64 (.bool ((hearS id x (pin ff (fitD o)) o.ni o.nn).2.died)) (jh 4 _ rfl gt 0 rfl 59 _ kgt (na4 _) _ rfl) (sv 65 (pK g4 0) (jd 62 _ 0 rfl _ _ rfl _) (sv 66 (.bool ((hearS id x (pin ff (fitD o)) o.ni o.nn).2.died)) (jh 4 _ rfl g4 0 rfl 62 _ kg4 (na4 _) _ rfl) ?_))
    refine nr ?_; intro U h; simp only [z0, z1] at h; subst h
    refine sv 67 (vFa) (yc 4 _ _ _ rfl (hearS id x (pin ff (fitD o)) o.ni o.nn).2.died (hearS id x (pin ff (fitD o)) o.ni o.nn).2.died rfl rfl Try.underlying4 false (decide_eq_true rfl) _) (mv 68 (vFa) (ji 69 rfl rfl y5 rfl (pK gt 1) (jd 59 _ 1 rfl _ _ rfl _) ?_))
    refine nr ?_; intro U h; simp only [z0, z1] at h; subst h
    refine ji 70 rfl rfl y5 rfl (.bool ((hearS id x (pin ff (fitD o)) o.ni o.nn).2.opened)) (jh 4 _ rfl gt 1 rfl 59 _ kgt (na4 _) _ rfl) (ji 71 rfl rfl y5 rfl (pK g4 1) (jd 62 _ 1 rfl _ _ rfl _) (ji 72 rfl rfl y5 rfl (.bool ((hearS id x (pin ff (fitD o)) o.ni o.nn).2.opened)) (jh 4 _ rfl g4 1 rfl 62 _ kg4 (na4 _) _ rfl) ?_))
    refine nr ?_; intro U h; simp only [z0, z1] at h; subst h
    refine ji 73 rfl rfl y5 rfl (vFa) (yc 4 _ _ _ rfl (hearS id x (pin ff (fitD o)) o.ni o.nn).2.opened (hearS id x (pin ff (fitD o)) o.ni o.nn).2.opened rfl rfl Try.underlying4 false (decide_eq_true rfl) _) (mv 74 (vFa) (mv 75 (vFa) ?_))
    refine nr ?_; intro U h; simp only [z0, z1] at h; subst h
    refine ji 76 rfl rfl y12 rfl (pK gt 3) (jd 59 _ 3 rfl _ _ rfl _) (ji 77 rfl rfl y12 rfl (.bool ((hearS id x (pin ff (fitD o)) o.ni o.nn).2.came)) (jh 4 _ rfl gt 3 rfl 59 _ kgt (na4 _) _ rfl) (ji 78 rfl rfl y12 rfl (pK g4 3) (jd 62 _ 3 rfl _ _ rfl _) ?_))
    refine nr ?_; intro U h; simp only [z0, z1] at h; subst h
    refine ji 79 rfl rfl y12 rfl (.bool ((hearS id x (pin ff (fitD o)) o.ni o.nn).2.came)) (jh 4 _ rfl g4 3 rfl 62 _ kg4 (na4 _) _ rfl) (ji 80 rfl rfl y12 rfl (vFa) (yc 4 _ _ _ rfl (hearS id x (pin ff (fitD o)) o.ni o.nn).2.came (hearS id x (pin ff (fitD o)) o.ni o.nn).2.came rfl rfl Try.underlying4 false (decide_eq_true rfl) _) (mv 81 (vFa) ?_))
    refine nr ?_; intro U h; simp only [z0, z1] at h; subst h
    refine mv 82 (vFa) (ji 83 rfl rfl y19 rfl (pK gt 2) (jd 59 _ 2 rfl _ _ rfl _) (ji 84 rfl rfl y19 rfl (.slice aoa ((hearS id x (pin ff (fitD o)) o.ni o.nn).2.tx.length) capa) (jh 36 _ rfl gt 2 rfl 59 _ kgt (na36 _) _ rfl) ?_))
    refine nr ?_; intro U h; simp only [z0, z1] at h; subst h
    refine ji 85 rfl rfl y19 rfl (.string (bas (hearS id x (pin ff (fitD o)) o.ni o.nn).2.tx)) (zw bT 9 Try.underlying9 _ rfl rfl HOa.nc) (ji 86 rfl rfl y19 rfl (pK g4 2) (jd 62 _ 2 rfl _ _ rfl _) (ji 87 rfl rfl y19 rfl (.slice aob ((hearS id x (pin ff (fitD o)) o.ni o.nn).2.tx.length) capb) (jh 36 _ rfl g4 2 rfl 62 _ kg4 (na36 _) _ rfl) ?_))
    refine nr ?_; intro U h; simp only [z0, z1] at h; subst h
    refine ji 88 rfl rfl y19 rfl (.string (bas (hearS id x (pin ff (fitD o)) o.ni o.nn).2.tx)) (zw bT 9 Try.underlying9 _ rfl rfl HOb.nc) (ji 89 rfl rfl y19 rfl (vFa) (vz _ _ _ rfl _ _ rfl rfl false (decide_eq_true rfl) _) (mv 90 (vFa) ?_))
    refine nr ?_; intro U h; simp only [z0, z1] at h; subst h
    refine mv 91 (vFa) (ji 92 rfl rfl y28 rfl (pK gt 4) (jd 59 _ 4 rfl _ _ rfl _) (ji 93 rfl rfl y28 rfl (.slice ooa fsa.length oca) (jh 50 _ rfl gt 4 rfl 59 _ kgt (na50 _) _ rfl) ?_))
    refine nr ?_; intro U h; simp only [z0, z1] at h; subst h
    refine ji 94 rfl rfl y28 rfl (pK g4 4) (jd 62 _ 4 rfl _ _ rfl _) (ji 95 rfl rfl y28 rfl (.slice oob fsb.length ocb) (jh 50 _ rfl g4 4 rfl 62 _ kg4 (na50 _) _ rfl) ?_)
    refine nr ?_; intro U h; simp only [z0, z1] at h; subst h
    have hfl : fsa.length ≤ 1000000 := by have h := congrArg List.length hma; rw [List.length_map] at h; rw [h]; exact Yz id x _ _ _
    refine zW 96 rfl rfl y28 rfl _ 9 Try.call9 rfl rfl _ rfl [.slice ooa fsa.length oca, .slice oob fsb.length ocb] rfl (yI _ 0 ooa oca fsa HLa 0 oob ocb fsb HLb (hma.trans hmb.symm) hfl) ?_
    intro w19 G
    replace kg2 := G.has kg2
    replace kg3 := G.has kg3
    replace kgt := G.has kgt
    replace kg4 := G.has kg4
    replace HB := HB.gro G
    replace HOa := HOa.gro G
    replace HLa := HLa.gro G
    replace HOb := HOb.gro G
    replace HLb := HLb.gro G
    replace GG := GG.trans G
    clear G
    refine ji 97 rfl rfl y28 rfl (vFa) (jE _ _ rfl true rfl) (mv 98 (vFa) ?_)
    refine nr ?_; intro U h; simp only [z0, z1] at h; subst h
    refine wpList_nil (jc (wp_cond_false rfl (wp_skip (zh (jc ?_)))))
    exact HTm1 _ _ ⟨(hearS id x (pin ff (fitD o)) o.ni o.nn).1, (fun kz => ([us1 0, us1 3, us1 4, us1 5, us1 6, us1 7, us1 8, pK g3 0, pK gt 0, pK g4 0, pK g2 0, iK o.kd, .agg (c48 o.kd o.ni o.nn ⟨o.ao, o.l.length, o.cap⟩ o.f.kind o.f.pw o.f.pn o.f.toA o.f.a o.f.b o.f.n o.f.fi o.f.fn o.f.ti o.f.tn o.f.tr o.f.ids o.f.key o.f.vn o.f.vw o.f.val o.f.op o.f.ttl o.f.tx), pK r 0, .agg (frA ff), pK p 0, .agg (frA ff), ptrs 2, pK g2 1, .agg (c29 o.ni o.nn), .agg (c59 ((hearS id x (pin ff (fitD o)) o.ni o.nn).2.died) ((hearS id x (pin ff (fitD o)) o.ni o.nn).2.opened) ⟨aoa, (hearS id x (pin ff (fitD o)) o.ni o.nn).2.tx.length, capa⟩ ((hearS id x (pin ff (fitD o)) o.ni o.nn).2.came) ⟨ooa, fsa.length, oca⟩), pK r 0, .agg (frA ff), pK g2 1, .agg (c29 o.ni o.nn), .agg (c62 ((hearS id x (pin ff (fitD o)) o.ni o.nn).2.died) ((hearS id x (pin ff (fitD o)) o.ni o.nn).2.opened) ⟨aob, (hearS id x (pin ff (fitD o)) o.ni o.nn).2.tx.length, capb⟩ ((hearS id x (pin ff (fitD o)) o.ni o.nn).2.came) ⟨oob, fsb.length, ocb⟩), pK gt 0, .bool ((hearS id x (pin ff (fitD o)) o.ni o.nn).2.died), pK g4 0, .bool ((hearS id x (pin ff (fitD o)) o.ni o.nn).2.died), vFa, vFa, pK gt 1, .bool ((hearS id x (pin ff (fitD o)) o.ni o.nn).2.opened), pK g4 1, .bool ((hearS id x (pin ff (fitD o)) o.ni o.nn).2.opened), vFa, vFa, vFa, pK gt 3, .bool ((hearS id x (pin ff (fitD o)) o.ni o.nn).2.came), pK g4 3, .bool ((hearS id x (pin ff (fitD o)) o.ni o.nn).2.came), vFa, vFa, vFa, pK gt 2, .slice aoa ((hearS id x (pin ff (fitD o)) o.ni o.nn).2.tx.length) capa, .string (bas (hearS id x (pin ff (fitD o)) o.ni o.nn).2.tx), pK g4 2, .slice aob ((hearS id x (pin ff (fitD o)) o.ni o.nn).2.tx.length) capb, .string (bas (hearS id x (pin ff (fitD o)) o.ni o.nn).2.tx), vFa, vFa, vFa, pK gt 4, .slice ooa fsa.length oca, pK g4 4, .slice oob fsb.length ocb, vTr, vFa, vFa, vFa, vFa, us1 81, us1 82, us1 83, us1 84, us1 85, us1 86, us1 87, us1 88, us1 89, us1 90, vFa, vFa, us1 93, us1 94, us1 95, us1 96, us1 97, vFa, vFa, us1 100, us1 101, us1 102, us1 103, us1 104, us1 105, vFa, vFa, us1 108, us1 109, us1 110, us1 111, us1 112, us1 113, us1 114, us1 115, us1 116, us1 117, us1 118, us1 119, us1 120, us1 121, us1 122, us1 123, us1 124, us1 125, us1 126, us1 127, us1 128, us1 129, us1 130, us1 131, us1 132, us1 133, us1 134, us1 135, us1 136, us1 137, us1 138, us1 139, us1 140, us1 141, us1 142, us1 143, us1 144, us1 145] : List Value).getD kz undef), rfl, hbd.hear id _ _ _, GG, HB⟩
    refine mv 126 (vTr) (wpList_nil (jc (wp_cond_true rfl (wp_seq (wp_region_lit ?_)))))
    obtain ⟨M, eM⟩ : ∃ M, w7.heap.size = M := ⟨_, rfl⟩
    have HBv : ∀ T, (∀ k ∈ T, M ≤ k) → Bth w.heap.size T w7 p r id x x := fun T hT => HB.avoid (by rw [eM]; exact hT)
    have GX := Gro.refl w7
    have hMM := Nat.le_of_eq eM.symm
    have hMw := eM ▸ GG.size
    clear eM HB
    refine zk 128 rfl rfl 36 0 _ rfl [] rfl #[] 5 (by kernel_rfl) ?_
    intro w8 gb G egb kgb
    have hgb := egb ▸ hMM
    clear egb
    replace kg2 := G.has kg2
    replace GX := GX.gro G
    replace GG := GG.trans G
    clear G
    refine sv 129 (pK g2 3) (jd 48 _ 2 rfl _ _ rfl _) ?_
    refine nr ?_; intro U h; simp only [z0, z1] at h; subst h
    refine sv 130 (.slice o.ao o.l.length o.cap) (jh 36 _ rfl g2 3 rfl 48 _ kg2 (na36 _) _ rfl) ?_
    refine nr ?_; intro U h; simp only [z0, z1] at h; subst h
    refine ZX 131 rfl rfl _ _ rfl M gb rfl kgb hgb (Nat.le_trans hMM GX.size) rfl (hop.nc.gro GG) (by have := hos.1; omega) ?_
    intro ao4 cap4 w9 G HO5
    clear kgb hgb
    replace kg2 := G.has kg2
    replace GX := GX.gro G
    replace GG := GG.trans G
    clear G
    have HB := (HBv (blk ao4) (fun k hk => by obtain ⟨ad, ha, rfl⟩ := mem_blk.1 hk; exact (HO5.ge ad ha).1)).gro GX
    clear HBv GX
    refine mv 9 (.slice ao4 o.l.length cap4) (wpList_nil (jc (wp_seq (wp_region_lit (mv 133 (pK p 0) ?_)))))
    refine nr ?_; intro U h; simp only [z0, z1] at h; subst h
    refine mv 134 (.slice ao4 o.l.length cap4) ?_
    refine nr ?_; intro U h; simp only [z0, z1] at h; subst h
    obtain ⟨mu, tb, HM, hge, hnext⟩ := HB.fst GG.size (fun k hk => by obtain ⟨ad, ha, rfl⟩ := mem_blk.1 hk; exact (HO5.ge ad ha).2)
    refine jD 135 rfl rfl _ 16 Try.call16 rfl rfl _ rfl [pK p 0, .slice ao4 o.l.length cap4] rfl (send_x _ p id x mu tb HM (by omega) (by omega) ao4 cap4 o.l HO5.nc (fun ad ha _ => HM.ob HO5 ad ha)) (fun _ _ ⟨_, _, _, he, _⟩ => ⟨_, he⟩) ?_
    rintro v w10 ⟨f1, mu2, tb2, he, HV1, HX, G, F1, F2⟩
    cases he
    replace kg2 := G.has kg2 (HM.not kg2 (by decide) (by decide) (by decide))
    replace HO5 := HO5.no5 G HM.own
    replace HB := hnext _ _ _ _ HX G F1 F2
    replace GG := G.gro GG hge
    clear HX G F1 F2 HM hge hnext
    refine mv 132 (.tuple #[.agg (frA f1), iK ((sendS x o.l).2.2)]) (mv 136 (.agg (frA f1)) ?_)
    refine nr ?_; intro U h; simp only [z0, z1] at h; subst h
    refine mv 137 (iK ((sendS x o.l).2.2)) ?_
    refine jq 10 rfl rfl 46 rfl _ zv46 _ rfl ?_
    intro w11 g3 G eg3 kg3
    have bg3 := jm GG eg3
    have dg2g3 := je kg2 eg3
    replace kg2 := G.has kg2
    replace HB := HB.gro G
    replace HO5 := HO5.gro G
    replace HV1 := HV1.gro G
    replace GG := GG.trans G
    clear G eg3
    refine jn rfl rfl 46 _ _ rfl g3 0 rfl (.agg (frA f1)) rfl 46 _ kg3 (frA f1) rfl (by kernel_rfl) (nlB rfl) (by kernel_rfl) (frA f1) (by kernel_rfl) ?_
    intro w13 St
    replace kg2 := St.has (by omega) kg2
    replace HB := HB.stT (by decide) (by decide) (by decide) (by decide) (by decide) kg3 St
    replace HO5 := HO5.no5 ((GroS.refl [g3] _).st St (.inr (by simp))) (jG kg3 (by decide))
    replace HV1 := HV1.no5 ((GroS.refl [g3] _).st St (.inr (by simp))) (jG kg3 (by decide))
    replace GG := GG.store St bg3
    replace kg3 := St.new
    clear St
    refine mv 11 (iK ((sendS x o.l).2.2)) ?_
    refine nr ?_; intro U h; simp only [z0, z1] at h; subst h
    refine wpList_nil (jc (wp_seq (wp_region_lit (mv 139 (pK r 0) (sv 140 (pK g2 3) (jd 48 _ 2 rfl _ _ rfl _) (sv 141 (.slice o.ao o.l.length o.cap) (jh 36 _ rfl g2 3 rfl 48 _ kg2 (na36 _) _ rfl) ?_))))))
    refine nr ?_; intro U h; simp only [z0, z1] at h; subst h
    obtain ⟨mu, tb, HM, hge, hnext⟩ := HB.snd GG.size (fun k hk => by obtain ⟨ad, ha, rfl⟩ := mem_blk.1 hk; exact (HO5.ge ad ha).2)
    refine jD 142 rfl rfl _ 17 Try.call17 rfl rfl _ rfl [pK r 0, .slice o.ao o.l.length o.cap] rfl (rsend_x _ r id x mu tb HM (by omega) (by omega) o.ao o.cap o.l (hop.nc.gro GG) (fun ad ha h0 hm => by have h1 := hop.nc.lt ad ha h0; have h2 := hge _ hm; omega)) (fun _ _ ⟨_, _, _, he, _⟩ => ⟨_, he⟩) ?_
    rintro v w14 ⟨f2, mu2, tb2, he, HV2, HX, G, F1, F2⟩
    cases he
    replace kg2 := G.has kg2 (HM.not kg2 (by decide) (by decide))
    replace kg3 := G.has kg3 (HM.not kg3 (by decide) (by decide))
    replace HO5 := HO5.no5 G HM.own
    replace HV1 := HV1.no5 G HM.own
    replace HB := hnext _ _ _ _ HX G F1 F2
    replace GG := G.gro GG hge
    clear HX G F1 F2 HM hge hnext
    refine mv 138 (.tuple #[.agg (frA f2), iK ((sendS x o.l).2.2)]) (mv 143 (.agg (frA f2)) ?_)
    refine nr ?_; intro U h; simp only [z0, z1] at h; subst h
    refine mv 144 (iK ((sendS x o.l).2.2)) ?_
    refine jq 12 rfl rfl 46 rfl _ zv46 _ rfl ?_
    intro w15 g4 G eg4 kg4
    have bg4 := jm GG eg4
    have dg2g4 := je kg2 eg4
    have dg3g4 := je kg3 eg4
    replace kg2 := G.has kg2
    replace kg3 := G.has kg3
    replace HB := HB.gro G
    replace HO5 := HO5.gro G
    replace HV1 := HV1.gro G
    replace HV2 := HV2.gro G
    replace GG := GG.trans G
    clear G eg4
    refine jn rfl rfl 46 _ _ rfl g4 0 rfl (.agg (frA f2)) rfl 46 _ kg4 (frA f2) rfl (by kernel_rfl) (nlB rfl) (by kernel_rfl) (frA f2) (by kernel_rfl) ?_
    intro w17 St
    replace kg2 := St.has (by omega) kg2
    replace kg3 := St.has (by omega) kg3
    replace HB := HB.stT (by decide) (by decide) (by decide) (by decide) (by decide) kg4 St
    replace HO5 := HO5.no5 ((GroS.refl [g4] _).st St (.inr (by simp))) (jG kg4 (by decide))
    replace HV1 := HV1.no5 ((GroS.refl [g4] _).st St (.inr (by simp))) (jG kg4 (by decide))
    replace HV2 := HV2.no5 ((GroS.refl [g4] _).st St (.inr (by simp))) (jG kg4 (by decide))
    replace GG := GG.store St bg4
    replace kg4 := St.new
    clear St
    refine mv 13 (iK ((sendS x o.l).2.2)) ?_
    refine nr ?_; intro U h; simp only [z0, z1] at h; subst h
    refine wpList_nil (jc (wp_seq (wp_seq ?_)))
    refine jt ?_
    intro OPS hY
    have y4 := hY 4 149 rfl
    clear hY
    refine sv 145 (.agg (frA f1)) (jf 46 _ rfl g3 0 95 rfl 46 _ kg3 _ Try.underlying46 rfl si46 _) (sv 146 (.agg (frA f2)) (jf 46 _ rfl g4 0 95 rfl 46 _ kg4 _ Try.underlying46 rfl si46 _) ?_)
    refine jz 147 rfl rfl _ 18 Try.call18 rfl rfl _ rfl [.agg (frA f1), .agg (frA f2)] rfl (Zb _ (sendS x o.l).2.1 f1 f2 HV1 HV2) ?_
    intro w18 G
    replace kg2 := G.has kg2
    replace kg3 := G.has kg3
    replace kg4 := G.has kg4
    replace HB := HB.gro G
    replace HO5 := HO5.gro G
    replace HV1 := HV1.gro G
    replace HV2 := HV2.gro G
    replace GG := GG.trans G
    clear G
    refine nr ?_; intro U h; simp only [z0, z1] at h; subst h
    refine sv 148 (vFa) (jE _ _ rfl true rfl) (mv 149 (vFa) (ji 150 rfl rfl y4 rfl (iK ((sendS x o.l).2.2)) (rfl) ?_))
    refine nr ?_; intro U h; simp only [z0, z1] at h; subst h
    refine ji 151 rfl rfl y4 rfl (iK ((sendS x o.l).2.2)) (rfl) (ji 152 rfl rfl y4 rfl (vFa) (jP 53 .i64 _ _ _ rfl Try.underlying53 (sendS x o.l).2.2 (sendS x o.l).2.2 rfl rfl false (decide_eq_true rfl) _) (mv 153 (vFa) ?_))
    refine nr ?_; intro U h; simp only [z0, z1] at h; subst h
    refine wpList_nil (jc (wp_cond_false rfl (wp_skip (jc (wp_seq (wp_region_lit (mv 154 (.slice ao4 o.l.length cap4) (sv 155 (iK ((o.l.length : Nat) : Int)) (jM Try.underlying36 _ rfl _ _ _ rfl _) (mv 156 (iK 0) ?_)))))))))
    refine nr ?_; intro U h; simp only [z0, z1] at h; subst h
    refine wpList_nil (jc (wp_block ?_))
    refine zB (fun mz az wv => ∃ (e1 : Nat) (l1 : List Nat) (us2 : Nat → Value), mz = o.l.length - e1 ∧ az = ⟨[.agg (c23 id), .slice ao os.length cap, pK g1 0, undef, us1 0, pK p 0, pK r 0, iK ((j : Nat) : Int), pK g2 0, .slice ao4 o.l.length cap4, pK g3 0, iK ((sendS x o.l).2.2), pK g4 0, iK ((sendS x o.l).2.2), us2 0, us1 9, us1 10, us1 11, us1 12, us1 13, us1 14, us1 15, us1 16, us1 17, us1 18, us1 19, us1 20, .agg (c23 id), pK p 0, .agg (c23 id), .agg (c34 id false false 0 0 0 0 zF Sl.nil 0 0), pK r 0, pK p 0, vFa, vFa, vTr, vFa, vFa, .slice ao os.length cap, iK ((os.length : Nat) : Int), iK ((j : Nat) : Int), vTr, iK ((j : Nat) : Int), .pointer (some (ad.add (j * 99))), .agg (c48 o.kd o.ni o.nn ⟨o.ao, o.l.length, o.cap⟩ o.f.kind o.f.pw o.f.pn o.f.toA o.f.a o.f.b o.f.n o.f.fi o.f.fn o.f.ti o.f.tn o.f.tr o.f.ids o.f.key o.f.vn o.f.vw o.f.val o.f.op o.f.ttl o.f.tx), iK ((j : Nat) : Int), vFa, pK g2 0, iK o.kd, us1 29, us1 30, us1 31, us1 32, us1 33, us1 34, us1 35, us1 36, us1 37, us1 38, us1 39, us1 40, us1 41, us1 42, us1 43, us1 44, us1 45, us1 46, us1 47, us1 48, us1 49, us1 50, us1 51, us1 52, us1 53, us1 54, us1 55, us1 56, us1 57, us1 58, us1 59, us1 60, us1 61, us1 62, us1 63, us1 64, us1 65, us1 66, us1 67, us1 68, us1 69, us1 70, us1 71, us1 72, us1 73, us1 74, us1 75, us1 76, us1 77, us1 78, vFa, vFa, us1 81, us1 82, us1 83, us1 84, us1 85, us1 86, us1 87, us1 88, us1 89, us1 90, vFa, vFa, us1 93, us1 94, us1 95, us1 96, us1 97, vFa, vFa, us1 100, us1 101, us1 102, us1 103, us1 104, us1 105, vTr, vTr, .slice (some ⟨gb, 0, none⟩) 0 0, pK g2 3, .slice o.ao o.l.length o.cap, .slice ao4 o.l.length cap4, .tuple #[.agg (frA f1), iK ((sendS x o.l).2.2)], pK p 0, .slice ao4 o.l.length cap4, .tuple #[.agg (frA f1), iK ((sendS x o.l).2.2)], .agg (frA f1), iK ((sendS x o.l).2.2), .tuple #[.agg (frA f2), iK ((sendS x o.l).2.2)], pK r 0, pK g2 3, .slice o.ao o.l.length o.cap, .tuple #[.agg (frA f2), iK ((sendS x o.l).2.2)], .agg (frA f2), iK ((sendS x o.l).2.2), .agg (frA f1), .agg (frA f2), vTr, vFa, vFa, iK ((sendS x o.l).2.2), iK ((sendS x o.l).2.2), vFa, vFa, .slice ao4 o.l.length cap4, iK ((o.l.length : Nat) : Int), iK ((e1 : Nat) : Int), us2 1, us2 2, us2 3, us2 4, us2 5, us2 6, us2 7, us2 8, us2 9, us1 146, us1 147, us1 148, us1 149, us1 150, us1 151, us1 152, us1 153, us1 154, us1 155, us1 156, us1 157, us1 158, us1 159, us1 160, us1 161, us1 162, us1 163, us1 164, us1 165, us1 166, us1 167, us1 168, us1 169, us1 170, us1 171, us1 172, us1 173, us1 174, us1 175, us1 176, us1 177, us1 178, us1 179, us1 180, us1 181, us1 182, us1 183, us1 184, us1 185, us1 186, us1 187, us1 188, us1 189, us1 190, us1 191, us1 192, us1 193, us1 194, us1 195, us1 196, us1 197, us1 198, us1 199, us1 200, us1 201, us1 202, us1 203, us1 204, us1 205, us1 206, us1 207, us1 208, us1 209, us1 210, us1 211, us1 212, us1 213, us1 214, us1 215, us1 216, us1 217, us1 218, us1 219, us1 220, us1 221, us1 222, us1 223, us1 224, us1 225, us1 226, us1 227, us1 228, us1 229, us1 230, us1 231, us1 232, us1 233, us1 234, us1 235, us1 236, us1 237, us1 238, us1 239, us1 240, us1 241, us1 242, us1 243, us1 244, us1 245, us1 246, us1 247].toArray, []⟩ ∧ e1 ≤ o.l.length ∧ l1.length = o.l.length ∧ Gro w wv ∧ OB wv 5 .u8 M ao4 cap4 l1 ∧ Bth w.heap.size (blk ao4) wv p r id (sendS x o.l).1 (sendS x o.l).1) ?_ _ ⟨0, o.l, usB [14, 157, 158, 159, 160, 161, 162, 163, 164, 165] rfl rfl ⟨Nat.zero_le _, rfl, GG, HO5, HB⟩⟩
    clear GG HB HO5
    rintro mz az wv ⟨e1, l1, us2, rfl, rfl, he1, hl1, GG, HO5, HB⟩
    refine wp_seq (wp_region_lit ?_)
    obtain ⟨p7, hp7⟩ : ∃ p, decide (((e1 : Nat) : Int) < ((o.l.length : Nat) : Int)) = p := ⟨_, rfl⟩
    refine sv 157 (.bool p7) (jQ 3 _ _ _ rfl ((e1 : Nat) : Int) ((o.l.length : Nat) : Int) rfl rfl p7 hp7 _) ?_
    refine nr ?_; intro U h; simp only [z0, z1] at h; subst h
    cases p7
    refine wpList_nil (jc (wp_seq (wp_cond_false rfl (wp_exit (zi (zi (yl (zh (jc ?_)))))))))
    exact HTm1 _ _ ⟨(sendS x o.l).1, (fun kz => ([us1 0, .slice ao4 o.l.length cap4, pK g3 0, iK ((sendS x o.l).2.2), pK g4 0, iK ((sendS x o.l).2.2), us2 0, us1 9, us1 10, us1 11, pK g2 0, iK o.kd, us1 29, us1 30, us1 31, us1 32, us1 33, us1 34, us1 35, us1 36, us1 37, us1 38, us1 39, us1 40, us1 41, us1 42, us1 43, us1 44, us1 45, us1 46, us1 47, us1 48, us1 49, us1 50, us1 51, us1 52, us1 53, us1 54, us1 55, us1 56, us1 57, us1 58, us1 59, us1 60, us1 61, us1 62, us1 63, us1 64, us1 65, us1 66, us1 67, us1 68, us1 69, us1 70, us1 71, us1 72, us1 73, us1 74, us1 75, us1 76, us1 77, us1 78, vFa, vFa, us1 81, us1 82, us1 83, us1 84, us1 85, us1 86, us1 87, us1 88, us1 89, us1 90, vFa, vFa, us1 93, us1 94, us1 95, us1 96, us1 97, vFa, vFa, us1 100, us1 101, us1 102, us1 103, us1 104, us1 105, vTr, vTr, .slice (some ⟨gb, 0, none⟩) 0 0, pK g2 3, .slice o.ao o.l.length o.cap, .slice ao4 o.l.length cap4, .tuple #[.agg (frA f1), iK ((sendS x o.l).2.2)], pK p 0, .slice ao4 o.l.length cap4, .tuple #[.agg (frA f1), iK ((sendS x o.l).2.2)], .agg (frA f1), iK ((sendS x o.l).2.2), .tuple #[.agg (frA f2), iK ((sendS x o.l).2.2)], pK r 0, pK g2 3, .slice o.ao o.l.length o.cap, .tuple #[.agg (frA f2), iK ((sendS x o.l).2.2)], .agg (frA f2), iK ((sendS x o.l).2.2), .agg (frA f1), .agg (frA f2), vTr, vFa, vFa, iK ((sendS x o.l).2.2), iK ((sendS x o.l).2.2), vFa, vFa, .slice ao4 o.l.length cap4, iK ((o.l.length : Nat) : Int), iK ((e1 : Nat) : Int), vFa, us2 2, us2 3, us2 4, us2 5, us2 6, us2 7, us2 8, us2 9] : List Value).getD kz undef), rfl, hbd.send o.l, GG, HB.none⟩
    have hkn : e1 < o.l.length := by have := of_decide_eq_true hp7; omega
    have hol5 := hos.1
    obtain ⟨gi, curi, hgi, hBi, kgi, hci, hmi, hsi, hti⟩ := HO5.blk (j := e1) (by omega)
    refine wpList_nil (jc (wp_seq (wp_cond_true rfl (wp_skip (jc (wp_seq (wp_block (wp_seq (wp_region_lit (mv 158 (iK ((e1 : Nat) : Int)) (mv 14 (iK ((e1 : Nat) : Int)) (wpList_nil (jc (wp_region_lit (mv 159 (.slice ao4 o.l.length cap4) ?_)))))))))))))))
    refine nr ?_; intro U h; simp only [z0, z1] at h; subst h
    refine mv 160 (iK ((e1 : Nat) : Int)) (sv 161 (pK gi e1) (bat _ _ rfl gi o.l.length cap4 e1 (by exact congrArg (fun a => Value.slice a o.l.length cap4) hgi) rfl hkn _) (sv 162 (.int .u8 ((l1.getD e1 0 : Nat) : Int)) (run_ld bT _ rfl ⟨gi, e1, none⟩ rfl _ _ (HO5.cellv hgi (by omega))) ?_))
    refine nr ?_; intro U h; simp only [z0, z1] at h; subst h
    refine sv 163 (.int .u8 ((inc8 (l1.getD e1 0) : Nat) : Int)) (ZZ _ _ _ rfl (l1.getD e1 0) rfl rfl _) (sv 164 (pK gi e1) (bat _ _ rfl gi o.l.length cap4 e1 (by exact congrArg (fun a => Value.slice a o.l.length cap4) hgi) rfl hkn _) ?_)
    refine jn rfl rfl 5 _ _ rfl gi e1 rfl (.int .u8 ((inc8 (l1.getD e1 0) : Nat) : Int)) rfl 5 _ kgi #[.int .u8 ((inc8 (l1.getD e1 0) : Nat) : Int)] rfl si5 (by simp only [List.size_toArray, List.length_cons, List.length_nil]; omega) (one1 _) _ rfl ?_
    intro w19 St
    replace HB := HB.five kgi St (mem_blk.2 ⟨_, hgi, rfl⟩)
    replace GG := GG.store St (Nat.le_trans hMw hBi)
    replace HO5 := HO5.put hgi kgi (by omega) (inc8 (l1.getD e1 0)) (inc8_le _) St
    clear St kgi
    refine wpList_nil (zh (jc (wp_region_lit (sv 165 (iK ((e1 + 1 : Nat) : Int)) (jZ 3 _ _ _ rfl ((e1 : Nat) : Int) 1 ((e1 + 1 : Nat) : Int) rfl rfl (by omega) (by omega) (by omega) _) ?_))))
    refine nr ?_; intro U h; simp only [z0, z1] at h; subst h
    refine mv 156 (iK ((e1 + 1 : Nat) : Int)) (wpList_nil (jc ?_))
    exact ⟨_, (by omega : o.l.length - (e1 + 1) < o.l.length - e1), e1 + 1, l1.set e1 (inc8 (l1.getD e1 0)), usB [14, 157, 158, 159, 160, 161, 162, 163, 164, 165] rfl rfl ⟨hkn, (by rw [List.length_set]; exact hl1), GG, HO5, HB⟩⟩
    refine mv 118 (vTr) (wpList_nil (jc (wp_cond_true rfl (wp_seq (wp_region_lit (mv 120 (pK p 0) ?_))))))
    refine nr ?_; intro U h; simp only [z0, z1] at h; subst h
    obtain ⟨mu, tb, HM, hge, hnext⟩ := HB.fst GG.size (fun k hk => by cases hk)
    refine jD 121 rfl rfl _ 14 Try.call14 rfl rfl _ rfl [pK p 0] rfl (tick_x _ p id x mu tb HM (by omega) (by omega)) (fun _ _ ⟨_, _, _, _, _, he, _⟩ => ⟨_, he⟩) ?_
    rintro v w8 ⟨aoa, capa, fsa, mu2, tb2, he, hma, HLa, HX, G, F1, F2⟩
    cases he
    replace kg2 := G.has kg2 (HM.not kg2 (by decide) (by decide) (by decide))
    replace HB := hnext _ _ _ _ HX G F1 F2
    replace GG := G.gro GG hge
    clear HX G F1 F2 HM hge hnext
    refine mv 122 (pK r 0) ?_
    refine nr ?_; intro U h; simp only [z0, z1] at h; subst h
    obtain ⟨mu, tb, HM, hge, hnext⟩ := HB.snd GG.size (fun k hk => by cases hk)
    refine jD 123 rfl rfl _ 15 Try.call15 rfl rfl _ rfl [pK r 0] rfl (rtick_x _ r id x mu tb HM (by omega) (by omega)) (fun _ _ ⟨_, _, _, _, _, he, _⟩ => ⟨_, he⟩) ?_
    rintro v w9 ⟨aob, capb, fsb, mu2, tb2, he, hmb, HLb, HX, G, F1, F2⟩
    cases he
    replace kg2 := G.has kg2 (HM.not kg2 (by decide) (by decide))
    replace HLa := HLa.no46 G HM.no46
    replace HB := hnext _ _ _ _ HX G F1 F2
    replace GG := G.gro GG hge
    clear HX G F1 F2 HM hge hnext
    refine nr ?_; intro U h; simp only [z0, z1] at h; subst h
    have hfl : fsa.length ≤ 1000000 := by have h := congrArg List.length hma; rw [List.length_map] at h; rw [h]; exact ZR id x (by omega)
    refine jz 124 rfl rfl _ 9 Try.call9 rfl rfl _ rfl [.slice aoa fsa.length capa, .slice aob fsb.length capb] rfl (yI _ 0 aoa capa fsa HLa 0 aob capb fsb HLb (hma.trans hmb.symm) hfl) ?_
    intro w10 G
    replace kg2 := G.has kg2
    replace HB := HB.gro G
    replace HLa := HLa.gro G
    replace HLb := HLb.gro G
    replace GG := GG.trans G
    clear G
    refine sv 125 (vFa) (jE _ _ rfl true rfl) (wpList_nil (jc (wp_cond_false rfl (wp_skip (zh (jc ?_))))))
    exact HTm1 _ _ ⟨x, (fun kz => ([us1 0, us1 3, us1 4, us1 5, us1 6, us1 7, us1 8, us1 9, us1 10, us1 11, pK g2 0, iK o.kd, us1 29, us1 30, us1 31, us1 32, us1 33, us1 34, us1 35, us1 36, us1 37, us1 38, us1 39, us1 40, us1 41, us1 42, us1 43, us1 44, us1 45, us1 46, us1 47, us1 48, us1 49, us1 50, us1 51, us1 52, us1 53, us1 54, us1 55, us1 56, us1 57, us1 58, us1 59, us1 60, us1 61, us1 62, us1 63, us1 64, us1 65, us1 66, us1 67, us1 68, us1 69, us1 70, us1 71, us1 72, us1 73, us1 74, us1 75, us1 76, us1 77, us1 78, vFa, vFa, us1 81, us1 82, us1 83, us1 84, us1 85, us1 86, us1 87, us1 88, us1 89, us1 90, vFa, vFa, us1 93, us1 94, us1 95, us1 96, us1 97, vTr, vTr, pK p 0, .slice aoa fsa.length capa, pK r 0, .slice aob fsb.length capb, vTr, vFa, us1 106, us1 107, us1 108, us1 109, us1 110, us1 111, us1 112, us1 113, us1 114, us1 115, us1 116, us1 117, us1 118, us1 119, us1 120, us1 121, us1 122, us1 123, us1 124, us1 125, us1 126, us1 127, us1 128, us1 129, us1 130, us1 131, us1 132, us1 133, us1 134, us1 135, us1 136, us1 137, us1 138, us1 139, us1 140, us1 141, us1 142, us1 143, us1 144, us1 145] : List Value).getD kz undef), rfl, hbd.mono (Nat.le_succ _), GG, HB⟩
    refine mv 111 (vTr) ?_
    refine nr ?_; intro U h; simp only [z0, z1] at h; subst h
    refine wpList_nil (jc (wp_cond_true rfl (wp_seq (wp_region_lit (mv 113 (pK p 0) ?_)))))
    refine nr ?_; intro U h; simp only [z0, z1] at h; subst h
    obtain ⟨mu, tb, HM, hge, hnext⟩ := HB.fst GG.size (fun k hk => by cases hk)
    refine jD 114 rfl rfl _ 12 Try.call12 rfl rfl _ rfl [pK p 0] rfl (fall_x _ p id x mu tb HM) (fun _ _ ⟨_, _, he, _⟩ => ⟨_, he⟩) ?_
    rintro v w8 ⟨mu2, tb2, he, HX, G, F1, F2⟩
    cases he
    replace kg2 := G.has kg2 (HM.not kg2 (by decide) (by decide) (by decide))
    replace HB := hnext _ _ _ _ HX G F1 F2
    replace GG := G.gro GG hge
    clear HX G F1 F2 HM hge hnext
    refine mv 115 (pK r 0) ?_
    refine nr ?_; intro U h; simp only [z0, z1] at h; subst h
    obtain ⟨mu, tb, HM, hge, hnext⟩ := HB.snd GG.size (fun k hk => by cases hk)
    refine jD 116 rfl rfl _ 13 Try.call13 rfl rfl _ rfl [pK r 0] rfl (rfall_x _ r id x mu tb HM) (fun _ _ ⟨_, _, he, _⟩ => ⟨_, he⟩) ?_
    rintro v w9 ⟨mu2, tb2, he, HX, G, F1, F2⟩
    cases he
    replace kg2 := G.has kg2 (HM.not kg2 (by decide) (by decide))
    replace HB := hnext _ _ _ _ HX G F1 F2
    replace GG := G.gro GG hge
    clear HX G F1 F2 HM hge hnext
    refine sv 117 (vFa) (yc 4 _ _ _ rfl x.op x.op rfl rfl Try.underlying4 false (decide_eq_true rfl) _) (wpList_nil (jc (wp_cond_false rfl (wp_skip (zh (jc ?_))))))
    exact HTm1 _ _ ⟨ES.new, (fun kz => ([us1 0, us1 3, us1 4, us1 5, us1 6, us1 7, us1 8, us1 9, us1 10, us1 11, pK g2 0, iK o.kd, us1 29, us1 30, us1 31, us1 32, us1 33, us1 34, us1 35, us1 36, us1 37, us1 38, us1 39, us1 40, us1 41, us1 42, us1 43, us1 44, us1 45, us1 46, us1 47, us1 48, us1 49, us1 50, us1 51, us1 52, us1 53, us1 54, us1 55, us1 56, us1 57, us1 58, us1 59, us1 60, us1 61, us1 62, us1 63, us1 64, us1 65, us1 66, us1 67, us1 68, us1 69, us1 70, us1 71, us1 72, us1 73, us1 74, us1 75, us1 76, us1 77, us1 78, vFa, vFa, us1 81, us1 82, us1 83, us1 84, us1 85, us1 86, us1 87, us1 88, us1 89, us1 90, vTr, vTr, pK p 0, .bool x.op, pK r 0, .bool x.op, vFa, us1 98, us1 99, us1 100, us1 101, us1 102, us1 103, us1 104, us1 105, us1 106, us1 107, us1 108, us1 109, us1 110, us1 111, us1 112, us1 113, us1 114, us1 115, us1 116, us1 117, us1 118, us1 119, us1 120, us1 121, us1 122, us1 123, us1 124, us1 125, us1 126, us1 127, us1 128, us1 129, us1 130, us1 131, us1 132, us1 133, us1 134, us1 135, us1 136, us1 137, us1 138, us1 139, us1 140, us1 141, us1 142, us1 143, us1 144, us1 145] : List Value).getD kz undef), rfl, (Bd.new _), GG, HB⟩
    refine mv 99 (vTr) ?_
    refine nr ?_; intro U h; simp only [z0, z1] at h; subst h
    refine wpList_nil (jc (wp_cond_true rfl (wp_seq ?_)))
    refine jR (A := ?Ap2) (fun L xw => Gro w xw ∧ xw.heap[g2]? = some (.cells (c48 o.kd o.ni o.nn ⟨o.ao, o.l.length, o.cap⟩ o.f.kind o.f.pw o.f.pn o.f.toA o.f.a o.f.b o.f.n o.f.fi o.f.fn o.f.ti o.f.tn o.f.tr o.f.ids o.f.key o.f.vn o.f.vw o.f.val o.f.op o.f.ttl o.f.tx) 48 (0, 0)) ∧ Bth w.heap.size [] xw p r id (cond (L 3) (riseS id x o.ni o.nn).1 x) x) 7 [(0, 101), (1, 102), (2, 103), (3, 104), (4, 105), (5, 106), (6, 107)] [.val (pK p 0), .val (pK g2 1), .val (.agg (c29 o.ni o.nn)), lsE (riseS id x o.ni o.nn).2, .val (pK r 0), .val (pK g2 1), .val (.agg (c29 o.ni o.nn))] [] [3] follows (by kernel_rfl) rfl (by kernel_rfl) (by decide) ⟨GG.drew, (Gro.refl _).drew.has kg2, HB.gro (Gro.refl _).drew⟩ ?hAp2 (js (fun _ _ _ h _ G => ⟨h.1.trans G, G.has h.2.1, h.2.2.gro G⟩) ?o0p2 (js (fun _ _ _ h _ G => ⟨h.1.trans G, G.has h.2.1, h.2.2.gro G⟩) ?o1p2 (js (fun _ _ _ h _ G => ⟨h.1.trans G, G.has h.2.1, h.2.2.gro G⟩) ?o2p2 (jW ?o3p2 (js (fun _ _ _ h _ G => ⟨h.1.trans G, G.has h.2.1, h.2.2.gro G⟩) ?o4p2 (js (fun _ _ _ h _ G => ⟨h.1.trans G, G.has h.2.1, h.2.2.gro G⟩) ?o5p2 (js (fun _ _ _ h _ G => ⟨h.1.trans G, G.has h.2.1, h.2.2.gro G⟩) ?o6p2 zp))))))) ?restp2
    case hAp2 =>
      intro ptrs
      simp only [full, foldSlots, filledE, postE, List.foldl_cons, List.foldl_nil, List.getD_cons_zero, List.getD_cons_succ, jr, fill_ls,  List.set_cons_zero, List.set_cons_succ]
      exact rfl
    case o0p2 => exact fun _ _ _ _ _ _ _ _ => jg (v := pK p 0) _ rfl rfl rfl
    case o1p2 => exact fun _ _ xw hx _ _ _ _ => jb (v := pK g2 1) rfl (jd 48 _ 1 rfl _ _ rfl _)
    case o2p2 => exact fun _ _ xw hx _ _ _ _ => jb (v := .agg (c29 o.ni o.nn)) rfl (jf 29 _ rfl g2 1 2 rfl 48 _ hx.2.1 _ Try.underlying29 rfl si29 _)
    case o3p2 =>
      intro L ptrs xw hx hL hed hno _
      have h2 := hx.2.2
      rw [hL] at h2
      obtain ⟨mu, tb, HM, hge, hnext⟩ := h2.fst hx.1.size (fun k hk => by cases hk)
      exact yf (lsE (riseS id x o.ni o.nn).2) rfl _ 10 Try.call10 rfl rfl _ rfl [pK p 0, .agg (c29 o.ni o.nn)] rfl ((JE _ p id x mu tb HM o.ni o.nn).mono fun e y ⟨ao1, cap1, fs1, mu', tb', he, hm, HL, HX, G, F1, F2⟩ => ⟨_, he, ⟨⟨G.gro hx.1 hge, G.has hx.2.1 (HM.not hx.2.1 (by decide) (by decide) (by decide)), hnext _ _ _ _ HX G F1 F2⟩, StM.vals [0, 1, 2, 4, 5, 6] (by kernel_rfl) ⟨⟨_, rfl⟩, ⟨_, rfl⟩, ⟨_, rfl⟩, ⟨_, rfl⟩, ⟨_, rfl⟩, ⟨_, rfl⟩, trivial⟩⟩, ao1, cap1, fs1, rfl, hm, HL⟩)
    case o4p2 => exact fun _ _ _ _ _ _ _ _ => jg (v := pK r 0) _ rfl rfl rfl
    case o5p2 => exact fun _ _ xw hx _ _ _ _ => jb (v := pK g2 1) rfl (jd 48 _ 1 rfl _ _ rfl _)
    case o6p2 => exact fun _ _ xw hx _ _ _ _ => jb (v := .agg (c29 o.ni o.nn)) rfl (jf 29 _ rfl g2 1 2 rfl 48 _ hx.2.1 _ Try.underlying29 rfl si29 _)
    intro ptrs w8 HJ hxE
    simp only [List.drop_succ_cons, List.drop_zero]
    clear GG kg2 HB
    obtain ⟨GG, kg2, HB⟩ := HJ
    replace HB : Bth w.heap.size [] w8 p r id (riseS id x o.ni o.nn).1 x := HB
    obtain ⟨⟨aoa, capa, fsa, hv, hma, HLa⟩, _⟩ := hxE
    simp only [hv]
    clear hv
    obtain ⟨mu, tb, HM, hge, hnext⟩ := HB.snd GG.size (fun k hk => by cases hk)
    refine jD 108 rfl rfl _ 11 Try.call11 rfl rfl _ rfl [pK r 0, .agg (c29 o.ni o.nn)] rfl (rrise_x _ r id x mu tb HM hbd.dn o.ni o.nn) (fun _ _ ⟨_, _, _, _, _, he, _⟩ => ⟨_, he⟩) ?_
    rintro v w9 ⟨aob, capb, fsb, mu2, tb2, he, hmb, HLb, HX, G, F1, F2⟩
    cases he
    replace kg2 := G.has kg2 (HM.not kg2 (by decide) (by decide))
    replace HLa := HLa.no46 G HM.no46
    replace HB := hnext _ _ _ _ HX G F1 F2
    replace GG := G.gro GG hge
    clear HX G F1 F2 HM hge hnext
    refine nr ?_; intro U h; simp only [z0, z1] at h; subst h
    have hfl : fsa.length ≤ 1000000 := by have h := congrArg List.length hma; rw [List.length_map] at h; rw [h]; exact Yc id x o.ni o.nn
    refine jz 109 rfl rfl _ 9 Try.call9 rfl rfl _ rfl [.slice aoa fsa.length capa, .slice aob fsb.length capb] rfl (yI _ 0 aoa capa fsa HLa 0 aob capb fsb HLb (hma.trans hmb.symm) hfl) ?_
    intro w10 G
    replace kg2 := G.has kg2
    replace HB := HB.gro G
    replace HLa := HLa.gro G
    replace HLb := HLb.gro G
    replace GG := GG.trans G
    clear G
    refine sv 110 (vFa) (jE _ _ rfl true rfl) (wpList_nil (jc (wp_cond_false rfl (wp_skip (zh (jc ?_))))))
    exact HTm1 _ _ ⟨(riseS id x o.ni o.nn).1, (fun kz => ([us1 0, us1 3, us1 4, us1 5, us1 6, us1 7, us1 8, us1 9, us1 10, us1 11, pK g2 0, iK o.kd, us1 29, us1 30, us1 31, us1 32, us1 33, us1 34, us1 35, us1 36, us1 37, us1 38, us1 39, us1 40, us1 41, us1 42, us1 43, us1 44, us1 45, us1 46, us1 47, us1 48, us1 49, us1 50, us1 51, us1 52, us1 53, us1 54, us1 55, us1 56, us1 57, us1 58, us1 59, us1 60, us1 61, us1 62, us1 63, us1 64, us1 65, us1 66, us1 67, us1 68, us1 69, us1 70, us1 71, us1 72, us1 73, us1 74, us1 75, us1 76, us1 77, us1 78, vTr, vTr, pK p 0, pK g2 1, .agg (c29 o.ni o.nn), .slice aoa fsa.length capa, pK r 0, pK g2 1, .agg (c29 o.ni o.nn), .slice aob fsb.length capb, vTr, vFa, us1 91, us1 92, us1 93, us1 94, us1 95, us1 96, us1 97, us1 98, us1 99, us1 100, us1 101, us1 102, us1 103, us1 104, us1 105, us1 106, us1 107, us1 108, us1 109, us1 110, us1 111, us1 112, us1 113, us1 114, us1 115, us1 116, us1 117, us1 118, us1 119, us1 120, us1 121, us1 122, us1 123, us1 124, us1 125, us1 126, us1 127, us1 128, us1 129, us1 130, us1 131, us1 132, us1 133, us1 134, us1 135, us1 136, us1 137, us1 138, us1 139, us1 140, us1 141, us1 142, us1 143, us1 144, us1 145] : List Value).getD kz undef), rfl, (hbd.rise id o.ni o.nn).mono (Nat.le_succ _), GG, HB⟩
  refine wpList_nil (jc (wp_cond_true rfl (wp_exit (zi ?_))))
  refine blk_xn (by decide) ?_
  refine zi (zi (yl (jc (wp_seq (wp_region_lit (mv 4 (vTr) ?_))))))
  refine nr ?_; intro U h; simp only [z0, z1] at h; subst h
  refine wpList_nil (jc (wp_ret ?_))
  refine bodyPost_ret (results_tmp Try.results3 _ _ _) rfl ?_
  exact ⟨rfl, GG⟩
end Go.Proofs.Ytlfanecaglbomaa
