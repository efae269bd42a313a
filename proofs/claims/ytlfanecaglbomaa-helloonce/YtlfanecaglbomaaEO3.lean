/- Frames are said: they are under way then, as far as there is room. -/
import Derived.Test.YtlfanecaglbomaaEO2
namespace Go.Proofs.Ytlfanecaglbomaa
set_option maxRecDepth 100000
set_option maxHeartbeats 4000000
open Go.RowKit
def bfE (M : Nat) (f : Fr) : PostE := PostE.ex (fun v x => ∃ g : Nat, v = .slice (some ⟨g, 0, none⟩) 1 1 ∧ M ≤ g ∧ x.heap[g]? = some (.cells (frA f) 46 (0, 0))) (fun _ _ _ G ⟨g, h1, h2, h3⟩ => ⟨g, h1, h2, G.has h3⟩)
theorem JY (M : Nat) (f : Fr) (v : Value) : (bfE M f).fill v = v := rfl
def afE (B M : Nat) (a : Option Addr) (fs : List (PF × Fr)) : PostE := PostE.ex (fun v x => ∃ (a2 : Option Addr) (c2 : Nat), v = .slice a2 fs.length c2 ∧ LF x B a2 c2 fs ∧ Kept M a a2) (fun _ _ _ G ⟨a, c, h1, h2, h3⟩ => ⟨a, c, h1, h2.gro G, h3⟩)
theorem JZ (B M : Nat) (a : Option Addr) (fs : List (PF × Fr)) (v : Value) : (afE B M a fs).fill v = v := rfl
theorem ZJ {ops : Array Oper} {o : Oper} {A : Act} {x : World} (s y : Operand) (hw : Region.wanted o (yielded ops A.tmps) = true) (ho : o.op = .call { callee := .builtin .append, args := #[s, y], argTypes := #[50, 50] })
    {w : World} {B M : Nat} {a : Option Addr} {c : Nat} {fs : List (PF × Fr)} (hL : LF w B a c fs) (hM : w.heap.size = M) (hB : B ≤ M) (hq : fs.length ≤ 200) (G : Gro w x) (hs : A.eval s = .slice a fs.length c) {z : PF × Fr} {v : Value} (hF : FV w z.1 z.2) (hy : A.eval y = v) (hb : (bfE M z.2).p v x) :
    OpX Try.prog ops (fun z => GroS (blk a) x z) (afE B M a (fs ++ [z])) o A x := by
  obtain ⟨g, rfl, h1, h2⟩ := hb
  have hsz := G.size
  refine vO rF _ hw s y ho hs (hL.row.gro G) hy (xc_fr h2) (by omega) (by decide) (by omega) ?_
  intro a2 c2 w' hr G2 K
  exact ⟨a2, c2, by rw [List.length_append]; rfl, (hL.gro G).snoc (m := z.1) (f := z.2) (hF.gro G) G2 hr, fun k hk => (K k hk).imp (fun h => h) (fun h => by omega)⟩
theorem say0 (w0 w : World) (G0 : Gro w0 w) (tp : Nat) (q0 : Nat) (q1 : Nat) (id0 : Nat → Nat) (id1 : Nat → Nat) (x0 : ES) (x1 : ES) (n0 : Nat) (n1 : Nat) (a0 : Option Addr) (c0 : Nat) (f0 : List (PF × Fr)) (a1 : Option Addr) (c1 : Nat) (f1 : List (PF × Fr)) (b0 : Option Addr) (e0 : Nat) (s0 : List SE) (b1 : Option Addr) (e1 : Nat) (s1 : List SE) (d0 : Option Addr) (k0 : Nat) (r0 : List SE) (d1 : Option Addr) (k1 : Nat) (r1 : List SE) (H : Tk w0.heap.size w tp q0 q1 id0 id1 x0 x1 n0 n1 a0 c0 f0 a1 c1 f1 b0 e0 s0 b1 e1 s1 d0 k0 r0 d1 k1 r1) (ao : Option Addr) (cap : Nat) (fs : List (PF × Fr)) (HLl : LF w 0 ao cap fs) (hfs : fs.length ≤ 1000000) (hfl : f1.length ≤ 200) (hd : fs.length ≤ 1 ∨ Dis (blk ao) (blk a1)) : Calls Try.prog 32 #[pK tp 0, iK 0, .slice ao fs.length cap] w fun e w' => e = .returned (.tuple #[]) ∧ Gro w0 w' ∧ ∃ (a : Option Addr) (c : Nat) (f : List (PF × Fr)), Tk w0.heap.size w' tp q0 q1 id0 id1 x0 x1 n0 n1 a0 c0 f0 a c f b0 e0 s0 b1 e1 s1 d0 k0 r0 d1 k1 r1 ∧ f.length ≤ 200 ∧ ∀ y ∈ f.map (·.1), y ∈ f1.map (·.1) ∨ y ∈ fs.map (·.1) := by
  refine jq Try.func32 rfl Try.ntmps32 [pK tp 0, iK 0, .slice ao fs.length cap] ?_
  intro U h; simp only [List.length_cons, List.length_nil, List.cons_append, List.nil_append, Nat.reduceAdd, Nat.reduceSub, List.reduceReplicate] at h; subst h
  have GG := Gro.refl w
  replace GG := G0
  refine wp_seq (wp_region_lit (mv 8 (.slice ao fs.length cap) (sv 9 (iK ((fs.length : Nat) : Int)) (jG Try.underlying50 _ rfl _ _ _ rfl _) (mv 10 (iK 0) (wpList_nil (ja (wp_block ?_)))))))
  refine zl (fun mz az wv => ∃ (j : Nat) (a : Option Addr) (c : Nat) (f : List (PF × Fr)) (us1 : Nat → Value), mz = fs.length - j ∧ az = ⟨[pK tp 0, iK 0, .slice ao fs.length cap, undef, undef, undef, undef, us1 0, .slice ao fs.length cap, iK ((fs.length : Nat) : Int), iK ((j : Nat) : Int), us1 1, us1 2, us1 3, us1 4, us1 5, us1 6, us1 7, us1 8, us1 9, us1 10, us1 11, us1 12, us1 13, us1 14, us1 15, us1 16, us1 17, us1 18, us1 19, us1 20, us1 21, us1 22, us1 23, us1 24, us1 25, us1 26, us1 27, us1 28, us1 29].toArray, []⟩ ∧ j ≤ fs.length ∧ f.length ≤ 200 ∧ (∀ y ∈ f.map (·.1), y ∈ f1.map (·.1) ∨ y ∈ fs.map (·.1)) ∧ (fs.length ≤ 1 ∨ Dis (blk ao) (blk a)) ∧ (j < fs.length → LF wv 0 ao cap fs) ∧ Gro w0 wv ∧ Tk w0.heap.size wv tp q0 q1 id0 id1 x0 x1 n0 n1 a0 c0 f0 a c f b0 e0 s0 b1 e1 s1 d0 k0 r0 d1 k1 r1) ?_ _ ⟨0, a1, c1, f1, usB [7, 11, 12, 13, 14, 15, 16, 17, 18, 19, 20, 21, 22, 23, 24, 25, 26, 27, 28, 29, 30, 31, 32, 33, 34, 35, 36, 37, 38, 39] rfl rfl ⟨Nat.zero_le _, hfl, (fun _ h => .inl h), hd, (fun _ => HLl), GG, H⟩⟩
  clear GG
  rintro mz az wv ⟨j, a, c, f, us1, rfl, rfl, hj, hfl, hmem, hd, hl, GG, H⟩
  have ktp := H.box
  refine wp_seq (wp_region_lit ?_)
  obtain ⟨p1, hp1⟩ : ∃ p, decide (((j : Nat) : Int) < ((fs.length : Nat) : Int)) = p := ⟨_, rfl⟩
  refine sv 11 (.bool p1) (jP 3 _ _ _ rfl ((j : Nat) : Int) ((fs.length : Nat) : Int) rfl rfl p1 hp1 _) ?_
  refine nr ?_; intro U h; simp only [z0, z1] at h; subst h
  cases p1
  refine wpList_nil (ja (wp_seq (wp_cond_false rfl (wp_exit (jZ (jZ (zZ ?_)))))))
  refine jN (results_none Try.results32 _ _ _) rfl ?_
  exact ⟨rfl, GG, a, c, f, H, hfl, hmem⟩
  have hjn : j < fs.length := by have := of_decide_eq_true hp1; omega
  obtain ⟨y, hy⟩ : ∃ y, fs[j]? = some y := ⟨_, List.getElem?_eq_getElem hjn⟩
  have HLl := hl hjn
  have FVy := HLl.fv y (List.mem_of_getElem? hy)
  obtain ⟨ad, hao⟩ := HLl.some (by omega)
  refine wpList_nil (ja (wp_seq (wp_cond_true rfl (wp_skip (ja (wp_seq (wp_block (wp_seq (wp_region_lit (sv 12 (.pointer (some (ad.add (j * 95)))) (zO _ _ rfl ad fs.length cap j (by exact congrArg (fun a => Value.slice a fs.length cap) hao) rfl hjn _) (sv 13 (.agg (frA y.2)) (yl _ rfl ad j rfl _ (hao ▸ HLl) y hy) ?_)))))))))))
  refine js 7 rfl rfl 46 rfl _ zv46 _ rfl ?_
  intro w1 g1 G eg1 kg1
  have bg1 := jh GG eg1
  have n0g1 : ∀ k ∈ blk a0, k < g1 := fun k hk => eg1 ▸ H.l0.row.lt k hk
  have n1g1 : ∀ k ∈ blk a, k < g1 := fun k hk => eg1 ▸ H.l1.row.lt k hk
  have nlg1 : ∀ k ∈ blk ao, k < g1 := fun k hk => eg1 ▸ HLl.row.lt k hk
  have dtpg1 := jf ktp eg1
  replace ktp := G.has ktp
  replace H := H.gro G
  replace HLl := HLl.gro G
  replace FVy := FVy.gro G
  replace GG := GG.trans G
  clear G eg1
  refine jo rfl rfl 46 _ _ rfl g1 0 rfl (.agg (frA y.2)) rfl 46 _ kg1 (frA y.2) rfl (by kernel_rfl) (nlB rfl) (by kernel_rfl) (frA y.2) (by kernel_rfl) ?_
  intro w3 St
  replace ktp := St.has (by omega) ktp
  replace H := H.gros (S := [g1]) ((GroS.refl [g1] _).st St (.inr (by simp))) (fun k hk => by cases List.mem_singleton.1 hk; exact ⟨_, _, kg1, by decide, by decide, by decide, fun _ => ⟨fun hm => Nat.lt_irrefl _ (n0g1 _ hm), fun hm => Nat.lt_irrefl _ (n1g1 _ hm)⟩⟩)
  replace HLl := HLl.gros ((GroS.refl [g1] _).st St (.inr (by simp))) (jv kg1 (by decide)) (fun k hk hm => by cases List.mem_singleton.1 hm; exact Nat.lt_irrefl _ (nlg1 _ hk))
  replace FVy := FVy.no5 ((GroS.refl [g1] _).st St (.inr (by simp))) (jv kg1 (by decide))
  replace GG := GG.store St bg1
  replace kg1 := St.new
  clear St
  refine wpList_nil (ja (wp_seq (wp_region_lit (mv 14 (pK tp 0) (mv 15 (iK 0) (sv 16 (iK 1) (zm 3 _ _ _ rfl 1 0 1 rfl rfl (by decide) (by decide) (by decide) _) (sv 17 (pK tp 0) (jl _ rfl _ rfl) (sv 18 (pK tp 2) (jc 83 _ 1 rfl _ _ rfl _) ?_))))))))
  refine sv 19 (pK tp 3) (jB _ _ rfl tp 2 1 (by decide) rfl rfl _) ?_
  refine nr ?_; intro U h; simp only [z0, z1] at h; subst h
  refine sv 20 (.slice a f.length c) (je 50 _ rfl tp 3 rfl 83 _ ktp (na50 _) _ rfl) (sv 21 (iK ((f.length : Nat) : Int)) (jG Try.underlying50 _ rfl _ _ _ rfl _) ?_)
  refine nr ?_; intro U h; simp only [z0, z1] at h; subst h
  obtain ⟨p2, hp2⟩ : ∃ p, decide (((f.length : Nat) : Int) < 200) = p := ⟨_, rfl⟩
  refine sv 22 (.bool p2) (jP 3 _ _ _ rfl ((f.length : Nat) : Int) 200 rfl rfl p2 hp2 _) ?_
  refine nr ?_; intro U h; simp only [z0, z1] at h; subst h
  cases p2
  refine wpList_nil (ja (wp_cond_false rfl (wp_skip (jQ (ja (wp_region_lit (sv 39 (iK ((j + 1 : Nat) : Int)) (jF 3 _ _ _ rfl ((j : Nat) : Int) 1 ((j + 1 : Nat) : Int) rfl rfl (by omega) (by omega) (by omega) _) (mv 10 (iK ((j + 1 : Nat) : Int)) (wpList_nil (ja ?_))))))))))
  exact ⟨_, (by omega : fs.length - (j + 1) < fs.length - j), j + 1, a, c, f, usB [7, 11, 12, 13, 14, 15, 16, 17, 18, 19, 20, 21, 22, 23, 24, 25, 26, 27, 28, 29, 30, 31, 32, 33, 34, 35, 36, 37, 38, 39] rfl rfl ⟨hjn, hfl, hmem, hd, (fun _ => HLl), GG, H⟩⟩
  have hf2 : f.length < 200 := by have := of_decide_eq_true hp2; omega
  refine wpList_nil (ja (wp_cond_true rfl ?_))
  obtain ⟨M, eM⟩ : ∃ M, w3.heap.size = M := ⟨_, rfl⟩
  have hBM : w0.heap.size ≤ M := eM ▸ GG.size
  have hgM : g1 < M := eM ▸ jm kg1
  refine zd (A := ?Ag1) (blk a) 15 [(0, 23), (1, 24), (2, 25), (3, 26), (4, 27), (5, 28), (6, 29), (7, 30), (8, 31), (9, 32), (10, 33), (11, 34), (12, 35), (13, 36), (14, 37)] [.val (pK tp 0), .val (iK 0), .val (iK 1), .val (pK tp 0), .val (iK 0), .val (iK 1), .val (pK tp 0), .val (pK tp 2), .val (pK tp 3), .val (.slice a f.length c), .val (.agg (frA y.2)), bfE M y.2, afE w0.heap.size M a (f ++ [y]), .val (pK tp 0), .val (pK tp 2)] 12 follows (by kernel_rfl) rfl (by decide) (fun j hj hne v a b _ hb hp => match j, hj, hne, hp with | 0, _, _, hp => hp | 1, _, _, hp => hp | 2, _, _, hp => hp | 3, _, _, hp => hp | 4, _, _, hp => hp | 5, _, _, hp => hp | 6, _, _, hp => hp | 7, _, _, hp => hp | 8, _, _, hp => hp | 9, _, _, hp => hp | 10, _, _, hp => hp | 11, _, _, hp => Exists.elim hp fun g hp => ⟨g, hp.1, hp.2.1, hb.has hp.2.2 (zN H.l1.row eM hp.2.1)⟩ | 12, _, hne, _ => absurd rfl hne | 13, _, _, hp => hp | 14, _, _, hp => hp | m + 15, hj, _, _ => absurd hj (by omega)) ?hAg1 (jp (by decide) ?o0g1 (jp (by decide) ?o1g1 (jp (by decide) ?o2g1 (jp (by decide) ?o3g1 (jp (by decide) ?o4g1 (jp (by decide) ?o5g1 (jp (by decide) ?o6g1 (jp (by decide) ?o7g1 (jp (by decide) ?o8g1 (jp (by decide) ?o9g1 (jp (by decide) ?o10g1 (jp (by decide) ?o11g1 (zW ?o12g1 (jp (by decide) ?o13g1 (jp (by decide) ?o14g1 zy))))))))))))))) ?restg1
  case hAg1 =>
    intro ptrs
    simp only [full, foldSlots, filledE, postE, List.foldl_cons, List.foldl_nil, List.getD_cons_zero, List.getD_cons_succ, ju, JY, JZ,  List.set_cons_zero, List.set_cons_succ]
    exact rfl
  case o0g1 => exact fun _ _ _ _ => jj (v := pK tp 0) _ rfl rfl rfl
  case o1g1 => exact fun _ _ _ _ => jj (v := iK 0) _ rfl rfl rfl
  case o2g1 => exact fun _ _ hw _ => jb (v := iK 1) rfl (zm 3 _ _ _ rfl 1 0 1 rfl rfl (by decide) (by decide) (by decide) _)
  case o3g1 => exact fun _ _ _ _ => jj (v := pK tp 0) _ rfl rfl rfl
  case o4g1 => exact fun _ _ _ _ => jj (v := iK 0) _ rfl rfl rfl
  case o5g1 => exact fun _ _ hw _ => jb (v := iK 1) rfl (zm 3 _ _ _ rfl 1 0 1 rfl rfl (by decide) (by decide) (by decide) _)
  case o6g1 => exact fun _ _ hw _ => jb (v := pK tp 0) rfl (jl _ rfl _ rfl)
  case o7g1 => exact fun _ _ hw _ => jb (v := pK tp 2) rfl (jc 83 _ 1 rfl _ _ rfl _)
  case o8g1 => exact fun _ _ hw _ => jb (v := pK tp 3) rfl (jB _ _ rfl tp 2 1 (by decide) rfl rfl _)
  case o9g1 => exact fun _ _ hw _ => jb (v := .slice a f.length c) rfl (je 50 _ rfl tp 3 rfl 83 _ (hw.has ktp (H.l1.row.ne ktp (by decide))) (na50 _) _ rfl)
  case o10g1 => exact fun _ _ hw _ => jb (v := .agg (frA y.2)) rfl (jk 46 _ rfl g1 0 95 rfl 46 _ (hw.has kg1 (fun hm => Nat.lt_irrefl _ (n1g1 _ hm))) _ Try.underlying46 rfl si46 _)
  case o11g1 =>
    intro ptrs x hw hE
    exact za _ rfl (zp 50 1 _ rfl [(0, .agg (frA y.2))] rfl (by kernel_rfl)) (jR _ _) ⟨x.heap.size, rfl, Nat.le_trans (Nat.le_of_eq eM.symm) hw.size, heap_alloc_new _ _⟩
  case o12g1 =>
    intro ptrs x hw hE
    exact ZJ (v := ptrs 11) _ _ rfl rfl H.l1 eM hBM hfl ((Gro.refl _).drew.trans hw) rfl FVy rfl hE.1
  case o13g1 => exact fun _ _ hw _ => jb (v := pK tp 0) rfl (jl _ rfl _ rfl)
  case o14g1 => exact fun _ _ hw _ => jb (v := pK tp 2) rfl (jc 83 _ 1 rfl _ _ rfl _)
  intro ptrs w4 GS hxE
  simp only [List.drop_succ_cons, List.drop_zero]
  obtain ⟨_, ⟨a2, c2, hv, HL2, K⟩, _⟩ := hxE
  simp only [hv]
  clear hv
  have GS2 := ((GroS.refl (blk a) w3).drew.trans GS)
  clear GS
  subst eM
  replace ktp := GS2.has ktp (H.l1.row.ne ktp (by decide))
  replace GG := GS2.gro GG H.l1.row.base
  refine sv 38 (pK tp 3) (jB _ _ rfl tp 2 1 (by decide) rfl rfl _) ?_
  refine jo rfl rfl 50 _ _ rfl tp 3 rfl (.slice a2 ((f ++ [y]).length) c2) rfl 83 _ ktp #[.slice a2 ((f ++ [y]).length) c2] rfl (by kernel_rfl) (nlB rfl) (by kernel_rfl) (c83 (some ⟨q0, 0, none⟩) (some ⟨q1, 0, none⟩) ⟨a0, f0.length, c0⟩ ⟨a2, (f ++ [y]).length, c2⟩ ((n0 : Nat) : Int) ((n1 : Nat) : Int) ⟨b0, s0.length, e0⟩ ⟨b1, s1.length, e1⟩ ⟨d0, r0.length, k0⟩ ⟨d1, r1.length, k1⟩) (by kernel_rfl) ?_
  intro w6 St
  have hl2 : j + 1 < fs.length → LF w6 0 ao cap fs := fun hlt => by
    rcases hd with hd | hd
    omega
    exact (HLl.gros GS2 H.l1.no5b hd).no46 ((GroS.refl [tp] _).st St (.inr (by simp))) (jK ktp (by decide) (by decide))
  have hd2 : fs.length ≤ 1 ∨ Dis (blk ao) (blk a2) := hd.imp (fun h => h) fun hd k hk hm => (K k hm).elim (hd k hk) fun h => by have := HLl.row.lt k hk; omega
  have hm2 : ∀ z ∈ (f ++ [y]).map (·.1), z ∈ f1.map (·.1) ∨ z ∈ fs.map (·.1) := fun z hz => by
    rw [List.map_append] at hz
    rcases List.mem_append.1 hz with hz | hz
    exact hmem z hz
    cases List.mem_singleton.1 hz
    exact .inr (List.mem_map_of_mem (List.mem_of_getElem? hy))
  have hf3 : (f ++ [y]).length ≤ 200 := by rw [List.length_append]; exact hf2
  replace GG := GG.store St H.base
  replace H := H.puta1 GS2 K HL2 St
  refine wpList_nil (jQ (ja (wp_region_lit (sv 39 (iK ((j + 1 : Nat) : Int)) (jF 3 _ _ _ rfl ((j : Nat) : Int) 1 ((j + 1 : Nat) : Int) rfl rfl (by omega) (by omega) (by omega) _) (mv 10 (iK ((j + 1 : Nat) : Int)) (wpList_nil (ja ?_)))))))
  exact ⟨_, (by omega : fs.length - (j + 1) < fs.length - j), j + 1, a2, c2, (f ++ [y]), usB [7, 11, 12, 13, 14, 15, 16, 17, 18, 19, 20, 21, 22, 23, 24, 25, 26, 27, 28, 29, 30, 31, 32, 33, 34, 35, 36, 37, 38, 39] rfl rfl ⟨hjn, hf3, hm2, hd2, hl2, GG, H⟩⟩
theorem say1 (w0 w : World) (G0 : Gro w0 w) (tp : Nat) (q0 : Nat) (q1 : Nat) (id0 : Nat → Nat) (id1 : Nat → Nat) (x0 : ES) (x1 : ES) (n0 : Nat) (n1 : Nat) (a0 : Option Addr) (c0 : Nat) (f0 : List (PF × Fr)) (a1 : Option Addr) (c1 : Nat) (f1 : List (PF × Fr)) (b0 : Option Addr) (e0 : Nat) (s0 : List SE) (b1 : Option Addr) (e1 : Nat) (s1 : List SE) (d0 : Option Addr) (k0 : Nat) (r0 : List SE) (d1 : Option Addr) (k1 : Nat) (r1 : List SE) (H : Tk w0.heap.size w tp q0 q1 id0 id1 x0 x1 n0 n1 a0 c0 f0 a1 c1 f1 b0 e0 s0 b1 e1 s1 d0 k0 r0 d1 k1 r1) (ao : Option Addr) (cap : Nat) (fs : List (PF × Fr)) (HLl : LF w 0 ao cap fs) (hfs : fs.length ≤ 1000000) (hfl : f0.length ≤ 200) (hd : fs.length ≤ 1 ∨ Dis (blk ao) (blk a0)) : Calls Try.prog 32 #[pK tp 0, iK 1, .slice ao fs.length cap] w fun e w' => e = .returned (.tuple #[]) ∧ Gro w0 w' ∧ ∃ (a : Option Addr) (c : Nat) (f : List (PF × Fr)), Tk w0.heap.size w' tp q0 q1 id0 id1 x0 x1 n0 n1 a c f a1 c1 f1 b0 e0 s0 b1 e1 s1 d0 k0 r0 d1 k1 r1 ∧ f.length ≤ 200 ∧ ∀ y ∈ f.map (·.1), y ∈ f0.map (·.1) ∨ y ∈ fs.map (·.1) := by
  refine jq Try.func32 rfl Try.ntmps32 [pK tp 0, iK 1, .slice ao fs.length cap] ?_
  intro U h; simp only [List.length_cons, List.length_nil, List.cons_append, List.nil_append, Nat.reduceAdd, Nat.reduceSub, List.reduceReplicate] at h; subst h
  have GG := Gro.refl w
  replace GG := G0
  refine wp_seq (wp_region_lit (mv 8 (.slice ao fs.length cap) (sv 9 (iK ((fs.length : Nat) : Int)) (jG Try.underlying50 _ rfl _ _ _ rfl _) (mv 10 (iK 0) (wpList_nil (ja (wp_block ?_)))))))
  refine zl (fun mz az wv => ∃ (j : Nat) (a : Option Addr) (c : Nat) (f : List (PF × Fr)) (us1 : Nat → Value), mz = fs.length - j ∧ az = ⟨[pK tp 0, iK 1, .slice ao fs.length cap, undef, undef, undef, undef, us1 0, .slice ao fs.length cap, iK ((fs.length : Nat) : Int), iK ((j : Nat) : Int), us1 1, us1 2, us1 3, us1 4, us1 5, us1 6, us1 7, us1 8, us1 9, us1 10, us1 11, us1 12, us1 13, us1 14, us1 15, us1 16, us1 17, us1 18, us1 19, us1 20, us1 21, us1 22, us1 23, us1 24, us1 25, us1 26, us1 27, us1 28, us1 29].toArray, []⟩ ∧ j ≤ fs.length ∧ f.length ≤ 200 ∧ (∀ y ∈ f.map (·.1), y ∈ f0.map (·.1) ∨ y ∈ fs.map (·.1)) ∧ (fs.length ≤ 1 ∨ Dis (blk ao) (blk a)) ∧ (j < fs.length → LF wv 0 ao cap fs) ∧ Gro w0 wv ∧ Tk w0.heap.size wv tp q0 q1 id0 id1 x0 x1 n0 n1 a c f a1 c1 f1 b0 e0 s0 b1 e1 s1 d0 k0 r0 d1 k1 r1) ?_ _ ⟨0, a0, c0, f0, usB [7, 11, 12, 13, 14, 15, 16, 17, 18, 19, 20, 21, 22, 23, 24, 25, 26, 27, 28, 29, 30, 31, 32, 33, 34, 35, 36, 37, 38, 39] rfl rfl ⟨Nat.zero_le _, hfl, (fun _ h => .inl h), hd, (fun _ => HLl), GG, H⟩⟩
  clear GG
  rintro mz az wv ⟨j, a, c, f, us1, rfl, rfl, hj, hfl, hmem, hd, hl, GG, H⟩
  have ktp := H.box
  refine wp_seq (wp_region_lit ?_)
  obtain ⟨p1, hp1⟩ : ∃ p, decide (((j : Nat) : Int) < ((fs.length : Nat) : Int)) = p := ⟨_, rfl⟩
  refine sv 11 (.bool p1) (jP 3 _ _ _ rfl ((j : Nat) : Int) ((fs.length : Nat) : Int) rfl rfl p1 hp1 _) ?_
  refine nr ?_; intro U h; simp only [z0, z1] at h; subst h
  cases p1
  refine wpList_nil (ja (wp_seq (wp_cond_false rfl (wp_exit (jZ (jZ (zZ ?_)))))))
  refine jN (results_none Try.results32 _ _ _) rfl ?_
  exact ⟨rfl, GG, a, c, f, H, hfl, hmem⟩
  have hjn : j < fs.length := by have := of_decide_eq_true hp1; omega
  obtain ⟨y, hy⟩ : ∃ y, fs[j]? = some y := ⟨_, List.getElem?_eq_getElem hjn⟩
  have HLl := hl hjn
  have FVy := HLl.fv y (List.mem_of_getElem? hy)
  obtain ⟨ad, hao⟩ := HLl.some (by omega)
  refine wpList_nil (ja (wp_seq (wp_cond_true rfl (wp_skip (ja (wp_seq (wp_block (wp_seq (wp_region_lit (sv 12 (.pointer (some (ad.add (j * 95)))) (zO _ _ rfl ad fs.length cap j (by exact congrArg (fun a => Value.slice a fs.length cap) hao) rfl hjn _) (sv 13 (.agg (frA y.2)) (yl _ rfl ad j rfl _ (hao ▸ HLl) y hy) ?_)))))))))))
  refine js 7 rfl rfl 46 rfl _ zv46 _ rfl ?_
  intro w1 g1 G eg1 kg1
  have bg1 := jh GG eg1
  have n0g1 : ∀ k ∈ blk a, k < g1 := fun k hk => eg1 ▸ H.l0.row.lt k hk
  have n1g1 : ∀ k ∈ blk a1, k < g1 := fun k hk => eg1 ▸ H.l1.row.lt k hk
  have nlg1 : ∀ k ∈ blk ao, k < g1 := fun k hk => eg1 ▸ HLl.row.lt k hk
  have dtpg1 := jf ktp eg1
  replace ktp := G.has ktp
  replace H := H.gro G
  replace HLl := HLl.gro G
  replace FVy := FVy.gro G
  replace GG := GG.trans G
  clear G eg1
  refine jo rfl rfl 46 _ _ rfl g1 0 rfl (.agg (frA y.2)) rfl 46 _ kg1 (frA y.2) rfl (by kernel_rfl) (nlB rfl) (by kernel_rfl) (frA y.2) (by kernel_rfl) ?_
  intro w3 St
  replace ktp := St.has (by omega) ktp
  replace H := H.gros (S := [g1]) ((GroS.refl [g1] _).st St (.inr (by simp))) (fun k hk => by cases List.mem_singleton.1 hk; exact ⟨_, _, kg1, by decide, by decide, by decide, fun _ => ⟨fun hm => Nat.lt_irrefl _ (n0g1 _ hm), fun hm => Nat.lt_irrefl _ (n1g1 _ hm)⟩⟩)
  replace HLl := HLl.gros ((GroS.refl [g1] _).st St (.inr (by simp))) (jv kg1 (by decide)) (fun k hk hm => by cases List.mem_singleton.1 hm; exact Nat.lt_irrefl _ (nlg1 _ hk))
  replace FVy := FVy.no5 ((GroS.refl [g1] _).st St (.inr (by simp))) (jv kg1 (by decide))
  replace GG := GG.store St bg1
  replace kg1 := St.new
  clear St
  refine wpList_nil (ja (wp_seq (wp_region_lit (mv 14 (pK tp 0) (mv 15 (iK 1) (sv 16 (iK 0) (zm 3 _ _ _ rfl 1 1 0 rfl rfl (by decide) (by decide) (by decide) _) (sv 17 (pK tp 0) (jl _ rfl _ rfl) (sv 18 (pK tp 2) (jc 83 _ 1 rfl _ _ rfl _) ?_))))))))
  refine sv 19 (pK tp 2) (jB _ _ rfl tp 2 0 (by decide) rfl rfl _) ?_
  refine nr ?_; intro U h; simp only [z0, z1] at h; subst h
  refine sv 20 (.slice a f.length c) (je 50 _ rfl tp 2 rfl 83 _ ktp (na50 _) _ rfl) (sv 21 (iK ((f.length : Nat) : Int)) (jG Try.underlying50 _ rfl _ _ _ rfl _) ?_)
  refine nr ?_; intro U h; simp only [z0, z1] at h; subst h
  obtain ⟨p2, hp2⟩ : ∃ p, decide (((f.length : Nat) : Int) < 200) = p := ⟨_, rfl⟩
  refine sv 22 (.bool p2) (jP 3 _ _ _ rfl ((f.length : Nat) : Int) 200 rfl rfl p2 hp2 _) ?_
  refine nr ?_; intro U h; simp only [z0, z1] at h; subst h
  cases p2
  refine wpList_nil (ja (wp_cond_false rfl (wp_skip (jQ (ja (wp_region_lit (sv 39 (iK ((j + 1 : Nat) : Int)) (jF 3 _ _ _ rfl ((j : Nat) : Int) 1 ((j + 1 : Nat) : Int) rfl rfl (by omega) (by omega) (by omega) _) (mv 10 (iK ((j + 1 : Nat) : Int)) (wpList_nil (ja ?_))))))))))
  exact ⟨_, (by omega : fs.length - (j + 1) < fs.length - j), j + 1, a, c, f, usB [7, 11, 12, 13, 14, 15, 16, 17, 18, 19, 20, 21, 22, 23, 24, 25, 26, 27, 28, 29, 30, 31, 32, 33, 34, 35, 36, 37, 38, 39] rfl rfl ⟨hjn, hfl, hmem, hd, (fun _ => HLl), GG, H⟩⟩
  have hf2 : f.length < 200 := by have := of_decide_eq_true hp2; omega
  refine wpList_nil (ja (wp_cond_true rfl ?_))
  obtain ⟨M, eM⟩ : ∃ M, w3.heap.size = M := ⟨_, rfl⟩
  have hBM : w0.heap.size ≤ M := eM ▸ GG.size
  have hgM : g1 < M := eM ▸ jm kg1
  refine zd (A := ?Ag2) (blk a) 15 [(0, 23), (1, 24), (2, 25), (3, 26), (4, 27), (5, 28), (6, 29), (7, 30), (8, 31), (9, 32), (10, 33), (11, 34), (12, 35), (13, 36), (14, 37)] [.val (pK tp 0), .val (iK 1), .val (iK 0), .val (pK tp 0), .val (iK 1), .val (iK 0), .val (pK tp 0), .val (pK tp 2), .val (pK tp 2), .val (.slice a f.length c), .val (.agg (frA y.2)), bfE M y.2, afE w0.heap.size M a (f ++ [y]), .val (pK tp 0), .val (pK tp 2)] 12 follows (by kernel_rfl) rfl (by decide) (fun j hj hne v a b _ hb hp => match j, hj, hne, hp with | 0, _, _, hp => hp | 1, _, _, hp => hp | 2, _, _, hp => hp | 3, _, _, hp => hp | 4, _, _, hp => hp | 5, _, _, hp => hp | 6, _, _, hp => hp | 7, _, _, hp => hp | 8, _, _, hp => hp | 9, _, _, hp => hp | 10, _, _, hp => hp | 11, _, _, hp => Exists.elim hp fun g hp => ⟨g, hp.1, hp.2.1, hb.has hp.2.2 (zN H.l0.row eM hp.2.1)⟩ | 12, _, hne, _ => absurd rfl hne | 13, _, _, hp => hp | 14, _, _, hp => hp | m + 15, hj, _, _ => absurd hj (by omega)) ?hAg2 (jp (by decide) ?o0g2 (jp (by decide) ?o1g2 (jp (by decide) ?o2g2 (jp (by decide) ?o3g2 (jp (by decide) ?o4g2 (jp (by decide) ?o5g2 (jp (by decide) ?o6g2 (jp (by decide) ?o7g2 (jp (by decide) ?o8g2 (jp (by decide) ?o9g2 (jp (by decide) ?o10g2 (jp (by decide) ?o11g2 (zW ?o12g2 (jp (by decide) ?o13g2 (jp (by decide) ?o14g2 zy))))))))))))))) ?restg2
  case hAg2 =>
    intro ptrs
    simp only [full, foldSlots, filledE, postE, List.foldl_cons, List.foldl_nil, List.getD_cons_zero, List.getD_cons_succ, ju, JY, JZ,  List.set_cons_zero, List.set_cons_succ]
    exact rfl
  case o0g2 => exact fun _ _ _ _ => jj (v := pK tp 0) _ rfl rfl rfl
  case o1g2 => exact fun _ _ _ _ => jj (v := iK 1) _ rfl rfl rfl
  case o2g2 => exact fun _ _ hw _ => jb (v := iK 0) rfl (zm 3 _ _ _ rfl 1 1 0 rfl rfl (by decide) (by decide) (by decide) _)
  case o3g2 => exact fun _ _ _ _ => jj (v := pK tp 0) _ rfl rfl rfl
  case o4g2 => exact fun _ _ _ _ => jj (v := iK 1) _ rfl rfl rfl
  case o5g2 => exact fun _ _ hw _ => jb (v := iK 0) rfl (zm 3 _ _ _ rfl 1 1 0 rfl rfl (by decide) (by decide) (by decide) _)
  case o6g2 => exact fun _ _ hw _ => jb (v := pK tp 0) rfl (jl _ rfl _ rfl)
  case o7g2 => exact fun _ _ hw _ => jb (v := pK tp 2) rfl (jc 83 _ 1 rfl _ _ rfl _)
  case o8g2 => exact fun _ _ hw _ => jb (v := pK tp 2) rfl (jB _ _ rfl tp 2 0 (by decide) rfl rfl _)
  case o9g2 => exact fun _ _ hw _ => jb (v := .slice a f.length c) rfl (je 50 _ rfl tp 2 rfl 83 _ (hw.has ktp (H.l0.row.ne ktp (by decide))) (na50 _) _ rfl)
  case o10g2 => exact fun _ _ hw _ => jb (v := .agg (frA y.2)) rfl (jk 46 _ rfl g1 0 95 rfl 46 _ (hw.has kg1 (fun hm => Nat.lt_irrefl _ (n0g1 _ hm))) _ Try.underlying46 rfl si46 _)
  case o11g2 =>
    intro ptrs x hw hE
    exact za _ rfl (zp 50 1 _ rfl [(0, .agg (frA y.2))] rfl (by kernel_rfl)) (jR _ _) ⟨x.heap.size, rfl, Nat.le_trans (Nat.le_of_eq eM.symm) hw.size, heap_alloc_new _ _⟩
  case o12g2 =>
    intro ptrs x hw hE
    exact ZJ (v := ptrs 11) _ _ rfl rfl H.l0 eM hBM hfl ((Gro.refl _).drew.trans hw) rfl FVy rfl hE.1
  case o13g2 => exact fun _ _ hw _ => jb (v := pK tp 0) rfl (jl _ rfl _ rfl)
  case o14g2 => exact fun _ _ hw _ => jb (v := pK tp 2) rfl (jc 83 _ 1 rfl _ _ rfl _)
  intro ptrs w4 GS hxE
  simp only [List.drop_succ_cons, List.drop_zero]
  obtain ⟨_, ⟨a2, c2, hv, HL2, K⟩, _⟩ := hxE
  simp only [hv]
  clear hv
  have GS2 := ((GroS.refl (blk a) w3).drew.trans GS)
  clear GS
  subst eM
  replace ktp := GS2.has ktp (H.l0.row.ne ktp (by decide))
  replace GG := GS2.gro GG H.l0.row.base
  refine sv 38 (pK tp 2) (jB _ _ rfl tp 2 0 (by decide) rfl rfl _) ?_
  refine jo rfl rfl 50 _ _ rfl tp 2 rfl (.slice a2 ((f ++ [y]).length) c2) rfl 83 _ ktp #[.slice a2 ((f ++ [y]).length) c2] rfl (by kernel_rfl) (nlB rfl) (by kernel_rfl) (c83 (some ⟨q0, 0, none⟩) (some ⟨q1, 0, none⟩) ⟨a2, (f ++ [y]).length, c2⟩ ⟨a1, f1.length, c1⟩ ((n0 : Nat) : Int) ((n1 : Nat) : Int) ⟨b0, s0.length, e0⟩ ⟨b1, s1.length, e1⟩ ⟨d0, r0.length, k0⟩ ⟨d1, r1.length, k1⟩) (by kernel_rfl) ?_
  intro w6 St
  have hl2 : j + 1 < fs.length → LF w6 0 ao cap fs := fun hlt => by
    rcases hd with hd | hd
    omega
    exact (HLl.gros GS2 H.l0.no5b hd).no46 ((GroS.refl [tp] _).st St (.inr (by simp))) (jK ktp (by decide) (by decide))
  have hd2 : fs.length ≤ 1 ∨ Dis (blk ao) (blk a2) := hd.imp (fun h => h) fun hd k hk hm => (K k hm).elim (hd k hk) fun h => by have := HLl.row.lt k hk; omega
  have hm2 : ∀ z ∈ (f ++ [y]).map (·.1), z ∈ f0.map (·.1) ∨ z ∈ fs.map (·.1) := fun z hz => by
    rw [List.map_append] at hz
    rcases List.mem_append.1 hz with hz | hz
    exact hmem z hz
    cases List.mem_singleton.1 hz
    exact .inr (List.mem_map_of_mem (List.mem_of_getElem? hy))
  have hf3 : (f ++ [y]).length ≤ 200 := by rw [List.length_append]; exact hf2
  replace GG := GG.store St H.base
  replace H := H.puta0 GS2 K HL2 St
  refine wpList_nil (jQ (ja (wp_region_lit (sv 39 (iK ((j + 1 : Nat) : Int)) (jF 3 _ _ _ rfl ((j : Nat) : Int) 1 ((j + 1 : Nat) : Int) rfl rfl (by omega) (by omega) (by omega) _) (mv 10 (iK ((j + 1 : Nat) : Int)) (wpList_nil (ja ?_)))))))
  exact ⟨_, (by omega : fs.length - (j + 1) < fs.length - j), j + 1, a2, c2, (f ++ [y]), usB [7, 11, 12, 13, 14, 15, 16, 17, 18, 19, 20, 21, 22, 23, 24, 25, 26, 27, 28, 29, 30, 31, 32, 33, 34, 35, 36, 37, 38, 39] rfl rfl ⟨hjn, hf3, hm2, hd2, hl2, GG, H⟩⟩
end Go.Proofs.Ytlfanecaglbomaa
