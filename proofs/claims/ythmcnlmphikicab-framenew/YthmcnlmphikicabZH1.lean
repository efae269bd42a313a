/- The chapter's examples (fixed); two frames of noughts are one (Same). -/
import Derived.Test.YthmcnlmphikicabZR8
import Derived.Test.YthmcnlmphikicabZG6
namespace Go.Proofs.Ythmcnlmphikicab
open Go.RowKit
def D0 : FD := ⟨[], [], [], []⟩
def F5 : Fr := ⟨5, zF, 1, false, zF, zF, 0, 0, 0, 0, 0, Sl.nil, Sl.nil, zF, 0, zF, Sl.nil, 0, 0, Sl.nil⟩
def E5 : Fr := ⟨5, zF, 0, false, zF, zF, 0, 0, 0, 0, 0, Sl.nil, Sl.nil, zF, 0, zF, Sl.nil, 0, 0, Sl.nil⟩
def L5 : List Nat := [1, 5, 0, 0, 0, 0, 0, 0, 0, 0, 0, 0, 0, 0, 0, 0, 0, 0, 1, 1]
theorem frw0 (w : World) (f : Fr) (h1 : f.tr = Sl.nil) (h2 : f.ids = Sl.nil) (h3 : f.val = Sl.nil) (h4 : f.tx = Sl.nil) : FrW w f D0 :=
  ⟨by rw [h1]; exact xc_nil w 1, by rw [h2]; exact xc_nil w 16, by rw [h3]; exact xc_nil w 1, by rw [h4]; exact xc_nil w 1, (by intro x hx; cases hx), (by intro x hx; cases hx), (by intro x hx; cases hx)⟩
theorem l5 : frameL 5 F5 D0 = L5 := by decide
theorem enc5 (w : World) : Calls Try.prog 11 #[.agg (c36 5 zF 1 false zF zF 0 0 0 0 0 Sl.nil Sl.nil zF 0 zF Sl.nil 0 0 Sl.nil)] w fun e w' => ∃ ao cap, e = .returned (.tuple #[.slice ao L5.length cap, .int .i64 0]) ∧ OB w' 5 .u8 w.heap.size ao cap L5 ∧ Gro w w' := by
  have h := encode_ok 5 (by omega) (by omega) F5 rfl D0 w (frw0 w F5 rfl rfl rfl rfl) ⟨Nat.zero_le _, Nat.zero_le _⟩ ⟨okI_zF, okI_zF, okI_zF, okI_zF, okI_zF, by decide, by decide, by decide, by decide, by decide, by decide, by decide, by decide, by decide⟩ (by decide) (by decide) (by decide) w.heap.size (Nat.le_refl _)
  rw [l5] at h
  exact h
theorem dec1 : decE [1, 13] = .error 2 := by kernel_rfl
theorem dec0 : decE [] = .error 3 := by kernel_rfl
def L6 : List Nat := [1, 5, 0, 0, 0, 0, 0, 0, 0, 0, 0, 0, 0, 0, 0, 0, 0, 0, 1, 1, 0]
theorem l6 : ([] ++ L5) ++ [0] = L6 := by decide
theorem dec2 : decE L6 = .error 4 := by kernel_rfl
theorem decErr {l : List Nat} {x : Nat} (hD : decE l = .error x) (hx : x ≠ 0) (so : Option Addr) (sc : Nat) (w : World) (H : NC w .u8 so sc l) (hl : l.length ≤ 1000) : Calls Try.prog 12 #[.slice so l.length sc] w fun e w' => e = .returned (.tuple #[.agg (frA Fr.zero), .int .i64 ((x : Nat) : Int)]) ∧ Gro w w' := by
  have h := decode_E so sc l w H (by omega) x hx hD
  unfold DecP at h
  rw [hD] at h
  exact h.mono fun _ _ ⟨G, he⟩ => ⟨he, G⟩
theorem ofE5 (w : World) : Calls Try.prog 5 #[.agg (c36 5 zF 0 false zF zF 0 0 0 0 0 Sl.nil Sl.nil zF 0 zF Sl.nil 0 0 Sl.nil)] w fun e w' => ∃ g : Fr, e = .returned (.tuple #[bodyV 5 g, .bool true]) ∧ Gro w w' :=
  (of_any 5 (by omega) (by omega) E5 rfl D0 w (frw0 w E5 rfl rfl rfl rfl) ⟨small_nil _, small_nil _, small_nil _, small_nil _⟩).mono fun _ _ ⟨_, _, _, _, he, _, G⟩ => ⟨_, he, G⟩
theorem nc_113 {w : World} {g : Nat} (hg : w.heap[g]? = some (.cells #[.int .u8 1, .int .u8 13] 5 (0, 0))) : NC w .u8 (some ⟨g, 0, none⟩) 2 [1, 13] := by
  refine nc_part hg [1, 13] 2 (Nat.le_refl _) (fun i hi => ?_) (by intro x hx; simp at hx; omega)
  match i, hi with
  | 0, _ => rfl
  | 1, _ => rfl
theorem nc_0 {w : World} {g : Nat} (hg : w.heap[g]? = some (.cells #[.int .u8 0] 5 (0, 0))) : NC w .u8 (some ⟨g, 0, none⟩) 1 [0] := by
  refine nc_part hg [0] 1 (Nat.le_refl _) (fun i hi => ?_) (by intro x hx; simp at hx; omega)
  match i, hi with
  | 0, _ => rfl
theorem ob_below {w w' : World} {e : TypeId} {k : IntKind} {B C : Nat} {ao : Option Addr} {cap : Nat} {l : List Nat} (h : OB w e k B ao cap l) (G : Below C w w') (hb : ∀ ad, ao = some ad → ad.block < C) : OB w' e k B ao cap l := by
  refine ⟨⟨h.own.1, ?_⟩, h.wf⟩
  rcases h.own.2 with h1 | ⟨g, c, cur, h1, h2, h3, h4⟩
  · exact .inl h1
  · refine .inr ⟨g, c, cur, h1, h2, ?_, h4⟩
    cases ao with
    | none => cases h1
    | some ad =>
      have : ad.block = g := by cases h1; rfl
      rw [G.block g (by have := hb ad rfl; omega)]
      exact h3
theorem s_app {P : Program} {ops : Array Oper} {rest : List Oper} {o : Oper} {T : List Value} {ds : List Deferred} {w : World} {Q : Exit → Act → World → Prop} {t e : TypeId} {k : IntKind} {b : Nat} (TT : NumT P t e k b) (dst : Nat) (hd : o.dst = some dst) (hgd : o.guard = none) (s x : Operand)
    (ho : o.op = .call { callee := .builtin .append, args := #[s, x], argTypes := #[t, t] }) {B : Nat} {ao : Option Addr} {cap : Nat} {l : List Nat} (hs : (⟨T.toArray, ds⟩ : Act).eval s = .slice ao l.length cap) (hown : OB w e k B ao cap l)
    {ao' : Option Addr} {cap' : Nat} {l' : List Nat} (hx : (⟨T.toArray, ds⟩ : Act).eval x = .slice ao' l'.length cap') (hsrc : NC w k ao' cap' l') (hb : (l.length + l'.length) * b ≤ 140737488355328) (hb0 : 0 < b) (hB : B ≤ w.heap.size)
    (h : ∀ ao2 cap2 w', OB w' e k B ao2 cap2 (l ++ l') → Below B w w' → wpList P ops Q rest ⟨(T.set dst (.slice ao2 (l ++ l').length cap2)).toArray, ds⟩ w') : wpList P ops Q (o :: rest) ⟨T.toArray, ds⟩ w :=
  wpList_app TT dst hd hgd s x ho hs hown hx hsrc hb hb0 hB fun ao2 cap2 L w' hL h1 h2 => by
    have e1 := hL.out
    subst e1
    rw [put_list]
    exact h ao2 cap2 w' h1 h2
theorem s_ginvokeK {ops : Array Oper} {rest : List Oper} {o : Oper} {T : List Value} {ds : List Deferred} {w : World} {Q : Exit → Act → World → Prop} (dst : Nat) (hd : o.dst = some dst) (hw : Region.wanted o (yielded ops T.toArray) = true) (x : Operand) (ho : o.op = .call { callee := .invoke x "Kind", args := #[], argTypes := #[] }) (b : Value) (hx : (⟨T.toArray, ds⟩ : Act).eval x = b) (k : Int) (H : KindOK b k)
    (h : ∀ w', Gro w w' → wpList Try.prog ops Q rest ⟨(T.set dst (.int .i64 k)).toArray, ds⟩ w') : wpList Try.prog ops Q (o :: rest) ⟨T.toArray, ds⟩ w := by
  obtain ⟨f, vs, h1, h2⟩ := H.run w
  refine wpList_step fun K hK => ?_
  rw [if_pos hw]
  unfold Oper.wp
  rw [run_inv x "Kind" ho b hx h1, Oper.upon_enter]
  refine h2.mono fun e w' hR => ?_
  obtain ⟨rfl, hR⟩ := hR
  have := h w' hR
  rw [← put_list, ← hd] at this
  exact hK _ _ this
set_option maxRecDepth 100000 in
set_option maxHeartbeats 4000000 in
theorem fixed_any (w : World) : Calls Try.prog 6 #[] w fun e w' => e = .returned (.bool true) ∧ Gro w w' := by
  refine s_enterR Try.func6 rfl Try.ntmps6 [] ?_
  intro U h; simp only [List.length_nil, List.nil_append, Nat.reduceSub, List.reduceReplicate] at h; subst h
  have GG := Gro.refl w
  refine wp_seq (wp_region_lit (mv 0 (.bool false) ?_))
  refine nr ?_; intro U h; simp only [z0] at h; subst h
  refine wpList_nil (then_n (wp_seq (wp_region_lit (sv 12 (.agg (c25 zF 1)) (run_bd 29 _ rfl [(1, .int .i64 1)] rfl _ (by kernel_rfl)) (sv 13 (.agg (c36 5 zF 1 false zF zF 0 0 0 0 0 Sl.nil Sl.nil zF 0 zF Sl.nil 0 0 Sl.nil)) (run_bd 40 _ rfl [(0, .int .i64 5), (1, .agg (c25 zF 1))] rfl _ (by kernel_rfl)) ?_)))))
  refine s_callx 14 rfl rfl _ 11 Try.call11 rfl rfl _ rfl [.agg (c36 5 zF 1 false zF zF 0 0 0 0 0 Sl.nil Sl.nil zF 0 zF Sl.nil 0 0 Sl.nil)] rfl (enc5 _) (fun _ _ ⟨_, _, he, _⟩ => ⟨_, he⟩) ?_
  rintro v w1 ⟨o1ao, o1cap, he, o1, G⟩
  cases he
  replace GG := GG.trans G
  clear G
  simp only [z0, z1]
  refine mv 11 (.tuple #[.slice o1ao L5.length o1cap, .int .i64 0]) (mv 15 (.slice o1ao L5.length o1cap) (mv 16 (.int .i64 0) ?_))
  simp only [z0, z1]
  refine mv 1 (.slice o1ao L5.length o1cap) (mv 2 (.int .i64 0) (wpList_nil (then_n (wp_seq (wp_region_lit ?_)))))
  refine s_bsl 18 rfl rfl 36 2 _ rfl [(0, .int .u8 1), (1, .int .u8 13)] rfl #[.int .u8 1, .int .u8 13] 5 (by kernel_rfl) ?_
  intro w2 g1 G eg1 kg1
  have bg1 := size_base GG eg1
  have xo1g1 : ∀ ad, o1ao = some ad → ad.block < g1 := fun ad ha => eg1 ▸ (o1.ge ad ha).2
  replace o1 := o1.gro G
  replace GG := GG.trans G
  clear G eg1
  simp only [z0, z1]
  refine s_callv 19 rfl rfl _ 12 Try.call12 rfl rfl _ rfl [.slice (some ⟨g1, 0, none⟩) 2 2] rfl (decErr dec1 (by decide) _ _ _ (nc_113 kg1) (by decide)) ?_
  intro w3 G
  replace o1 := o1.gro G
  replace kg1 := G.has kg1
  replace GG := GG.trans G
  clear G
  refine mv 17 (.tuple #[.agg (c36 0 zF 0 false zF zF 0 0 0 0 0 Sl.nil Sl.nil zF 0 zF Sl.nil 0 0 Sl.nil), .int .i64 ((2 : Nat) : Int)]) (mv 20 (.agg (c36 0 zF 0 false zF zF 0 0 0 0 0 Sl.nil Sl.nil zF 0 zF Sl.nil 0 0 Sl.nil)) ?_)
  simp only [z0, z1]
  refine mv 21 (.int .i64 ((2 : Nat) : Int)) ?_
  refine s_alloc 3 rfl rfl 40 rfl _ zv36 _ rfl ?_
  intro w4 g2 G eg2 kg2
  have xo1g2 : ∀ ad, o1ao = some ad → ad.block < g2 := fun ad ha => eg2 ▸ (o1.ge ad ha).2
  have bg2 := size_base GG eg2
  have dg1g2 := lt_new kg1 eg2
  replace kg1 := G.has kg1
  replace o1 := o1.gro G
  replace GG := GG.trans G
  clear G eg2
  refine s_store rfl rfl 40 _ _ rfl g2 0 rfl (.agg (c36 0 zF 0 false zF zF 0 0 0 0 0 Sl.nil Sl.nil zF 0 zF Sl.nil 0 0 Sl.nil)) rfl 40 _ kg2 (c36 0 zF 0 false zF zF 0 0 0 0 0 Sl.nil Sl.nil zF 0 zF Sl.nil 0 0 Sl.nil) rfl (by kernel_rfl) (Nat.le_of_ble_eq_true rfl) (by kernel_rfl) (c36 0 zF 0 false zF zF 0 0 0 0 0 Sl.nil Sl.nil zF 0 zF Sl.nil 0 0 Sl.nil) (by kernel_rfl) ?_
  intro w6 S
  replace kg1 := S.has (by omega) kg1
  replace GG := GG.store S bg2
  replace kg2 := S.new
  replace o1 := o1.apart S (fun ad ha => by have := xo1g2 ad ha; omega)
  clear S
  refine mv 4 (.int .i64 ((2 : Nat) : Int)) ?_
  simp only [z0, z1]
  refine wpList_nil (then_n (wp_seq (wp_region_lit ?_)))
  refine s_callv 23 rfl rfl _ 12 Try.call12 rfl rfl _ rfl [.slice none 0 0] rfl (decErr dec0 (by decide) none 0 _ (NC.nil _ _) (by decide)) ?_
  intro w7 G
  replace o1 := o1.gro G
  replace kg1 := G.has kg1
  replace kg2 := G.has kg2
  replace GG := GG.trans G
  clear G
  refine mv 22 (.tuple #[.agg (c36 0 zF 0 false zF zF 0 0 0 0 0 Sl.nil Sl.nil zF 0 zF Sl.nil 0 0 Sl.nil), .int .i64 ((3 : Nat) : Int)]) (mv 24 (.agg (c36 0 zF 0 false zF zF 0 0 0 0 0 Sl.nil Sl.nil zF 0 zF Sl.nil 0 0 Sl.nil)) ?_)
  simp only [z0, z1]
  refine mv 25 (.int .i64 ((3 : Nat) : Int)) ?_
  refine s_alloc 5 rfl rfl 40 rfl _ zv36 _ rfl ?_
  intro w8 g3 G eg3 kg3
  have xo1g3 : ∀ ad, o1ao = some ad → ad.block < g3 := fun ad ha => eg3 ▸ (o1.ge ad ha).2
  have bg3 := size_base GG eg3
  have dg1g3 := lt_new kg1 eg3
  have dg2g3 := lt_new kg2 eg3
  replace kg1 := G.has kg1
  replace kg2 := G.has kg2
  replace o1 := o1.gro G
  replace GG := GG.trans G
  clear G eg3
  refine s_store rfl rfl 40 _ _ rfl g3 0 rfl (.agg (c36 0 zF 0 false zF zF 0 0 0 0 0 Sl.nil Sl.nil zF 0 zF Sl.nil 0 0 Sl.nil)) rfl 40 _ kg3 (c36 0 zF 0 false zF zF 0 0 0 0 0 Sl.nil Sl.nil zF 0 zF Sl.nil 0 0 Sl.nil) rfl (by kernel_rfl) (Nat.le_of_ble_eq_true rfl) (by kernel_rfl) (c36 0 zF 0 false zF zF 0 0 0 0 0 Sl.nil Sl.nil zF 0 zF Sl.nil 0 0 Sl.nil) (by kernel_rfl) ?_
  intro w10 S
  replace kg1 := S.has (by omega) kg1
  replace kg2 := S.has (by omega) kg2
  replace GG := GG.store S bg3
  replace kg3 := S.new
  replace o1 := o1.apart S (fun ad ha => by have := xo1g3 ad ha; omega)
  clear S
  refine mv 6 (.int .i64 ((3 : Nat) : Int)) ?_
  simp only [z0, z1]
  refine wpList_nil (then_n (wp_seq (wp_region_lit ?_)))
  refine s_bsl 27 rfl rfl 36 0 _ rfl [] rfl #[] 5 (by kernel_rfl) ?_
  intro w11 g4 G eg4 kg4
  have bg4 := size_base GG eg4
  have dg1g4 := lt_new kg1 eg4
  have dg2g4 := lt_new kg2 eg4
  have dg3g4 := lt_new kg3 eg4
  have xo1g4 : ∀ ad, o1ao = some ad → ad.block < g4 := fun ad ha => eg4 ▸ (o1.ge ad ha).2
  replace kg1 := G.has kg1
  replace kg2 := G.has kg2
  replace kg3 := G.has kg3
  replace o1 := o1.gro G
  replace GG := GG.trans G
  clear G eg4
  simp only [z0, z1]
  have o2 : OB _ 5 .u8 g4 (some ⟨g4, 0, none⟩) 0 [] := OB.made kg4 (Nat.le_refl _) (Nat.le_refl _) (by decide) rfl rfl (fun x hx => by (cases hx))
  have szb := Nat.le_of_lt (lt_of_heap kg4)
  refine mv 28 (.slice o1ao L5.length o1cap) ?_
  refine s_app bT 29 rfl rfl _ _ rfl rfl o2 rfl o1.nc (by decide) (by decide) szb ?_
  intro ao3 cap3 w12 o3 B2
  replace kg1 := (B2.block g1 (by omega)).trans kg1
  replace kg2 := (B2.block g2 (by omega)).trans kg2
  replace kg3 := (B2.block g3 (by omega)).trans kg3
  replace o1 := ob_below o1 B2 xo1g4
  replace szb := Nat.le_trans szb B2.size
  replace GG : Gro w w12 := Below.trans GG (B2.mono bg4)
  clear B2
  refine s_bsl 30 rfl rfl 36 1 _ rfl [(0, .int .u8 0)] rfl #[.int .u8 0] 5 (by kernel_rfl) ?_
  intro w13 g5 G eg5 kg5
  have bg5 := size_base GG eg5
  have dg1g5 := lt_new kg1 eg5
  have dg2g5 := lt_new kg2 eg5
  have dg3g5 := lt_new kg3 eg5
  have xo1g5 : ∀ ad, o1ao = some ad → ad.block < g5 := fun ad ha => eg5 ▸ (o1.ge ad ha).2
  replace kg1 := G.has kg1
  replace kg2 := G.has kg2
  replace kg3 := G.has kg3
  replace o1 := o1.gro G
  replace szb := Nat.le_trans szb G.size
  replace o3 := o3.gro G
  replace GG := GG.trans G
  clear G eg5
  simp only [z0, z1]
  refine s_app bT 31 rfl rfl _ _ rfl rfl o3 rfl (nc_0 kg5) (by decide) (by decide) szb ?_
  intro ao4 cap4 w14 o4 B2
  replace kg1 := (B2.block g1 (by omega)).trans kg1
  replace kg2 := (B2.block g2 (by omega)).trans kg2
  replace kg3 := (B2.block g3 (by omega)).trans kg3
  replace o1 := ob_below o1 B2 xo1g4
  replace szb := Nat.le_trans szb B2.size
  replace GG : Gro w w14 := Below.trans GG (B2.mono bg4)
  clear B2
  simp only [z0, z1]
  rw [l6] at o4
  simp only [l6]
  refine s_callv 32 rfl rfl _ 12 Try.call12 rfl rfl _ rfl [.slice ao4 L6.length cap4] rfl (decErr dec2 (by decide) _ _ _ o4.nc (by decide)) ?_
  intro w15 G
  replace o1 := o1.gro G
  replace kg1 := G.has kg1
  replace kg2 := G.has kg2
  replace kg3 := G.has kg3
  replace GG := GG.trans G
  clear G
  refine mv 26 (.tuple #[.agg (c36 0 zF 0 false zF zF 0 0 0 0 0 Sl.nil Sl.nil zF 0 zF Sl.nil 0 0 Sl.nil), .int .i64 ((4 : Nat) : Int)]) (mv 33 (.agg (c36 0 zF 0 false zF zF 0 0 0 0 0 Sl.nil Sl.nil zF 0 zF Sl.nil 0 0 Sl.nil)) ?_)
  simp only [z0, z1]
  refine mv 34 (.int .i64 ((4 : Nat) : Int)) ?_
  refine s_alloc 7 rfl rfl 40 rfl _ zv36 _ rfl ?_
  intro w16 g6 G eg6 kg6
  have xo1g6 : ∀ ad, o1ao = some ad → ad.block < g6 := fun ad ha => eg6 ▸ (o1.ge ad ha).2
  have bg6 := size_base GG eg6
  have dg1g6 := lt_new kg1 eg6
  have dg2g6 := lt_new kg2 eg6
  have dg3g6 := lt_new kg3 eg6
  replace kg1 := G.has kg1
  replace kg2 := G.has kg2
  replace kg3 := G.has kg3
  replace o1 := o1.gro G
  replace GG := GG.trans G
  clear G eg6
  refine s_store rfl rfl 40 _ _ rfl g6 0 rfl (.agg (c36 0 zF 0 false zF zF 0 0 0 0 0 Sl.nil Sl.nil zF 0 zF Sl.nil 0 0 Sl.nil)) rfl 40 _ kg6 (c36 0 zF 0 false zF zF 0 0 0 0 0 Sl.nil Sl.nil zF 0 zF Sl.nil 0 0 Sl.nil) rfl (by kernel_rfl) (Nat.le_of_ble_eq_true rfl) (by kernel_rfl) (c36 0 zF 0 false zF zF 0 0 0 0 0 Sl.nil Sl.nil zF 0 zF Sl.nil 0 0 Sl.nil) (by kernel_rfl) ?_
  intro w18 S
  replace kg1 := S.has (by omega) kg1
  replace kg2 := S.has (by omega) kg2
  replace kg3 := S.has (by omega) kg3
  replace GG := GG.store S bg6
  replace kg6 := S.new
  replace o1 := o1.apart S (fun ad ha => by have := xo1g6 ad ha; omega)
  clear S
  refine mv 8 (.int .i64 ((4 : Nat) : Int)) ?_
  simp only [z0, z1]
  refine wpList_nil (then_n (wp_seq (wp_region_lit (sv 36 (.agg (c36 5 zF 0 false zF zF 0 0 0 0 0 Sl.nil Sl.nil zF 0 zF Sl.nil 0 0 Sl.nil)) (run_bd 40 _ rfl [(0, .int .i64 5)] rfl _ (by kernel_rfl)) ?_))))
  refine s_callx 37 rfl rfl _ 5 Try.call5 rfl rfl _ rfl [.agg (c36 5 zF 0 false zF zF 0 0 0 0 0 Sl.nil Sl.nil zF 0 zF Sl.nil 0 0 Sl.nil)] rfl (ofE5 _) (fun _ _ ⟨_, he, _⟩ => ⟨_, he⟩) ?_
  rintro v w19 ⟨gg, he, G⟩
  cases he
  replace o1 := o1.gro G
  replace kg1 := G.has kg1
  replace kg2 := G.has kg2
  replace kg3 := G.has kg3
  replace kg6 := G.has kg6
  replace GG := GG.trans G
  clear G
  refine mv 35 (.tuple #[.iface 75 (.agg (c87 gg.pw gg.pn)), .bool true]) ?_
  simp only [z0, z1]
  refine mv 38 (.iface 75 (.agg (c87 gg.pw gg.pn))) (mv 39 (.bool true) (mv 9 (.iface 75 (.agg (c87 gg.pw gg.pn))) ?_))
  simp only [z0, z1]
  refine mv 10 (.bool true) (wpList_nil (then_n (wp_seq ?_)))
  obtain ⟨ad1, rfl, _⟩ := o1.nc.at (j := 0) (by decide)
  have hc1 : ∀ j, j < L5.length → w19.cell? (ad1.add j) = some (.int .u8 ((L5.getD j 0 : Nat) : Int)) := fun j hj => by obtain ⟨ad, h1, h2⟩ := o1.nc.at hj; cases h1; exact h2
  refine wp_region_opq ?_
  intro OPS hY
  have y2 := hY 2 42 rfl
  have y7 := hY 7 47 rfl
  have y13 := hY 13 53 rfl
  have y19 := hY 19 59 rfl
  have y23 := hY 23 63 rfl
  have y27 := hY 27 67 rfl
  have y31 := hY 31 71 rfl
  have y34 := hY 34 74 rfl
  have y38 := hY 38 78 rfl
  clear hY
  refine mv 40 (.int .i64 0) (sv 41 (.bool true) (run_eq_k 47 .i64 _ _ _ rfl Try.underlying47 _ _ rfl rfl true rfl _) ?_)
  simp only [z0, z1]
  refine mv 42 (.bool true) (s_gvalY 43 rfl rfl y2 rfl (.slice (some ad1) L5.length o1cap) (rfl) (s_gvalY 44 rfl rfl y2 rfl (.int .i64 ((L5.length : Nat) : Int)) (run_len Try.underlying36 _ rfl _ _ _ rfl _) ?_))
  simp only [z0, z1]
  refine s_gvalY 45 rfl rfl y2 rfl (.bool true) (run_eq_k 3 .i64 _ _ _ rfl Try.underlying3 _ _ rfl rfl true (by decide) _) (mv 46 (.bool true) (mv 47 (.bool true) ?_))
  simp only [z0, z1]
  refine s_gvalY 48 rfl rfl y7 rfl (.slice (some ad1) L5.length o1cap) (rfl) (s_gvalY 49 rfl rfl y7 rfl (.pointer (some (ad1.add 1))) (run_idx bT _ _ rfl ad1 L5.length o1cap 1 rfl rfl (by decide) _) (s_gvalY 50 rfl rfl y7 rfl (.int .u8 ((5 : Nat) : Int)) (run_ld bT _ rfl (ad1.add 1) rfl _ _ (hc1 1 (by decide))) ?_))
  simp only [z0, z1]
  refine s_gvalY 51 rfl rfl y7 rfl (.bool true) (run_eq_k 5 .u8 _ _ _ rfl Try.underlying5 _ _ rfl rfl true (by decide) _) (mv 52 (.bool true) (mv 53 (.bool true) ?_))
  simp only [z0, z1]
  refine s_gvalY 54 rfl rfl y13 rfl (.slice (some ad1) L5.length o1cap) (rfl) (s_gvalY 55 rfl rfl y13 rfl (.pointer (some (ad1.add 18))) (run_idx bT _ _ rfl ad1 L5.length o1cap 18 rfl rfl (by decide) _) (s_gvalY 56 rfl rfl y13 rfl (.int .u8 ((1 : Nat) : Int)) (run_ld bT _ rfl (ad1.add 18) rfl _ _ (hc1 18 (by decide))) ?_))
  simp only [z0, z1]
  refine s_gvalY 57 rfl rfl y13 rfl (.bool true) (run_eq_k 5 .u8 _ _ _ rfl Try.underlying5 _ _ rfl rfl true (by decide) _) (mv 58 (.bool true) (mv 59 (.bool true) ?_))
  simp only [z0, z1]
  refine s_gvalY 60 rfl rfl y19 rfl (.int .i64 ((2 : Nat) : Int)) (rfl) (s_gvalY 61 rfl rfl y19 rfl (.bool true) (run_eq_k 47 .i64 _ _ _ rfl Try.underlying47 _ _ rfl rfl true (by decide) _) (mv 62 (.bool true) ?_))
  simp only [z0, z1]
  refine mv 63 (.bool true) (s_gvalY 64 rfl rfl y23 rfl (.int .i64 ((3 : Nat) : Int)) (rfl) (s_gvalY 65 rfl rfl y23 rfl (.bool true) (run_eq_k 47 .i64 _ _ _ rfl Try.underlying47 _ _ rfl rfl true (by decide) _) ?_))
  simp only [z0, z1]
  refine mv 66 (.bool true) (mv 67 (.bool true) (s_gvalY 68 rfl rfl y27 rfl (.int .i64 ((4 : Nat) : Int)) (rfl) ?_))
  simp only [z0, z1]
  refine s_gvalY 69 rfl rfl y27 rfl (.bool true) (run_eq_k 47 .i64 _ _ _ rfl Try.underlying47 _ _ rfl rfl true (by decide) _) (mv 70 (.bool true) (mv 71 (.bool true) ?_))
  simp only [z0, z1]
  refine s_gvalY 72 rfl rfl y31 rfl (.bool true) (rfl) (mv 73 (.bool true) (mv 74 (.bool true) ?_))
  simp only [z0, z1]
  refine s_gvalY 75 rfl rfl y34 rfl (.iface 75 (.agg (c87 gg.pw gg.pn))) (rfl) (s_gvalY 76 rfl rfl y34 rfl (.bool true) (run_binop .neq 23 _ _ _ rfl _ _ _ rfl rfl (by kernel_rfl) (by kernel_rfl)) (mv 77 (.bool true) ?_))
  simp only [z0, z1]
  refine mv 78 (.bool true) (s_gvalY 79 rfl rfl y38 rfl (.iface 75 (.agg (c87 gg.pw gg.pn))) (rfl) ?_)
  simp only [z0, z1]
  refine s_ginvokeK 80 rfl (wanted_yv rfl y38 rfl) _ rfl (.iface 75 (.agg (c87 gg.pw gg.pn))) rfl 5 (kind_any 5 (by omega) (by omega) gg) ?_
  intro w20 G
  replace o1 := o1.gro G
  replace kg1 := G.has kg1
  replace kg2 := G.has kg2
  replace kg3 := G.has kg3
  replace kg6 := G.has kg6
  replace GG := GG.trans G
  clear G
  refine s_gvalY 81 rfl rfl y38 rfl (.bool true) (run_eq_k 3 .i64 _ _ _ rfl Try.underlying3 _ _ rfl rfl true rfl _) (mv 82 (.bool true) ?_)
  simp only [z0, z1]
  refine mv 0 (.bool true) ?_
  refine nr ?_; intro U h; simp only [z0] at h; subst h
  refine wpList_nil (then_n (wp_ret ?_))
  refine bodyPost_ret (results_tmp Try.results6 _ _ _) rfl ?_
  exact ⟨rfl, GG⟩
end Go.Proofs.Ythmcnlmphikicab
