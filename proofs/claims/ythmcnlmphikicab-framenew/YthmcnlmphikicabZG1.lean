/- Plain, Of. -/
import Derived.Test.YthmcnlmphikicabZF9
namespace Go.Proofs.Ythmcnlmphikicab
open Go.RowKit
theorem FrW.kind {w : World} {f : Fr} {d : FD} (h : FrW w f d) (k : Int) : FrW w { f with kind := k } d := ⟨h.tr, h.ids, h.val, h.tx, h.oids, h.oval, h.otx⟩
def bareD (k : Nat) (d : FD) : FD :=
  ⟨if k = 4 ∨ k = 8 then d.tr else [], if k = 7 then d.ids else [], if k = 10 ∨ k = 11 then d.val else [], if k = 2 ∨ k = 10 then d.tx else []⟩
theorem xc_nil (w : World) (sz : Nat) : XC w sz Sl.nil.ao Sl.nil.cap Sl.nil.n [] := XC.nil w sz
theorem FrW.bare {w : World} {f : Fr} {d : FD} (h : FrW w f d) (k : Nat) (h1 : 1 ≤ k) (h2 : k ≤ 12) : FrW w (bare k f) (bareD k d) := by
  rcases is12 h1 h2 with rfl | rfl | rfl | rfl | rfl | rfl | rfl | rfl | rfl | rfl | rfl | rfl <;>
    refine ⟨?_, ?_, ?_, ?_, ?_, ?_, ?_⟩ <;>
    first
    | exact h.tr | exact h.ids | exact h.val | exact h.tx | exact h.oids | exact h.oval | exact h.otx
    | exact xc_nil w _ | (intro x hx; cases hx)
structure Small (n b : Nat) : Prop where
  out : n * b ≤ 140737488355328
theorem small_nil (b : Nat) : Small Sl.nil.n b := ⟨by show 0 * b ≤ _; omega⟩
structure FrS (f : Fr) : Prop where
  tr : Small f.tr.n 8
  ids : Small f.ids.n 16
  val : Small f.val.n 1
  tx : Small f.tx.n 1
theorem FrS.bare {f : Fr} (h : FrS f) (k : Nat) (h1 : 1 ≤ k) (h2 : k ≤ 12) : FrS (bare k f) := by
  rcases is12 h1 h2 with rfl | rfl | rfl | rfl | rfl | rfl | rfl | rfl | rfl | rfl | rfl | rfl <;>
    refine ⟨?_, ?_, ?_, ?_⟩ <;>
    first
    | exact h.tr | exact h.ids | exact h.val | exact h.tx | exact small_nil _
def AP (w : World) (g : Fr) (d : FD) (v : Fr → Value) (e : Ending) (w' : World) : Prop := ∃ s1 s2 s3 s4 : Sl, e = .returned (v { g with tr := s1, ids := s2, val := s3, tx := s4 }) ∧ FrO w' w.heap.size { g with tr := s1, ids := s2, val := s3, tx := s4 } d ∧ Gro w w'
theorem FrO.apart {w w' : World} {B g : Nat} {f : Fr} {d : FD} {x : Obj} (h : FrO w B f d) (S : Stored w w' g x) (hg : g < B) : FrO w' B f d :=
  ⟨h.tr.apart S (fun ad ha => by have := h.tr.ge ad ha; omega), h.ids.apart S (fun ad ha => by have := h.ids.ge ad ha; omega), h.val.apart S (fun ad ha => by have := h.val.ge ad ha; omega), h.tx.apart S (fun ad ha => by have := h.tx.ge ad ha; omega), h.oids, h.oval, h.otx⟩
set_option maxRecDepth 100000 in
set_option maxHeartbeats 4000000 in
theorem plain_gen (b : Value) (g : Fr) (dd : FD) (k : Int) (w : World) (Hf : ∀ w, Calls Try.prog 17 #[b] w fun e w' => e = .returned (.tuple #[.agg (c36 g.kind g.pw g.pn g.toA g.a g.b g.n g.fi g.fn g.ti g.tn g.tr g.ids g.key g.vn g.vw g.val g.op g.ttl g.tx), .bool true]) ∧ Gro w w') (HK : KindOK b k) (HW : FrW w g dd) (HS : FrS { g with kind := k }) : Calls Try.prog 8 #[b] w (AP w { g with kind := k } dd fun f => .agg (frA f)) := by
  refine s_enter Try.func8 rfl Try.ntmps8 [b] [b, undef, undef, undef, undef, undef, undef, undef, undef, undef, undef, undef, undef, undef, undef, undef, undef, undef] rfl ?_
  have GG := Gro.refl w
  refine wp_seq (wp_region_lit ?_)
  refine s_alloc 2 rfl rfl 40 rfl _ zv36 _ rfl ?_
  intro w1 g1 G eg1 kg1
  have bg1 := size_base GG eg1
  replace GG := GG.trans G
  clear G eg1
  refine wpList_nil (then_n (wp_seq (wp_region_lit (mv 6 (b) ?_))))
  refine s_callv 7 rfl rfl _ 17 Try.call17 rfl rfl _ rfl [b] rfl (Hf _) ?_
  intro w2 G
  replace kg1 := G.has kg1
  replace GG := GG.trans G
  clear G
  simp only [z0, z1]
  refine mv 5 (.tuple #[.agg (c36 g.kind g.pw g.pn g.toA g.a g.b g.n g.fi g.fn g.ti g.tn g.tr g.ids g.key g.vn g.vw g.val g.op g.ttl g.tx), .bool true]) (mv 8 (.agg (c36 g.kind g.pw g.pn g.toA g.a g.b g.n g.fi g.fn g.ti g.tn g.tr g.ids g.key g.vn g.vw g.val g.op g.ttl g.tx)) (mv 9 (.bool true) ?_))
  simp only [z0, z1]
  refine s_alloc 3 rfl rfl 40 rfl _ zv36 _ rfl ?_
  intro w3 g2 G eg2 kg2
  have bg2 := size_base GG eg2
  have dg1g2 := lt_new kg1 eg2
  replace kg1 := G.has kg1
  replace GG := GG.trans G
  clear G eg2
  refine s_store rfl rfl 40 _ _ rfl g2 0 rfl (.agg (c36 g.kind g.pw g.pn g.toA g.a g.b g.n g.fi g.fn g.ti g.tn g.tr g.ids g.key g.vn g.vw g.val g.op g.ttl g.tx)) rfl 40 _ kg2 (c36 g.kind g.pw g.pn g.toA g.a g.b g.n g.fi g.fn g.ti g.tn g.tr g.ids g.key g.vn g.vw g.val g.op g.ttl g.tx) rfl (by kernel_rfl) (Nat.le_of_ble_eq_true rfl) (by kernel_rfl) (c36 g.kind g.pw g.pn g.toA g.a g.b g.n g.fi g.fn g.ti g.tn g.tr g.ids g.key g.vn g.vw g.val g.op g.ttl g.tx) (by kernel_rfl) ?_
  intro w5 S
  replace kg1 := S.has (by omega) kg1
  replace GG := GG.store S bg2
  replace kg2 := S.new
  clear S
  refine mv 4 (.bool true) (wpList_nil (then_n (wp_seq (wp_seq (wp_region_lit (mv 10 (.bool true) ?_))))))
  simp only [z0, z1]
  refine sv 11 (.bool false) (run_nt _ _ rfl true rfl) (wpList_nil (then_n (wp_cond_false rfl (wp_skip (then_n (wp_seq (wp_region_lit (mv 13 (b) ?_))))))))
  simp only [z0, z1]
  refine s_invokeK 14 rfl rfl _ rfl (b) rfl k HK ?_
  intro w6 G
  replace kg1 := G.has kg1
  replace kg2 := G.has kg2
  replace GG := GG.trans G
  clear G
  refine sv 15 (.pointer (some ⟨g2, 0, none⟩)) (run_fld 40 _ 0 rfl _ _ rfl _) ?_
  refine s_store rfl rfl 3 _ _ rfl g2 0 rfl (.int .i64 k) rfl 40 _ kg2 #[.int .i64 k] rfl (by kernel_rfl) (Nat.le_of_ble_eq_true rfl) (by kernel_rfl) (c36 k g.pw g.pn g.toA g.a g.b g.n g.fi g.fn g.ti g.tn g.tr g.ids g.key g.vn g.vw g.val g.op g.ttl g.tx) (by kernel_rfl) ?_
  intro w8 S
  replace kg1 := S.has (by omega) kg1
  replace GG := GG.store S bg2
  replace kg2 := S.new
  clear S
  refine wpList_nil (then_n (wp_seq (wp_region_lit (sv 16 (.agg (c36 k g.pw g.pn g.toA g.a g.b g.n g.fi g.fn g.ti g.tn g.tr g.ids g.key g.vn g.vw g.val g.op g.ttl g.tx)) (run_lda 40 _ rfl g2 0 95 rfl 40 _ kg2 _ Try.underlying40 rfl si36 _) ?_))))
  simp only [z0, z1]
  have dag1 := lt_of_heap kg1
  have dag2 := lt_of_heap kg2
  have qa := GG.size
  refine s_callx 17 rfl rfl _ 15 Try.call15 rfl rfl _ rfl [.agg (c36 k g.pw g.pn g.toA g.a g.b g.n g.fi g.fn g.ti g.tn g.tr g.ids g.key g.vn g.vw g.val g.op g.ttl g.tx)] rfl (apart_any { g with kind := k } dd _ ((HW.kind k).gro GG) HS.tr.out HS.ids.out HS.val.out HS.tx.out) (fun _ _ ⟨_, _, _, _, he, _⟩ => ⟨_, he⟩) ?_
  rintro v w9 ⟨s1, s2, s3, s4, he, HO, G⟩
  cases he
  replace kg1 := G.has kg1
  replace kg2 := G.has kg2
  replace GG := GG.trans G
  clear G
  refine s_store rfl rfl 40 _ _ rfl g1 0 rfl (.agg (c36 k g.pw g.pn g.toA g.a g.b g.n g.fi g.fn g.ti g.tn s1 s2 g.key g.vn g.vw s3 g.op g.ttl s4)) rfl 40 _ kg1 (c36 k g.pw g.pn g.toA g.a g.b g.n g.fi g.fn g.ti g.tn s1 s2 g.key g.vn g.vw s3 g.op g.ttl s4) rfl (by kernel_rfl) (Nat.le_of_ble_eq_true rfl) (by kernel_rfl) (c36 k g.pw g.pn g.toA g.a g.b g.n g.fi g.fn g.ti g.tn s1 s2 g.key g.vn g.vw s3 g.op g.ttl s4) (by kernel_rfl) ?_
  intro w11 S
  replace kg2 := S.has (by omega) kg2
  replace HO := HO.apart S (by omega)
  replace GG := GG.store S bg1
  replace kg1 := S.new
  clear S
  refine wpList_nil (then_n (wp_ret ?_))
  refine bodyPost_ret (results_cell_row Try.results8 _ _ g1 40 _ (0, 0) _ rfl kg1 Try.underlying40 rfl (by kernel_rfl)) rfl ?_
  exact ⟨s1, s2, s3, s4, rfl, HO.mono qa, GG⟩
theorem plain_any (k : Nat) (h1 : 1 ≤ k) (h2 : k ≤ 12) (f : Fr) (d : FD) (w : World) (HW : FrW w f d) (HS : FrS f) : Calls Try.prog 8 #[bodyV k f] w (AP w { bare k f with kind := (k : Int) } (bareD k d) fun f => .agg (frA f)) := by
  have h := HS.bare k h1 h2
  exact plain_gen (bodyV k f) (bare k f) (bareD k d) k w (fields_any k h1 h2 f) (kind_any k h1 h2 f) (HW.bare k h1 h2) ⟨h.tr, h.ids, h.val, h.tx⟩
end Go.Proofs.Ythmcnlmphikicab
