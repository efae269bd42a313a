/- Copies of rows; a frame with lists of its own (frame.apart). -/
import Derived.Test.YthmcnlmphikicabZF7
namespace Go.Proofs.Ythmcnlmphikicab
open Go.RowKit
structure FrW (w : World) (f : Fr) (d : FD) : Prop where
  tr : XC w 1 f.tr.ao f.tr.cap f.tr.n (d.tr.map (Value.int .i64 ·))
  ids : XC w 16 f.ids.ao f.ids.cap f.ids.n (cellsI d.ids)
  val : XC w 1 f.val.ao f.val.cap f.val.n (bL d.val)
  tx : XC w 1 f.tx.ao f.tx.cap f.tx.n (bL d.tx)
  oids : ok16 d.ids
  oval : ∀ x ∈ d.val, x < 256
  otx : ∀ x ∈ d.tx, x < 256
structure FrO (w : World) (B : Nat) (f : Fr) (d : FD) : Prop where
  tr : OX w 3 1 B f.tr.ao f.tr.cap f.tr.n (d.tr.map (Value.int .i64 ·))
  ids : OX w 27 16 B f.ids.ao f.ids.cap f.ids.n (cellsI d.ids)
  val : OX w 5 1 B f.val.ao f.val.cap f.val.n (bL d.val)
  tx : OX w 5 1 B f.tx.ao f.tx.cap f.tx.n (bL d.tx)
  oids : ok16 d.ids
  oval : ∀ x ∈ d.val, x < 256
  otx : ∀ x ∈ d.tx, x < 256
theorem FrW.gro {w w' : World} {f : Fr} {d : FD} (h : FrW w f d) (G : Gro w w') : FrW w' f d := ⟨h.tr.gro G, h.ids.gro G, h.val.gro G, h.tx.gro G, h.oids, h.oval, h.otx⟩
theorem FrO.gro {w w' : World} {B : Nat} {f : Fr} {d : FD} (h : FrO w B f d) (G : Gro w w') : FrO w' B f d := ⟨h.tr.gro G, h.ids.gro G, h.val.gro G, h.tx.gro G, h.oids, h.oval, h.otx⟩
theorem FrO.frw {w : World} {B : Nat} {f : Fr} {d : FD} (h : FrO w B f d) : FrW w f d := ⟨h.tr.xc, h.ids.xc, h.val.xc, h.tx.xc, h.oids, h.oval, h.otx⟩
theorem FrO.mono {w : World} {B B' : Nat} {f : Fr} {d : FD} (h : FrO w B f d) (hB : B' ≤ B) : FrO w B' f d := ⟨h.tr.mono hB, h.ids.mono hB, h.val.mono hB, h.tx.mono hB, h.oids, h.oval, h.otx⟩
theorem xc_len1 {w : World} {ao : Option Addr} {cap n : Nat} {α : Type} {l : List α} {g : α → Value} (h : XC w 1 ao cap n (l.map g)) : n = l.length := by have := h.len; simp at this; omega
theorem xc_nc {w : World} {ao : Option Addr} {cap n : Nat} {l : List Nat} (h : XC w 1 ao cap n (bL l)) (hl : ∀ x ∈ l, x < 256) : NC w .u8 ao cap l := by
  have hn : n = l.length := xc_len1 h
  refine ⟨by have := h.fit; omega, h.bare, fun ad ha j hj => h.cell ad ha j _ ?_, fun x hx => by rw [max_u8]; have := hl x hx; omega⟩
  simp [bL, List.getD_eq_getElem?_getD, List.getElem?_eq_getElem hj]
theorem xc_lenI {w : World} {ao : Option Addr} {cap n : Nat} {l : List (List Nat)} (h : XC w 16 ao cap n (cellsI l)) (hl : ok16 l) : n = l.length := by
  have h1 := h.len
  have h2 : (cellsI l).length = 16 * l.length := by
    rw [← flatI_len l hl]
    have : ∀ m : List (List Nat), (cellsI m).length = m.flatten.length := fun m => by
      induction m with
      | nil => rfl
      | cons a m ih => simp only [cellsI, List.flatMap_cons, List.length_append, List.flatten_cons] at *; rw [ih]; simp [bL]
    exact this l
  omega
theorem FrW.trn {w : World} {f : Fr} {d : FD} (h : FrW w f d) : f.tr.n = d.tr.length := xc_len1 h.tr
theorem FrW.idn {w : World} {f : Fr} {d : FD} (h : FrW w f d) : f.ids.n = d.ids.length := xc_lenI h.ids h.oids
theorem FrW.valn {w : World} {f : Fr} {d : FD} (h : FrW w f d) : f.val.n = d.val.length := xc_len1 h.val
theorem FrW.txn {w : World} {f : Fr} {d : FD} (h : FrW w f d) : f.tx.n = d.tx.length := xc_len1 h.tx
/-! ### Copies -/
theorem below_trans {B : Nat} {a b c : World} (h : Below B a b) (k : Below B b c) : Below B a c := Below.trans h k
def CloneP (w : World) (e : TypeId) (sz n : Nat) (cs : List Value) (en : Ending) (w' : World) : Prop := ∃ ao cap, en = .returned (.slice ao n cap) ∧ OX w' e sz w.heap.size ao cap n cs ∧ Gro w w'
theorem wpList_none {ops : Array Oper} {rest : List Oper} {o : Oper} {a : Act} {w : World} {Q : Exit → Act → World → Prop} (t e : TypeId) (sz : Nat) (hrun : ∀ w, (Instr.buildSlice t 0 #[]).run Try.prog w = .ok (.slice (some ⟨w.heap.size, 0, none⟩) 0 0) (w.alloc (.cells #[] e))) (dst : Nat) (hd : o.dst = some dst) (hgd : o.guard = none) (ho : o.op = .buildSlice t 0 #[])
    (h : ∀ w' g, Gro w w' → w.heap.size = g → OX w' e sz g (some ⟨g, 0, none⟩) 0 0 [] → wpList Try.prog ops Q rest (a.put (some dst) (.slice (some ⟨g, 0, none⟩) 0 0)) w') : wpList Try.prog ops Q (o :: rest) a w :=
  wpList_plain hgd fun _ hK => by
    have he : (execOp a.eval o).run Try.prog w = .ok (.value (.slice (some ⟨w.heap.size, 0, none⟩) 0 0)) (w.alloc (.cells #[] e)) := by
      unfold execOp
      simp only [ho, List.map_toArray, List.map_nil, Sem.run_bind, hrun, Result.andThen_ok, Sem.run_pure]
    unfold Oper.wp
    rw [he, Oper.upon_value, hd]
    exact hK _ _ (h _ _ (gro_alloc _ _) rfl (OX.made (heap_alloc_new _ _) (Nat.le_refl _) (Nat.le_refl _) (by decide) (by simp) (by simp) (by simp) (fun x hx => by (cases hx))))
set_option maxRecDepth 100000 in
set_option maxHeartbeats 1600000 in
theorem clone28 (ao : Option Addr) (cap n : Nat) (cs : List Value) (w : World) (HC : XC w 1 ao cap n cs) (hb : n * 8 ≤ 140737488355328) : Calls Try.prog 26 #[.slice ao n cap] w (CloneP w 3 1 n cs) := by
  cases ao with
  | none =>
    have h1 := HC.bare rfl
    have h2 := HC.fit
    have h3 := HC.len
    have hn : n = 0 := by omega
    subst hn
    subst h1
    have h4 : cs = [] := List.eq_nil_of_length_eq_zero (by omega)
    subst h4
    go_enter Try.func26, Try.ntmps26
    go_wp2_with (first | (with_reducible refine wpList_at ?_; first | (refine wpList_value_d 4 rfl rfl (.bool true) (run_binop .eql 32 _ _ _ rfl _ _ _ rfl rfl (by kernel_rfl) (by kernel_rfl)) ?_; (try simp only [Act.put, List.setIfInBounds_toArray, List.set_cons_zero, List.set_cons_succ]))))
    go_ret
    exact ⟨none, 0, rfl, OX.nil _ _ _ _, Gro.refl _⟩
  | some ad =>
    have HB : Shut _ := ⟨hb⟩
    clear hb
    go_enter Try.func26, Try.ntmps26
    go_wp2_with (first | (with_reducible refine wpList_at ?_; first | (refine wpList_value_d 4 rfl rfl (.bool false) (run_binop .eql 32 _ _ _ rfl _ _ _ rfl rfl (by kernel_rfl) (by kernel_rfl)) ?_; (try simp only [Act.put, List.setIfInBounds_toArray, List.set_cons_zero, List.set_cons_succ])) | (refine wpList_none 32 3 1 (fun _ => by kernel_rfl) 5 rfl rfl rfl ?_; intro w1 g G1 e1 HO; (try simp only [Act.put, List.setIfInBounds_toArray, List.set_cons_zero, List.set_cons_succ])) | (refine wpList_stop rfl ?_)))
    constructor
    refine wpList_appX iT28 7 rfl rfl _ _ rfl rfl HO rfl (HC.gro G1) (by rw [Nat.zero_add]; exact HB.out) (by decide) (by rw [← e1]; exact G1.size) ?_
    intro ao2 cap2 w2 HO2 B2
    rw [Nat.zero_add] at HO2 ⊢
    simp only [Act.put, List.setIfInBounds_toArray, List.set_cons_zero, List.set_cons_succ]
    go_wp2
    go_ret
    exact ⟨ao2, cap2, rfl, HO2.mono (by omega), (below_trans G1 (B2.mono (by rw [← e1]; exact Nat.le_refl _)))⟩
set_option maxRecDepth 100000 in
set_option maxHeartbeats 1600000 in
theorem clone29 (ao : Option Addr) (cap n : Nat) (cs : List Value) (w : World) (HC : XC w 16 ao cap n cs) (hb : n * 16 ≤ 140737488355328) : Calls Try.prog 27 #[.slice ao n cap] w (CloneP w 27 16 n cs) := by
  cases ao with
  | none =>
    have h1 := HC.bare rfl
    have h2 := HC.fit
    have h3 := HC.len
    have hn : n = 0 := by omega
    subst hn
    subst h1
    have h4 : cs = [] := List.eq_nil_of_length_eq_zero (by omega)
    subst h4
    go_enter Try.func27, Try.ntmps27
    go_wp2_with (first | (with_reducible refine wpList_at ?_; first | (refine wpList_value_d 4 rfl rfl (.bool true) (run_binop .eql 33 _ _ _ rfl _ _ _ rfl rfl (by kernel_rfl) (by kernel_rfl)) ?_; (try simp only [Act.put, List.setIfInBounds_toArray, List.set_cons_zero, List.set_cons_succ]))))
    go_ret
    exact ⟨none, 0, rfl, OX.nil _ _ _ _, Gro.refl _⟩
  | some ad =>
    have HB : Shut _ := ⟨hb⟩
    clear hb
    go_enter Try.func27, Try.ntmps27
    go_wp2_with (first | (with_reducible refine wpList_at ?_; first | (refine wpList_value_d 4 rfl rfl (.bool false) (run_binop .eql 33 _ _ _ rfl _ _ _ rfl rfl (by kernel_rfl) (by kernel_rfl)) ?_; (try simp only [Act.put, List.setIfInBounds_toArray, List.set_cons_zero, List.set_cons_succ])) | (refine wpList_none 33 27 16 (fun _ => by kernel_rfl) 5 rfl rfl rfl ?_; intro w1 g G1 e1 HO; (try simp only [Act.put, List.setIfInBounds_toArray, List.set_cons_zero, List.set_cons_succ])) | (refine wpList_stop rfl ?_)))
    constructor
    refine wpList_appX iT29 7 rfl rfl _ _ rfl rfl HO rfl (HC.gro G1) (by rw [Nat.zero_add]; exact HB.out) (by decide) (by rw [← e1]; exact G1.size) ?_
    intro ao2 cap2 w2 HO2 B2
    rw [Nat.zero_add] at HO2 ⊢
    simp only [Act.put, List.setIfInBounds_toArray, List.set_cons_zero, List.set_cons_succ]
    go_wp2
    go_ret
    exact ⟨ao2, cap2, rfl, HO2.mono (by omega), (below_trans G1 (B2.mono (by rw [← e1]; exact Nat.le_refl _)))⟩
set_option maxRecDepth 100000 in
set_option maxHeartbeats 1600000 in
theorem clone32 (ao : Option Addr) (cap n : Nat) (cs : List Value) (w : World) (HC : XC w 1 ao cap n cs) (hb : n * 1 ≤ 140737488355328) : Calls Try.prog 28 #[.slice ao n cap] w (CloneP w 5 1 n cs) := by
  cases ao with
  | none =>
    have h1 := HC.bare rfl
    have h2 := HC.fit
    have h3 := HC.len
    have hn : n = 0 := by omega
    subst hn
    subst h1
    have h4 : cs = [] := List.eq_nil_of_length_eq_zero (by omega)
    subst h4
    go_enter Try.func28, Try.ntmps28
    go_wp2_with (first | (with_reducible refine wpList_at ?_; first | (refine wpList_value_d 4 rfl rfl (.bool true) (run_binop .eql 36 _ _ _ rfl _ _ _ rfl rfl (by kernel_rfl) (by kernel_rfl)) ?_; (try simp only [Act.put, List.setIfInBounds_toArray, List.set_cons_zero, List.set_cons_succ]))))
    go_ret
    exact ⟨none, 0, rfl, OX.nil _ _ _ _, Gro.refl _⟩
  | some ad =>
    have HB : Shut _ := ⟨hb⟩
    clear hb
    go_enter Try.func28, Try.ntmps28
    go_wp2_with (first | (with_reducible refine wpList_at ?_; first | (refine wpList_value_d 4 rfl rfl (.bool false) (run_binop .eql 36 _ _ _ rfl _ _ _ rfl rfl (by kernel_rfl) (by kernel_rfl)) ?_; (try simp only [Act.put, List.setIfInBounds_toArray, List.set_cons_zero, List.set_cons_succ])) | (refine wpList_none 36 5 1 (fun _ => by kernel_rfl) 5 rfl rfl rfl ?_; intro w1 g G1 e1 HO; (try simp only [Act.put, List.setIfInBounds_toArray, List.set_cons_zero, List.set_cons_succ])) | (refine wpList_stop rfl ?_)))
    constructor
    refine wpList_appX bX 7 rfl rfl _ _ rfl rfl HO rfl (HC.gro G1) (by rw [Nat.zero_add]; exact HB.out) (by decide) (by rw [← e1]; exact G1.size) ?_
    intro ao2 cap2 w2 HO2 B2
    rw [Nat.zero_add] at HO2 ⊢
    simp only [Act.put, List.setIfInBounds_toArray, List.set_cons_zero, List.set_cons_succ]
    go_wp2
    go_ret
    exact ⟨ao2, cap2, rfl, HO2.mono (by omega), (below_trans G1 (B2.mono (by rw [← e1]; exact Nat.le_refl _)))⟩
set_option maxRecDepth 100000 in
set_option maxHeartbeats 4000000 in
theorem apart_any (f : Fr) (d : FD) (w : World) (H : FrW w f d) (h1 : f.tr.n * 8 ≤ 140737488355328) (h2 : f.ids.n * 16 ≤ 140737488355328) (h3 : f.val.n * 1 ≤ 140737488355328) (h4 : f.tx.n * 1 ≤ 140737488355328) : Calls Try.prog 15 #[.agg (frA f)] w fun e w' => ∃ s1 s2 s3 s4 : Sl, e = .returned (.agg (frA { f with tr := s1, ids := s2, val := s3, tx := s4 })) ∧ FrO w' w.heap.size { f with tr := s1, ids := s2, val := s3, tx := s4 } d ∧ Gro w w' := by
  show Calls Try.prog 15 #[.agg (c36 f.kind f.pw f.pn f.toA f.a f.b f.n f.fi f.fn f.ti f.tn f.tr f.ids f.key f.vn f.vw f.val f.op f.ttl f.tx)] w _
  refine s_enterR Try.func15 rfl Try.ntmps15 [.agg (c36 f.kind f.pw f.pn f.toA f.a f.b f.n f.fi f.fn f.ti f.tn f.tr f.ids f.key f.vn f.vw f.val f.op f.ttl f.tx)] ?_
  intro U h; simp only [List.length_cons, List.length_nil, List.cons_append, List.nil_append, Nat.reduceAdd, Nat.reduceSub, List.reduceReplicate] at h; subst h
  have GG := Gro.refl w
  refine wp_seq (wp_region_lit ?_)
  refine s_box 1 rfl rfl 40 _ rfl _ rfl (c36 f.kind f.pw f.pn f.toA f.a f.b f.n f.fi f.fn f.ti f.tn f.tr f.ids f.key f.vn f.vw f.val f.op f.ttl f.tx) rfl ?_
  intro w1 g1 G eg1 kg1
  have bg1 := size_base GG eg1
  replace GG := GG.trans G
  clear G eg1
  refine s_alloc 2 rfl rfl 40 rfl _ zv36 _ rfl ?_
  intro w2 g2 G eg2 kg2
  have bg2 := size_base GG eg2
  have dg1g2 := lt_new kg1 eg2
  replace kg1 := G.has kg1
  replace GG := GG.trans G
  clear G eg2
  refine wpList_nil (then_n (wp_seq (wp_region_lit (sv 3 (.pointer (some ⟨g1, 56, none⟩)) (run_fld 40 _ 8 rfl _ _ rfl _) ?_))))
  simp only [z0, z1]
  refine sv 4 (.slice f.tr.ao f.tr.n f.tr.cap) (run_ldc 32 _ rfl g1 56 rfl 40 _ kg1 (na28 _) _ rfl) ?_
  simp only [z0, z1]
  have q1 := GG.size
  have ddg11 := lt_of_heap kg1
  have ddg21 := lt_of_heap kg2
  refine s_callx 5 rfl rfl _ 26 Try.call26 rfl rfl _ rfl [.slice f.tr.ao f.tr.n f.tr.cap] rfl (clone28 _ _ _ _ _ (H.tr.gro GG) h1) (fun _ _ ⟨_, _, he, _⟩ => ⟨_, he⟩) ?_
  rintro v w3 ⟨ao1, cap1, he, o1, G⟩
  cases he
  replace kg1 := G.has kg1
  replace kg2 := G.has kg2
  replace GG := GG.trans G
  clear G
  refine sv 6 (.pointer (some ⟨g1, 56, none⟩)) (run_fld 40 _ 8 rfl _ _ rfl _) ?_
  refine s_store rfl rfl 32 _ _ rfl g1 56 rfl (.slice ao1 f.tr.n cap1) rfl 40 _ kg1 #[.slice ao1 f.tr.n cap1] rfl (by kernel_rfl) (Nat.le_of_ble_eq_true rfl) (by kernel_rfl) (c36 f.kind f.pw f.pn f.toA f.a f.b f.n f.fi f.fn f.ti f.tn ⟨ao1, f.tr.n, cap1⟩ f.ids f.key f.vn f.vw f.val f.op f.ttl f.tx) (by kernel_rfl) ?_
  intro w5 S
  replace kg2 := S.has (by omega) kg2
  replace o1 := o1.apart S (fun ad ha => by have := o1.ge ad ha; omega)
  replace GG := GG.store S bg1
  replace kg1 := S.new
  clear S
  refine wpList_nil (then_n (wp_seq (wp_region_lit (sv 7 (.pointer (some ⟨g1, 57, none⟩)) (run_fld 40 _ 9 rfl _ _ rfl _) ?_))))
  simp only [z0, z1]
  refine sv 8 (.slice f.ids.ao f.ids.n f.ids.cap) (run_ldc 33 _ rfl g1 57 rfl 40 _ kg1 (na29 _) _ rfl) ?_
  simp only [z0, z1]
  have q2 := GG.size
  have ddg12 := lt_of_heap kg1
  have ddg22 := lt_of_heap kg2
  refine s_callx 9 rfl rfl _ 27 Try.call27 rfl rfl _ rfl [.slice f.ids.ao f.ids.n f.ids.cap] rfl (clone29 _ _ _ _ _ (H.ids.gro GG) h2) (fun _ _ ⟨_, _, he, _⟩ => ⟨_, he⟩) ?_
  rintro v w6 ⟨ao2, cap2, he, o2, G⟩
  cases he
  replace kg1 := G.has kg1
  replace kg2 := G.has kg2
  replace o1 := o1.gro G
  replace GG := GG.trans G
  clear G
  refine sv 10 (.pointer (some ⟨g1, 57, none⟩)) (run_fld 40 _ 9 rfl _ _ rfl _) ?_
  refine s_store rfl rfl 33 _ _ rfl g1 57 rfl (.slice ao2 f.ids.n cap2) rfl 40 _ kg1 #[.slice ao2 f.ids.n cap2] rfl (by kernel_rfl) (Nat.le_of_ble_eq_true rfl) (by kernel_rfl) (c36 f.kind f.pw f.pn f.toA f.a f.b f.n f.fi f.fn f.ti f.tn ⟨ao1, f.tr.n, cap1⟩ ⟨ao2, f.ids.n, cap2⟩ f.key f.vn f.vw f.val f.op f.ttl f.tx) (by kernel_rfl) ?_
  intro w8 S
  replace kg2 := S.has (by omega) kg2
  replace o1 := o1.apart S (fun ad ha => by have := o1.ge ad ha; omega)
  replace o2 := o2.apart S (fun ad ha => by have := o2.ge ad ha; omega)
  replace GG := GG.store S bg1
  replace kg1 := S.new
  clear S
  refine wpList_nil (then_n (wp_seq (wp_region_lit (sv 11 (.pointer (some ⟨g1, 58, none⟩)) (run_fld 40 _ 10 rfl _ _ rfl _) ?_))))
  simp only [z0, z1]
  refine sv 12 (.pointer (some ⟨g1, 91, none⟩)) (run_fld 38 _ 2 rfl _ _ rfl _) (sv 13 (.slice f.val.ao f.val.n f.val.cap) (run_ldc 36 _ rfl g1 91 rfl 40 _ kg1 (na32 _) _ rfl) ?_)
  simp only [z0, z1]
  have q3 := GG.size
  have ddg13 := lt_of_heap kg1
  have ddg23 := lt_of_heap kg2
  refine s_callx 14 rfl rfl _ 28 Try.call28 rfl rfl _ rfl [.slice f.val.ao f.val.n f.val.cap] rfl (clone32 _ _ _ _ _ (H.val.gro GG) h3) (fun _ _ ⟨_, _, he, _⟩ => ⟨_, he⟩) ?_
  rintro v w9 ⟨ao3, cap3, he, o3, G⟩
  cases he
  replace kg1 := G.has kg1
  replace kg2 := G.has kg2
  replace o1 := o1.gro G
  replace o2 := o2.gro G
  replace GG := GG.trans G
  clear G
  refine sv 15 (.pointer (some ⟨g1, 58, none⟩)) (run_fld 40 _ 10 rfl _ _ rfl _) (sv 16 (.pointer (some ⟨g1, 91, none⟩)) (run_fld 38 _ 2 rfl _ _ rfl _) ?_)
  simp only [z0, z1]
  refine s_store rfl rfl 36 _ _ rfl g1 91 rfl (.slice ao3 f.val.n cap3) rfl 40 _ kg1 #[.slice ao3 f.val.n cap3] rfl (by kernel_rfl) (Nat.le_of_ble_eq_true rfl) (by kernel_rfl) (c36 f.kind f.pw f.pn f.toA f.a f.b f.n f.fi f.fn f.ti f.tn ⟨ao1, f.tr.n, cap1⟩ ⟨ao2, f.ids.n, cap2⟩ f.key f.vn f.vw ⟨ao3, f.val.n, cap3⟩ f.op f.ttl f.tx) (by kernel_rfl) ?_
  intro w11 S
  replace kg2 := S.has (by omega) kg2
  replace o1 := o1.apart S (fun ad ha => by have := o1.ge ad ha; omega)
  replace o2 := o2.apart S (fun ad ha => by have := o2.ge ad ha; omega)
  replace o3 := o3.apart S (fun ad ha => by have := o3.ge ad ha; omega)
  replace GG := GG.store S bg1
  replace kg1 := S.new
  clear S
  refine wpList_nil (then_n (wp_seq (wp_region_lit (sv 17 (.pointer (some ⟨g1, 94, none⟩)) (run_fld 40 _ 13 rfl _ _ rfl _) (sv 18 (.slice f.tx.ao f.tx.n f.tx.cap) (run_ldc 36 _ rfl g1 94 rfl 40 _ kg1 (na32 _) _ rfl) ?_)))))
  simp only [z0, z1]
  have q4 := GG.size
  have ddg14 := lt_of_heap kg1
  have ddg24 := lt_of_heap kg2
  refine s_callx 19 rfl rfl _ 28 Try.call28 rfl rfl _ rfl [.slice f.tx.ao f.tx.n f.tx.cap] rfl (clone32 _ _ _ _ _ (H.tx.gro GG) h4) (fun _ _ ⟨_, _, he, _⟩ => ⟨_, he⟩) ?_
  rintro v w12 ⟨ao4, cap4, he, o4, G⟩
  cases he
  replace kg1 := G.has kg1
  replace kg2 := G.has kg2
  replace o1 := o1.gro G
  replace o2 := o2.gro G
  replace o3 := o3.gro G
  replace GG := GG.trans G
  clear G
  refine sv 20 (.pointer (some ⟨g1, 94, none⟩)) (run_fld 40 _ 13 rfl _ _ rfl _) ?_
  refine s_store rfl rfl 36 _ _ rfl g1 94 rfl (.slice ao4 f.tx.n cap4) rfl 40 _ kg1 #[.slice ao4 f.tx.n cap4] rfl (by kernel_rfl) (Nat.le_of_ble_eq_true rfl) (by kernel_rfl) (c36 f.kind f.pw f.pn f.toA f.a f.b f.n f.fi f.fn f.ti f.tn ⟨ao1, f.tr.n, cap1⟩ ⟨ao2, f.ids.n, cap2⟩ f.key f.vn f.vw ⟨ao3, f.val.n, cap3⟩ f.op f.ttl ⟨ao4, f.tx.n, cap4⟩) (by kernel_rfl) ?_
  intro w14 S
  replace kg2 := S.has (by omega) kg2
  replace o1 := o1.apart S (fun ad ha => by have := o1.ge ad ha; omega)
  replace o2 := o2.apart S (fun ad ha => by have := o2.ge ad ha; omega)
  replace o3 := o3.apart S (fun ad ha => by have := o3.ge ad ha; omega)
  replace o4 := o4.apart S (fun ad ha => by have := o4.ge ad ha; omega)
  replace GG := GG.store S bg1
  replace kg1 := S.new
  clear S
  refine wpList_nil (then_n (wp_seq (wp_region_lit (sv 21 (.agg (c36 f.kind f.pw f.pn f.toA f.a f.b f.n f.fi f.fn f.ti f.tn ⟨ao1, f.tr.n, cap1⟩ ⟨ao2, f.ids.n, cap2⟩ f.key f.vn f.vw ⟨ao3, f.val.n, cap3⟩ f.op f.ttl ⟨ao4, f.tx.n, cap4⟩)) (run_lda 40 _ rfl g1 0 95 rfl 40 _ kg1 _ Try.underlying40 rfl si36 _) ?_))))
  simp only [z0, z1]
  refine s_store rfl rfl 40 _ _ rfl g2 0 rfl (.agg (c36 f.kind f.pw f.pn f.toA f.a f.b f.n f.fi f.fn f.ti f.tn ⟨ao1, f.tr.n, cap1⟩ ⟨ao2, f.ids.n, cap2⟩ f.key f.vn f.vw ⟨ao3, f.val.n, cap3⟩ f.op f.ttl ⟨ao4, f.tx.n, cap4⟩)) rfl 40 _ kg2 (c36 f.kind f.pw f.pn f.toA f.a f.b f.n f.fi f.fn f.ti f.tn ⟨ao1, f.tr.n, cap1⟩ ⟨ao2, f.ids.n, cap2⟩ f.key f.vn f.vw ⟨ao3, f.val.n, cap3⟩ f.op f.ttl ⟨ao4, f.tx.n, cap4⟩) rfl (by kernel_rfl) (Nat.le_of_ble_eq_true rfl) (by kernel_rfl) (c36 f.kind f.pw f.pn f.toA f.a f.b f.n f.fi f.fn f.ti f.tn ⟨ao1, f.tr.n, cap1⟩ ⟨ao2, f.ids.n, cap2⟩ f.key f.vn f.vw ⟨ao3, f.val.n, cap3⟩ f.op f.ttl ⟨ao4, f.tx.n, cap4⟩) (by kernel_rfl) ?_
  intro w16 S
  replace kg1 := S.has (by omega) kg1
  replace o1 := o1.apart S (fun ad ha => by have := o1.ge ad ha; omega)
  replace o2 := o2.apart S (fun ad ha => by have := o2.ge ad ha; omega)
  replace o3 := o3.apart S (fun ad ha => by have := o3.ge ad ha; omega)
  replace o4 := o4.apart S (fun ad ha => by have := o4.ge ad ha; omega)
  replace GG := GG.store S bg2
  replace kg2 := S.new
  clear S
  refine wpList_nil (then_n (wp_ret ?_))
  refine bodyPost_ret (results_cell_row Try.results15 _ _ g2 40 _ (0, 0) _ rfl kg2 Try.underlying40 rfl (by kernel_rfl)) rfl ?_
  exact ⟨⟨ao1, f.tr.n, cap1⟩, ⟨ao2, f.ids.n, cap2⟩, ⟨ao3, f.val.n, cap3⟩, ⟨ao4, f.tx.n, cap4⟩, rfl, ⟨o1.mono q1, o2.mono q2, o3.mono q3, o4.mono q4, H.oids, H.oval, H.otx⟩, GG⟩
end Go.Proofs.Ythmcnlmphikicab
