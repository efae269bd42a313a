/- A copy of all fields (the document's Copy). -/
import Derived.Test.YthmcnlmphikicabZK4
namespace Go.Proofs.Ythmcnlmphikicab
open Go.RowKit
set_option maxRecDepth 100000 in
set_option maxHeartbeats 4000000 in
theorem copy_d (f : Fr) (d : FD) (w : World) (HF : FrW w f d) (HS : FrS f) : Calls Try.prog 10 #[.agg (c36 f.kind f.pw f.pn f.toA f.a f.b f.n f.fi f.fn f.ti f.tn f.tr f.ids f.key f.vn f.vw f.val f.op f.ttl f.tx)] w fun e w' => ∃ s1 s2 s3 s4 : Sl, e = .returned (.agg (frA { f with tr := s1, ids := s2, val := s3, tx := s4 })) ∧ FrO w' w.heap.size { f with tr := s1, ids := s2, val := s3, tx := s4 } d ∧ Gro w w' := by
  refine s_enterR Try.func10 rfl Try.ntmps10 [.agg (c36 f.kind f.pw f.pn f.toA f.a f.b f.n f.fi f.fn f.ti f.tn f.tr f.ids f.key f.vn f.vw f.val f.op f.ttl f.tx)] ?_
  intro U h; simp only [List.length_cons, List.length_nil, List.cons_append, List.nil_append, Nat.reduceAdd, Nat.reduceSub, List.reduceReplicate] at h; subst h
  have GG := Gro.refl w
  refine wp_seq (wp_region_lit ?_)
  refine s_box 1 rfl rfl 40 _ rfl _ rfl (c36 f.kind f.pw f.pn f.toA f.a f.b f.n f.fi f.fn f.ti f.tn f.tr f.ids f.key f.vn f.vw f.val f.op f.ttl f.tx) rfl ?_
  intro w1 g1 G eg1 kg1
  have bg1 := size_base GG eg1
  replace GG := GG.trans G
  clear G eg1
  refine s_alloc 2 rfl rfl 40 rfl _ zv36 _ rfl ?_
  intro w2 g2 G eg2 kg2
  have bg2 := size_base GG eg2
  have dg1g2 := lt_new kg1 eg2
  replace kg1 := G.has kg1
  replace GG := GG.trans G
  clear G eg2
  refine wpList_nil (then_n (wp_seq (wp_region_lit ?_)))
  have zg1 := kg1
  have zg2 := kg2
  have zG := GG
  refine wpList_none 32 3 1 (fun _ => by kernel_rfl) 3 rfl rfl rfl ?_
  intro w3 gN G1 e1 HN
  simp only [Act.put, List.setIfInBounds_toArray, List.set_cons_zero, List.set_cons_succ]
  replace kg1 := G1.has kg1
  replace kg2 := G1.has kg2
  refine sv 4 (.pointer (some ⟨g1, 56, none⟩)) (run_fld 40 _ 8 rfl _ _ rfl _) ?_
  refine nr ?_; intro U h; simp only [z0, z1] at h; subst h
  refine sv 5 (.slice f.tr.ao f.tr.n f.tr.cap) (run_ldc 32 _ rfl g1 56 rfl 40 _ kg1 (na28 _) _ rfl) ?_
  refine nr ?_; intro U h; simp only [z0, z1] at h; subst h
  refine wpList_appX iT28 6 rfl rfl _ _ rfl rfl HN rfl ((HF.tr.gro zG).gro G1) (by rw [Nat.zero_add]; exact HS.tr.out) (by decide) (by rw [← e1]; exact G1.size) ?_
  intro sl_tr cl_tr w4 H_tr B2
  rw [Nat.zero_add] at H_tr ⊢
  rw [List.nil_append] at H_tr
  simp only [Act.put, List.setIfInBounds_toArray, List.set_cons_zero, List.set_cons_succ]
  have G : Gro _ _ := below_trans G1 (B2.mono (by rw [← e1]; exact Nat.le_refl _))
  replace kg1 := G.has zg1
  replace kg2 := G.has zg2
  replace GG := zG.trans G
  replace H_tr := H_tr.mono (by rw [← e1]; exact zG.size)
  clear G zG HN e1 G1 B2 zg1 zg2
  refine sv 7 (.pointer (some ⟨g1, 56, none⟩)) (run_fld 40 _ 8 rfl _ _ rfl _) ?_
  refine s_store rfl rfl 32 _ _ rfl g1 56 rfl (.slice sl_tr f.tr.n cl_tr) rfl 40 _ kg1 #[.slice sl_tr f.tr.n cl_tr] rfl (by kernel_rfl) (Nat.le_of_ble_eq_true rfl) (by kernel_rfl) (c36 f.kind f.pw f.pn f.toA f.a f.b f.n f.fi f.fn f.ti f.tn ⟨sl_tr, f.tr.n, cl_tr⟩ f.ids f.key f.vn f.vw f.val f.op f.ttl f.tx) (by kernel_rfl) ?_
  intro w6 St
  replace kg2 := St.has (by omega) kg2
  replace H_tr := H_tr.apart St (fun ad ha => by obtain ⟨cur, hc9⟩ := H_tr.ty ha; exact ne_type hc9 kg1 (by decide))
  replace GG := GG.store St bg1
  replace kg1 := St.new
  clear St
  refine wpList_nil (then_n (wp_seq (wp_region_lit ?_)))
  have zg1 := kg1
  have zg2 := kg2
  have zH_tr := H_tr
  have zG := GG
  refine wpList_none 33 27 16 (fun _ => by kernel_rfl) 8 rfl rfl rfl ?_
  intro w7 gN G1 e1 HN
  simp only [Act.put, List.setIfInBounds_toArray, List.set_cons_zero, List.set_cons_succ]
  replace kg1 := G1.has kg1
  replace kg2 := G1.has kg2
  refine sv 9 (.pointer (some ⟨g1, 57, none⟩)) (run_fld 40 _ 9 rfl _ _ rfl _) (sv 10 (.slice f.ids.ao f.ids.n f.ids.cap) (run_ldc 33 _ rfl g1 57 rfl 40 _ kg1 (na29 _) _ rfl) ?_)
  refine nr ?_; intro U h; simp only [z0, z1] at h; subst h
  refine wpList_appX iT29 11 rfl rfl _ _ rfl rfl HN rfl ((HF.ids.gro zG).gro G1) (by rw [Nat.zero_add]; exact HS.ids.out) (by decide) (by rw [← e1]; exact G1.size) ?_
  intro sl_ids cl_ids w8 H_ids B2
  rw [Nat.zero_add] at H_ids ⊢
  rw [List.nil_append] at H_ids
  simp only [Act.put, List.setIfInBounds_toArray, List.set_cons_zero, List.set_cons_succ]
  have G : Gro _ _ := below_trans G1 (B2.mono (by rw [← e1]; exact Nat.le_refl _))
  replace kg1 := G.has zg1
  replace kg2 := G.has zg2
  replace H_tr := zH_tr.gro G
  replace GG := zG.trans G
  replace H_ids := H_ids.mono (by rw [← e1]; exact zG.size)
  clear G zG HN e1 G1 B2 zg1 zg2 zH_tr
  refine sv 12 (.pointer (some ⟨g1, 57, none⟩)) (run_fld 40 _ 9 rfl _ _ rfl _) ?_
  refine s_store rfl rfl 33 _ _ rfl g1 57 rfl (.slice sl_ids f.ids.n cl_ids) rfl 40 _ kg1 #[.slice sl_ids f.ids.n cl_ids] rfl (by kernel_rfl) (Nat.le_of_ble_eq_true rfl) (by kernel_rfl) (c36 f.kind f.pw f.pn f.toA f.a f.b f.n f.fi f.fn f.ti f.tn ⟨sl_tr, f.tr.n, cl_tr⟩ ⟨sl_ids, f.ids.n, cl_ids⟩ f.key f.vn f.vw f.val f.op f.ttl f.tx) (by kernel_rfl) ?_
  intro w10 St
  replace kg2 := St.has (by omega) kg2
  replace H_tr := H_tr.apart St (fun ad ha => by obtain ⟨cur, hc9⟩ := H_tr.ty ha; exact ne_type hc9 kg1 (by decide))
  replace H_ids := H_ids.apart St (fun ad ha => by obtain ⟨cur, hc9⟩ := H_ids.ty ha; exact ne_type hc9 kg1 (by decide))
  replace GG := GG.store St bg1
  replace kg1 := St.new
  clear St
  refine wpList_nil (then_n (wp_seq (wp_region_lit ?_)))
  have zg1 := kg1
  have zg2 := kg2
  have zH_tr := H_tr
  have zH_ids := H_ids
  have zG := GG
  refine wpList_none 36 5 1 (fun _ => by kernel_rfl) 13 rfl rfl rfl ?_
  intro w11 gN G1 e1 HN
  simp only [Act.put, List.setIfInBounds_toArray, List.set_cons_zero, List.set_cons_succ]
  replace kg1 := G1.has kg1
  replace kg2 := G1.has kg2
  refine sv 14 (.pointer (some ⟨g1, 94, none⟩)) (run_fld 40 _ 13 rfl _ _ rfl _) (sv 15 (.slice f.tx.ao f.tx.n f.tx.cap) (run_ldc 36 _ rfl g1 94 rfl 40 _ kg1 (na32 _) _ rfl) ?_)
  refine nr ?_; intro U h; simp only [z0, z1] at h; subst h
  refine wpList_appX bX 16 rfl rfl _ _ rfl rfl HN rfl ((HF.tx.gro zG).gro G1) (by rw [Nat.zero_add]; exact HS.tx.out) (by decide) (by rw [← e1]; exact G1.size) ?_
  intro sl_tx cl_tx w12 H_tx B2
  rw [Nat.zero_add] at H_tx ⊢
  rw [List.nil_append] at H_tx
  simp only [Act.put, List.setIfInBounds_toArray, List.set_cons_zero, List.set_cons_succ]
  have G : Gro _ _ := below_trans G1 (B2.mono (by rw [← e1]; exact Nat.le_refl _))
  replace kg1 := G.has zg1
  replace kg2 := G.has zg2
  replace H_tr := zH_tr.gro G
  replace H_ids := zH_ids.gro G
  replace GG := zG.trans G
  replace H_tx := H_tx.mono (by rw [← e1]; exact zG.size)
  clear G zG HN e1 G1 B2 zg1 zg2 zH_tr zH_ids
  refine sv 17 (.pointer (some ⟨g1, 94, none⟩)) (run_fld 40 _ 13 rfl _ _ rfl _) ?_
  refine s_store rfl rfl 36 _ _ rfl g1 94 rfl (.slice sl_tx f.tx.n cl_tx) rfl 40 _ kg1 #[.slice sl_tx f.tx.n cl_tx] rfl (by kernel_rfl) (Nat.le_of_ble_eq_true rfl) (by kernel_rfl) (c36 f.kind f.pw f.pn f.toA f.a f.b f.n f.fi f.fn f.ti f.tn ⟨sl_tr, f.tr.n, cl_tr⟩ ⟨sl_ids, f.ids.n, cl_ids⟩ f.key f.vn f.vw f.val f.op f.ttl ⟨sl_tx, f.tx.n, cl_tx⟩) (by kernel_rfl) ?_
  intro w14 St
  replace kg2 := St.has (by omega) kg2
  replace H_tr := H_tr.apart St (fun ad ha => by obtain ⟨cur, hc9⟩ := H_tr.ty ha; exact ne_type hc9 kg1 (by decide))
  replace H_ids := H_ids.apart St (fun ad ha => by obtain ⟨cur, hc9⟩ := H_ids.ty ha; exact ne_type hc9 kg1 (by decide))
  replace H_tx := H_tx.apart St (fun ad ha => by obtain ⟨cur, hc9⟩ := H_tx.ty ha; exact ne_type hc9 kg1 (by decide))
  replace GG := GG.store St bg1
  replace kg1 := St.new
  clear St
  refine wpList_nil (then_n (wp_seq (wp_region_lit ?_)))
  have zg1 := kg1
  have zg2 := kg2
  have zH_tr := H_tr
  have zH_ids := H_ids
  have zH_tx := H_tx
  have zG := GG
  refine wpList_none 36 5 1 (fun _ => by kernel_rfl) 18 rfl rfl rfl ?_
  intro w15 gN G1 e1 HN
  simp only [Act.put, List.setIfInBounds_toArray, List.set_cons_zero, List.set_cons_succ]
  replace kg1 := G1.has kg1
  replace kg2 := G1.has kg2
  refine sv 19 (.pointer (some ⟨g1, 58, none⟩)) (run_fld 40 _ 10 rfl _ _ rfl _) (sv 20 (.pointer (some ⟨g1, 91, none⟩)) (run_fld 38 _ 2 rfl _ _ rfl _) ?_)
  refine nr ?_; intro U h; simp only [z0, z1] at h; subst h
  refine sv 21 (.slice f.val.ao f.val.n f.val.cap) (run_ldc 36 _ rfl g1 91 rfl 40 _ kg1 (na32 _) _ rfl) ?_
  refine nr ?_; intro U h; simp only [z0, z1] at h; subst h
  refine wpList_appX bX 22 rfl rfl _ _ rfl rfl HN rfl ((HF.val.gro zG).gro G1) (by rw [Nat.zero_add]; exact HS.val.out) (by decide) (by rw [← e1]; exact G1.size) ?_
  intro sl_val cl_val w16 H_val B2
  rw [Nat.zero_add] at H_val ⊢
  rw [List.nil_append] at H_val
  simp only [Act.put, List.setIfInBounds_toArray, List.set_cons_zero, List.set_cons_succ]
  have G : Gro _ _ := below_trans G1 (B2.mono (by rw [← e1]; exact Nat.le_refl _))
  replace kg1 := G.has zg1
  replace kg2 := G.has zg2
  replace H_tr := zH_tr.gro G
  replace H_ids := zH_ids.gro G
  replace H_tx := zH_tx.gro G
  replace GG := zG.trans G
  replace H_val := H_val.mono (by rw [← e1]; exact zG.size)
  clear G zG HN e1 G1 B2 zg1 zg2 zH_tr zH_ids zH_tx
  refine sv 23 (.pointer (some ⟨g1, 58, none⟩)) (run_fld 40 _ 10 rfl _ _ rfl _) (sv 24 (.pointer (some ⟨g1, 91, none⟩)) (run_fld 38 _ 2 rfl _ _ rfl _) ?_)
  refine s_store rfl rfl 36 _ _ rfl g1 91 rfl (.slice sl_val f.val.n cl_val) rfl 40 _ kg1 #[.slice sl_val f.val.n cl_val] rfl (by kernel_rfl) (Nat.le_of_ble_eq_true rfl) (by kernel_rfl) (c36 f.kind f.pw f.pn f.toA f.a f.b f.n f.fi f.fn f.ti f.tn ⟨sl_tr, f.tr.n, cl_tr⟩ ⟨sl_ids, f.ids.n, cl_ids⟩ f.key f.vn f.vw ⟨sl_val, f.val.n, cl_val⟩ f.op f.ttl ⟨sl_tx, f.tx.n, cl_tx⟩) (by kernel_rfl) ?_
  intro w18 St
  replace kg2 := St.has (by omega) kg2
  replace H_tr := H_tr.apart St (fun ad ha => by obtain ⟨cur, hc9⟩ := H_tr.ty ha; exact ne_type hc9 kg1 (by decide))
  replace H_ids := H_ids.apart St (fun ad ha => by obtain ⟨cur, hc9⟩ := H_ids.ty ha; exact ne_type hc9 kg1 (by decide))
  replace H_tx := H_tx.apart St (fun ad ha => by obtain ⟨cur, hc9⟩ := H_tx.ty ha; exact ne_type hc9 kg1 (by decide))
  replace H_val := H_val.apart St (fun ad ha => by obtain ⟨cur, hc9⟩ := H_val.ty ha; exact ne_type hc9 kg1 (by decide))
  replace GG := GG.store St bg1
  replace kg1 := St.new
  clear St
  refine wpList_nil (then_n (wp_seq (wp_region_lit (sv 25 (.agg (c36 f.kind f.pw f.pn f.toA f.a f.b f.n f.fi f.fn f.ti f.tn ⟨sl_tr, f.tr.n, cl_tr⟩ ⟨sl_ids, f.ids.n, cl_ids⟩ f.key f.vn f.vw ⟨sl_val, f.val.n, cl_val⟩ f.op f.ttl ⟨sl_tx, f.tx.n, cl_tx⟩)) (run_lda 40 _ rfl g1 0 95 rfl 40 _ kg1 _ Try.underlying40 rfl si36 _) ?_))))
  refine nr ?_; intro U h; simp only [z0, z1] at h; subst h
  refine s_store rfl rfl 40 _ _ rfl g2 0 rfl (.agg (c36 f.kind f.pw f.pn f.toA f.a f.b f.n f.fi f.fn f.ti f.tn ⟨sl_tr, f.tr.n, cl_tr⟩ ⟨sl_ids, f.ids.n, cl_ids⟩ f.key f.vn f.vw ⟨sl_val, f.val.n, cl_val⟩ f.op f.ttl ⟨sl_tx, f.tx.n, cl_tx⟩)) rfl 40 _ kg2 (c36 f.kind f.pw f.pn f.toA f.a f.b f.n f.fi f.fn f.ti f.tn ⟨sl_tr, f.tr.n, cl_tr⟩ ⟨sl_ids, f.ids.n, cl_ids⟩ f.key f.vn f.vw ⟨sl_val, f.val.n, cl_val⟩ f.op f.ttl ⟨sl_tx, f.tx.n, cl_tx⟩) rfl (by kernel_rfl) (Nat.le_of_ble_eq_true rfl) (by kernel_rfl) (c36 f.kind f.pw f.pn f.toA f.a f.b f.n f.fi f.fn f.ti f.tn ⟨sl_tr, f.tr.n, cl_tr⟩ ⟨sl_ids, f.ids.n, cl_ids⟩ f.key f.vn f.vw ⟨sl_val, f.val.n, cl_val⟩ f.op f.ttl ⟨sl_tx, f.tx.n, cl_tx⟩) (by kernel_rfl) ?_
  intro w20 St
  replace kg1 := St.has (by omega) kg1
  replace H_tr := H_tr.apart St (fun ad ha => by obtain ⟨cur, hc9⟩ := H_tr.ty ha; exact ne_type hc9 kg2 (by decide))
  replace H_ids := H_ids.apart St (fun ad ha => by obtain ⟨cur, hc9⟩ := H_ids.ty ha; exact ne_type hc9 kg2 (by decide))
  replace H_tx := H_tx.apart St (fun ad ha => by obtain ⟨cur, hc9⟩ := H_tx.ty ha; exact ne_type hc9 kg2 (by decide))
  replace H_val := H_val.apart St (fun ad ha => by obtain ⟨cur, hc9⟩ := H_val.ty ha; exact ne_type hc9 kg2 (by decide))
  replace GG := GG.store St bg2
  replace kg2 := St.new
  clear St
  refine wpList_nil (then_n (wp_ret ?_))
  refine bodyPost_ret (results_cell_row Try.results10 _ _ g2 40 _ (0, 0) _ rfl kg2 Try.underlying40 rfl (by kernel_rfl)) rfl ?_
  exact ⟨⟨sl_tr, f.tr.n, cl_tr⟩, ⟨sl_ids, f.ids.n, cl_ids⟩, ⟨sl_val, f.val.n, cl_val⟩, ⟨sl_tx, f.tx.n, cl_tx⟩, rfl, ⟨H_tr, H_ids, H_val, H_tx, HF.oids, HF.oval, HF.otx⟩, GG⟩
end Go.Proofs.Ythmcnlmphikicab
