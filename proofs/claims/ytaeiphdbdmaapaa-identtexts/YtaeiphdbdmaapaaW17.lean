/- What is printed is read, and what is read is printed. -/
import Derived.Test.YtaeiphdbdmaapaaW15
import Derived.Test.YtaeiphdbdmaapaaW7
import Derived.Test.YtaeiphdbdmaapaaW11
import Derived.Test.YtaeiphdbdmaapaaW14
import Derived.Test.YtaeiphdbdmaapaaW16
namespace Go.Proofs.Ytaeiphdbdmaapaa
open Go.RowKit

theorem push_all (l : List Int) : ∀ b : ByteArray, (l.foldl (fun (r : ByteArray) x => r.push (UInt8.ofNat x.toNat)) b).data = b.data ++ (l.map fun x => UInt8.ofNat x.toNat).toArray := by
  induction l with
  | nil => intro b; simp
  | cons x l ih =>
    intro b
    rw [List.foldl_cons, ih]
    simp [ByteArray.push]
theorem printB_data (n : Nat) : (printB n).data = ((List.range 32).map fun j => UInt8.ofNat (sgn n j)).toArray := by
  unfold printB
  have e : ByteArray.empty.data = #[] := rfl
  rw [push_all, e]
  simp
theorem printB_size (n : Nat) : (printB n).size = 32 := by
  show (printB n).data.size = 32
  rw [printB_data]
  simp
theorem hexd_lt (q : Nat) (h : q < 16) : hexd q < 256 := by unfold hexd; split <;> omega
theorem hexd_hex (q : Nat) (h : q < 16) : isHex (hexd q) = true := by
  rw [isHex_iff]; unfold hexd; split <;> omega
theorem hexN_hexd (q : Nat) (h : q < 16) : hexN (hexd q) = q := by
  unfold hexN hexd
  by_cases h1 : q < 10
  · rw [if_pos h1, if_pos (by omega)]; omega
  · rw [if_neg h1, if_neg (by omega)]; omega
theorem hexd_hexN (c : Nat) (h : isHex c = true) : hexd (hexN c) = c := by
  rw [isHex_iff] at h
  unfold hexN hexd
  by_cases h1 : c ≤ 57
  · rw [if_pos h1, if_pos (by omega)]; omega
  · rw [if_neg h1, if_neg (by omega)]; omega
theorem nib_lt (n j : Nat) : nib n j < 16 := by
  have := byt_lt n (j / 2)
  unfold nib
  split <;> omega
theorem bt_print (n j : Nat) (h : j < 32) : bt (printB n) j = sgn n j := by
  unfold bt
  rw [printB_data]
  have h2 : sgn n j < 256 := hexd_lt _ (nib_lt n j)
  simp [h]
  omega
theorem print_hex (n j : Nat) (h : j < 32) : isHex (bt (printB n) j) = true := by
  rw [bt_print n j h]; exact hexd_hex _ (nib_lt n j)
theorem pb_print (n i : Nat) (h : i < 16) : pb (printB n) 32 i = byt n i := by
  unfold pb
  rw [if_pos (by omega), bt_print n (2 * i) (by omega), bt_print n (2 * i + 1) (by omega)]
  unfold sgn
  rw [hexN_hexd _ (nib_lt n _), hexN_hexd _ (nib_lt n _)]
  unfold nib
  have e1 : 2 * i % 2 = 0 := by omega
  have e2 : ¬ (2 * i + 1) % 2 = 0 := by omega
  have e3 : 2 * i / 2 = i := by omega
  have e4 : (2 * i + 1) / 2 = i := by omega
  rw [if_pos e1, if_neg e2, e3, e4]
  omega
theorem top_pow : top = 256 ^ 16 := by decide
theorem numF_lt (f : Nat → Nat) (hf : ∀ i, f i < 256) : numF f 16 < top := by rw [top_pow]; exact (numF_spec f hf 16).1
theorem numF_byt (f : Nat → Nat) (hf : ∀ i, f i < 256) (i : Nat) (h : i < 16) : byt (numF f 16) i = f i := (numF_spec f hf 16).2 i h
theorem res_print (n : Nat) (hn : n < top) : resE (printB n) = 0 ∧ resN (printB n) = n := by
  have h0 : ∀ i, i < 32 → isHex (bt (printB n) i) = true := fun i hi => print_hex n i hi
  obtain ⟨h1, _⟩ := res_ok (printB n) (printB_size n) h0
  refine ⟨h1, ?_⟩
  rw [resN, h1, if_pos rfl]
  have hf : ∀ i, pb (printB n) 32 i < 256 := fun i => pb_lt _ 32 i h0
  exact eq_of_bytes (numF_lt _ hf) hn fun i hi => by rw [numF_byt _ hf i hi, pb_print n i hi]
theorem res_zero (s : ByteArray) (h : resE s = 0) : s.size = 32 ∧ ∀ i, i < 32 → isHex (bt s i) = true := by
  unfold resE at h
  by_cases h1 : allHex s (min s.size 33) = true
  · rw [if_pos h1] at h
    by_cases h2 : 32 < s.size
    · rw [if_pos h2] at h; cases h
    · rw [if_neg h2] at h
      by_cases h3 : s.size < 32
      · rw [if_pos h3] at h; cases h
      · exact ⟨by omega, fun i hi => (allHex_iff s _).1 h1 i (by omega)⟩
  · rw [if_neg h1] at h; cases h
theorem resN_lt (s : ByteArray) : resN s < top := by
  unfold resN
  split
  · rename_i h
    exact numF_lt _ fun i => pb_lt s 32 i (res_zero s h).2
  · decide
theorem bytes_ext (s t : ByteArray) (hs : s.size = t.size) (h : ∀ i, i < s.size → bt s i = bt t i) : s = t := by
  have : s.data = t.data := by
    apply Array.ext_getElem?
    intro i
    by_cases hi : i < s.size
    · have h1 : i < s.data.size := hi
      have h2 : i < t.data.size := by rw [← show s.data.size = t.data.size from hs]; exact h1
      have h3 := h i hi
      unfold bt at h3
      rw [Array.getElem?_eq_getElem h1, Array.getElem?_eq_getElem h2] at h3 ⊢
      have h4 : (s.data[i]).toNat = (t.data[i]).toNat := h3
      rw [UInt8.toNat_inj.1 h4]
    · have h1 : ¬ i < s.data.size := hi
      have h2 : ¬ i < t.data.size := by rw [← show s.data.size = t.data.size from hs]; exact h1
      rw [Array.getElem?_eq_none (by omega), Array.getElem?_eq_none (by omega)]
  cases s
  cases t
  simp at this
  rw [this]
theorem print_res (s : ByteArray) (h : resE s = 0) : printB (resN s) = s := by
  obtain ⟨h1, h2⟩ := res_zero s h
  have hf : ∀ i, pb s 32 i < 256 := fun i => pb_lt s 32 i h2
  apply bytes_ext
  · rw [printB_size, h1]
  · intro j hj
    rw [printB_size] at hj
    rw [bt_print _ _ hj]
    have e : resN s = numF (pb s 32) 16 := by rw [resN, if_pos h]
    unfold sgn nib
    rw [e, numF_byt _ hf (j / 2) (by omega)]
    have hp : pb s 32 (j / 2) = 16 * hexN (bt s (2 * (j / 2))) + hexN (bt s (2 * (j / 2) + 1)) := by unfold pb; rw [if_pos (by omega)]
    have q1 := hexN_lt _ (h2 (2 * (j / 2)) (by omega))
    have q2 := hexN_lt _ (h2 (2 * (j / 2) + 1) (by omega))
    rw [hp]
    have d1 : (16 * hexN (bt s (2 * (j / 2))) + hexN (bt s (2 * (j / 2) + 1))) / 16 = hexN (bt s (2 * (j / 2))) := by omega
    have d2 : (16 * hexN (bt s (2 * (j / 2))) + hexN (bt s (2 * (j / 2) + 1))) % 16 = hexN (bt s (2 * (j / 2) + 1)) := by omega
    by_cases hm : j % 2 = 0
    · have e1 : 2 * (j / 2) = j := by omega
      rw [if_pos hm, d1, hexd_hexN _ (h2 _ (by omega)), e1]
    · have e1 : 2 * (j / 2) + 1 = j := by omega
      rw [if_neg hm, d2, hexd_hexN _ (h2 _ (by omega)), e1]

set_option maxHeartbeats 1600000 in
theorem back_any (a : Nat) (ha : a < top) (s : ByteArray) (w : World) : Calls Try.prog 8 #[idV a, .string s] w fun e w' => e = .returned (.bool true) ∧ Gro w w' := by
  have GG : Gro w w := Gro.refl w
  have hy := resN_lt s
  obtain ⟨r1, r2⟩ := res_print a ha
  have HP : Hid (resE s = 0 → printB (resN s) = s) := print_res s
  obtain ⟨y, hyy⟩ : ∃ y, resN s = y := ⟨_, rfl⟩
  obtain ⟨f, hff⟩ : ∃ f, resE s = f := ⟨_, rfl⟩
  have H1 : Hid (∀ w, Calls Try.prog 24 #[.string (printB a)] w fun e w' => e = .returned (.tuple #[idV a, .int .i64 0]) ∧ Gro w w') := fun w => by
    have := parse_any (printB a) w
    rw [r1, r2] at this
    exact this
  have H2 : Hid (∀ w, Calls Try.prog 24 #[.string s] w fun e w' => e = .returned (.tuple #[idV y, .int .i64 f]) ∧ Gro w w') := fun w => by
    have := parse_any s w
    rw [hyy, hff] at this
    exact this
  rw [hyy] at HP hy
  rw [hff] at HP
  clear r1 r2 hyy hff
  unfold idV
  go_enter Try.func8, Try.ntmps8
  go_wp2_with (with_reducible refine wpList_at ?_; first | (refine wpList_box_d 2 rfl rfl 23 _ rfl _ rfl ?_; intro w1 g1 G1 e1 k1; have b1 := size_base GG e1; replace GG := GG.trans G1; clear G1 e1; (try simp only [Act.put, List.setIfInBounds_toArray, List.set_cons_zero, List.set_cons_succ])) | (first | (refine wl_load_id rfl _ rfl g1 rfl _ k1 ?_; (try simp only [Act.put, List.setIfInBounds_toArray, List.set_cons_zero, List.set_cons_succ]))))
  refine (print_any a _).mono ?_
  rintro e wN ⟨rfl, GN⟩
  replace k1 := GN.has k1
  replace GG := GG.trans GN
  clear GN
  go_wp2_with fail
  refine (H1.out _).mono ?_
  rintro e wN ⟨rfl, GN⟩
  replace k1 := GN.has k1
  replace GG := GG.trans GN
  clear GN
  go_wp2_with (with_reducible refine wpList_at ?_; first | (refine wpList_alloc_d 5 rfl rfl 23 rfl _ zero23 ?_; intro w2 g2 G2 e2 k2; have b2 := size_base GG e2; (try have d12 := lt_new k1 e2); (try replace k1 := G2.has k1); replace GG := GG.trans G2; clear G2 e2; (try simp only [Act.put, List.setIfInBounds_toArray, List.set_cons_zero, List.set_cons_succ])) | (refine wpList_store_agg rfl rfl 23 _ _ rfl _ rfl _ rfl 23 _ k2 (size23' _) (by simp only [idA_size]) (idA_one _) ?_; intro wN SN; (try replace k1 := SN.has (by omega) k1); replace k2 := SN.new; replace GG := GG.store SN b2; clear SN))
  refine (H2.out _).mono ?_
  rintro e wN ⟨rfl, GN⟩
  replace k1 := GN.has k1
  replace k2 := GN.has k2
  replace GG := GG.trans GN
  clear GN
  go_wp2_with (with_reducible refine wpList_at ?_; first | (refine wpList_alloc_d 7 rfl rfl 23 rfl _ zero23 ?_; intro w3 g3 G3 e3 k3; have b3 := size_base GG e3; (try have d13 := lt_new k1 e3); (try replace k1 := G3.has k1); (try have d23 := lt_new k2 e3); (try replace k2 := G3.has k2); replace GG := GG.trans G3; clear G3 e3; (try simp only [Act.put, List.setIfInBounds_toArray, List.set_cons_zero, List.set_cons_succ])) | (refine wpList_store_agg rfl rfl 23 _ _ rfl _ rfl _ rfl 23 _ k3 (size23' _) (by simp only [idA_size]) (idA_one _) ?_; intro wN SN; (try replace k1 := SN.has (by omega) k1); (try replace k2 := SN.has (by omega) k2); replace k3 := SN.new; replace GG := GG.store SN b3; clear SN))
  refine (fixed_any _).mono ?_
  rintro e wN ⟨rfl, GN⟩
  replace k1 := GN.has k1
  replace k2 := GN.has k2
  replace k3 := GN.has k3
  replace GG := GG.trans GN
  clear GN
  
  cases hf : decide (f = 0)
  · have hf' : ¬ f = 0 := by simpa using hf
    clear hf
    go_wp2_with (with_reducible refine wpList_at ?_; first | (first | (refine wl_load_id rfl _ rfl g2 rfl _ k2 ?_; (try simp only [Act.put, List.setIfInBounds_toArray, List.set_cons_zero, List.set_cons_succ])) | (refine wl_load_id rfl _ rfl g1 rfl _ k1 ?_; (try simp only [Act.put, List.setIfInBounds_toArray, List.set_cons_zero, List.set_cons_succ])) | (refine wl_load_id rfl _ rfl g3 rfl _ k3 ?_; (try simp only [Act.put, List.setIfInBounds_toArray, List.set_cons_zero, List.set_cons_succ]))) | (refine wl_eql_id rfl _ _ _ rfl a a rfl rfl ha ha true (decide_eq_true rfl) ?_; (try simp only [Act.put, List.setIfInBounds_toArray, List.set_cons_zero, List.set_cons_succ])))
    
    go_ret
    exact ⟨rfl, GG⟩
  · have hf' : f = 0 := by simpa using hf
    have hps := HP.out hf'
    subst hf'
    clear hf
    go_wp2_with (with_reducible refine wpList_at ?_; first | (first | (refine wl_load_id rfl _ rfl g2 rfl _ k2 ?_; (try simp only [Act.put, List.setIfInBounds_toArray, List.set_cons_zero, List.set_cons_succ])) | (refine wl_load_id rfl _ rfl g1 rfl _ k1 ?_; (try simp only [Act.put, List.setIfInBounds_toArray, List.set_cons_zero, List.set_cons_succ])) | (refine wl_load_id rfl _ rfl g3 rfl _ k3 ?_; (try simp only [Act.put, List.setIfInBounds_toArray, List.set_cons_zero, List.set_cons_succ]))) | (refine wl_eql_id rfl _ _ _ rfl a a rfl rfl ha ha true (decide_eq_true rfl) ?_; (try simp only [Act.put, List.setIfInBounds_toArray, List.set_cons_zero, List.set_cons_succ])))
    
    refine (Calls.val (print_any y _) (congrArg Value.string hps)).mono ?_
    rintro e wN ⟨rfl, GN⟩
    replace GG := GG.trans GN
    clear GN
    go_wp2
    go_ret
    exact ⟨rfl, GG⟩
end Go.Proofs.Ytaeiphdbdmaapaa
