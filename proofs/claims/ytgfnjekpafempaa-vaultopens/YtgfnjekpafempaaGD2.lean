/- Disk: how many sectors, how many writes, power. -/
import Derived.Test.YtgfnjekpafempaaGD1
import Derived.Test.YtgfnjekpafempaaGB11
import Derived.Test.YtgfnjekpafempaaGQ0
namespace Go.Proofs.Ytgfnjekpafempaa
open Go.RowKit
/-! ### Regions whose operations are not looked at again -/
structure DK (w : World) (p sg n : Nat) (L : List Nat) (pw dn : Int) : Prop where
  box : w.heap[p]? = some (.cells (c101 ⟨some ⟨sg, 0, none⟩, n, n⟩ pw dn) 101 (0, 0))
  sec : w.heap[sg]? = some (.cells (bv L) 98 (0, 0))
  len : L.length = n * 64
  le : n ≤ 4096
  byte : ∀ x ∈ L, x < 256
  ne : p ≠ sg
theorem DK.gro {w w' : World} {p sg n : Nat} {L : List Nat} {pw dn : Int} (h : DK w p sg n L pw dn) (G : Gro w w') : DK w' p sg n L pw dn := ⟨G.has h.box, G.has h.sec, h.len, h.le, h.byte, h.ne⟩
theorem DK.gros {S : List Nat} {w w' : World} {p sg n : Nat} {L : List Nat} {pw dn : Int} (h : DK w p sg n L pw dn) (G : GroS S w w') (hp : p ∉ S) (hs : sg ∉ S) : DK w' p sg n L pw dn := ⟨G.has h.box hp, G.has h.sec hs, h.len, h.le, h.byte, h.ne⟩
set_option maxRecDepth 100000 in
set_option maxHeartbeats 4000000 in
theorem size_any (w : World) (p sg n : Nat) (L : List Nat) (pw dn : Int) (H : DK w p sg n L pw dn) : Calls Try.prog 43 #[.pointer (some ⟨p, 0, none⟩)] w fun e w' => e = .returned (.int .i64 ((n : Nat) : Int)) ∧ Gro w w' := by
  refine s_enter Try.func43 rfl Try.ntmps43 [.pointer (some ⟨p, 0, none⟩)] [.pointer (some ⟨p, 0, none⟩), undef, undef, undef, undef, undef, undef, undef, undef, undef] rfl ?_
  have GG := Gro.refl w
  have kp := H.box
  have ksg := H.sec
  have hne := H.ne
  refine wp_seq ?_
  refine wp_region_lit ?_
  refine s_val 2 rfl rfl (.int .i64 0) (rfl) ?_
  refine nr ?_; intro U h; simp only [z0, z1] at h; subst h
  refine wpList_nil ?_
  refine then_n ?_
  refine wp_seq ?_
  refine wp_seq ?_
  refine wp_region_lit ?_
  refine s_val 3 rfl rfl (.pointer (some ⟨p, 0, none⟩)) (rfl) ?_
  refine nr ?_; intro U h; simp only [z0, z1] at h; subst h
  refine s_val 4 rfl rfl (.bool false) (run_eqnp 32 _ _ _ rfl _ rfl rfl Try.underlying32 _) ?_
  refine nr ?_; intro U h; simp only [z0, z1] at h; subst h
  refine wpList_nil ?_
  refine then_n ?_
  refine wp_cond_false rfl ?_
  refine wp_skip ?_
  refine then_n ?_
  refine wp_seq ?_
  refine wp_region_lit ?_
  refine s_val 5 rfl rfl (.pointer (some ⟨p, 0, none⟩)) (rfl) ?_
  refine nr ?_; intro U h; simp only [z0, z1] at h; subst h
  refine s_val 6 rfl rfl (.pointer (some ⟨p, 0, none⟩)) (run_nc _ rfl _ rfl) ?_
  refine nr ?_; intro U h; simp only [z0, z1] at h; subst h
  refine s_val 7 rfl rfl (.pointer (some ⟨p, 0, none⟩)) (run_fld 101 _ 0 rfl _ _ rfl _ (by kernel_rfl)) ?_
  refine nr ?_; intro U h; simp only [z0, z1] at h; subst h
  refine s_val 8 rfl rfl (.slice (some ⟨sg, 0, none⟩) n n) (run_ldc 99 _ rfl p 0 rfl 101 _ kp (na99 _) _ rfl) ?_
  refine nr ?_; intro U h; simp only [z0, z1] at h; subst h
  refine s_val 9 rfl rfl (.int .i64 ((n : Nat) : Int)) (run_len Try.underlying99 _ rfl _ _ _ rfl _) ?_
  refine nr ?_; intro U h; simp only [z0, z1] at h; subst h
  refine s_val 2 rfl rfl (.int .i64 ((n : Nat) : Int)) (rfl) ?_
  refine nr ?_; intro U h; simp only [z0, z1] at h; subst h
  refine wpList_nil ?_
  refine then_n ?_
  refine wp_ret ?_
  refine bodyPost_ret (results_tmp Try.results43 _ _ _) rfl ?_
  exact ⟨rfl, GG⟩
def hasB (n : Nat) (i : Int) : Bool := bif decide (0 ≤ i) then decide (i < (n : Int)) else false
set_option maxRecDepth 100000 in
set_option maxHeartbeats 4000000 in
theorem has_any (w : World) (p sg n : Nat) (L : List Nat) (pw dn : Int) (H : DK w p sg n L pw dn) (i : Int) : Calls Try.prog 96 #[.pointer (some ⟨p, 0, none⟩), .int .i64 i] w fun e w' => e = .returned (.bool (hasB n i)) ∧ Gro w w' := by
  refine s_enter Try.func96 rfl Try.ntmps96 [.pointer (some ⟨p, 0, none⟩), .int .i64 i] [.pointer (some ⟨p, 0, none⟩), .int .i64 i, undef, undef, undef, undef, undef, undef, undef, undef, undef, undef, undef] rfl ?_
  have GG := Gro.refl w
  have kp := H.box
  have ksg := H.sec
  have hne := H.ne
  refine wp_seq ?_
  refine wp_region_lit ?_
  refine s_val 4 rfl rfl (.bool false) (rfl) ?_
  refine nr ?_; intro U h; simp only [z0, z1] at h; subst h
  refine wpList_nil ?_
  refine then_n ?_
  refine wp_seq ?_
  refine wp_region_opq ?_
  intro OPS hY
  have y2 := hY 2 7 rfl
  clear hY
  refine s_val 5 rfl rfl (.int .i64 i) (rfl) ?_
  refine nr ?_; intro U h; simp only [z0, z1] at h; subst h
  obtain ⟨p1, hp1⟩ : ∃ p, decide (0 ≤ i) = p := ⟨_, rfl⟩
  refine s_val 6 rfl rfl (.bool p1) (run_leqT 3 _ _ _ rfl 0 i rfl rfl p1 hp1 _) ?_
  refine nr ?_; intro U h; simp only [z0, z1] at h; subst h
  cases p1
  · refine s_val _ rfl rfl (.bool false) rfl ?_
    refine nr ?_; intro U h; simp only [z0, z1] at h; subst h
    iterate 4 (refine s_skipY _ rfl rfl y2 rfl ?_; refine nr ?_; intro U h; simp only [z0, z1] at h; subst h)
    refine s_val _ rfl rfl (.bool false) rfl ?_
    refine nr ?_; intro U h; simp only [z0, z1] at h; subst h
    refine s_val _ rfl rfl (.bool false) rfl ?_
    refine nr ?_; intro U h; simp only [z0, z1] at h; subst h
    refine wpList_nil ?_
    refine then_n ?_
    refine wp_ret ?_
    refine bodyPost_ret (results_tmp Try.results96 _ _ _) rfl ?_
    refine ⟨?_, GG⟩
    show Ending.returned (.bool false) = _
    unfold hasB
    rw [hp1]
    first | done | rfl
  refine s_val 7 rfl rfl (.bool true) (rfl) ?_
  refine nr ?_; intro U h; simp only [z0, z1] at h; subst h
  refine s_gvalY 8 rfl rfl y2 rfl (.int .i64 i) (rfl) ?_
  refine nr ?_; intro U h; simp only [z0, z1] at h; subst h
  refine s_gvalY 9 rfl rfl y2 rfl (.pointer (some ⟨p, 0, none⟩)) (rfl) ?_
  refine nr ?_; intro U h; simp only [z0, z1] at h; subst h
  refine s_gcallvY 10 rfl rfl y2 rfl _ 43 Try.call43 rfl rfl _ rfl [.pointer (some ⟨p, 0, none⟩)] rfl (size_any w p sg n L pw dn (H.gro GG)) ?_
  intro w1 G
  replace kp := G.has kp
  replace ksg := G.has ksg
  replace GG := GG.trans G
  clear G
  refine nr ?_; intro U h; simp only [z0, z1] at h; subst h
  obtain ⟨p2, hp2⟩ : ∃ p, decide (i < ((n : Nat) : Int)) = p := ⟨_, rfl⟩
  refine s_gvalY 11 rfl rfl y2 rfl (.bool p2) (run_lssT 3 _ _ _ rfl i ((n : Nat) : Int) rfl rfl p2 hp2 _) ?_
  refine nr ?_; intro U h; simp only [z0, z1] at h; subst h
  cases p2
  · refine s_val _ rfl rfl (.bool false) rfl ?_
    refine nr ?_; intro U h; simp only [z0, z1] at h; subst h
    refine s_val _ rfl rfl (.bool false) rfl ?_
    refine nr ?_; intro U h; simp only [z0, z1] at h; subst h
    refine wpList_nil ?_
    refine then_n ?_
    refine wp_ret ?_
    refine bodyPost_ret (results_tmp Try.results96 _ _ _) rfl ?_
    refine ⟨?_, GG⟩
    show Ending.returned (.bool false) = _
    unfold hasB
    rw [hp1, hp2]
    first | done | rfl
  refine s_val 12 rfl rfl (.bool true) (rfl) ?_
  refine nr ?_; intro U h; simp only [z0, z1] at h; subst h
  refine s_val 4 rfl rfl (.bool true) (rfl) ?_
  refine nr ?_; intro U h; simp only [z0, z1] at h; subst h
  refine wpList_nil ?_
  refine then_n ?_
  refine wp_ret ?_
  refine bodyPost_ret (results_tmp Try.results96 _ _ _) rfl ?_
  refine ⟨?_, GG⟩
  show Ending.returned (.bool true) = _
  unfold hasB
  rw [hp1, hp2]
  first | done | rfl
end Go.Proofs.Ytgfnjekpafempaa
