/- What is laid of a right frame may be read again. -/
import Derived.Test.YthmcnlmphikicaaCJ2
import Derived.Test.YthmcnlmphikicaaCH4
import Derived.Test.YthmcnlmphikicaaCFr7
namespace Go.Proofs.Ythmcnlmphikicaa
open Go.RowKit
theorem same_of {f g : Fr} {df dg : FD} (h : sameB f g df dg = true) : (idL f.pw = idL g.pw ∧ f.pn = g.pn) ∧ f.toA = g.toA ∧ idL f.a = idL g.a ∧ idL f.b = idL g.b ∧ f.n = g.n ∧ (f.fi = g.fi ∧ f.fn = g.fn) ∧ (f.ti = g.ti ∧ f.tn = g.tn) ∧ f.op = g.op ∧ f.ttl = g.ttl ∧ df.tr = dg.tr ∧ df.ids = dg.ids ∧ df.tx = dg.tx ∧ idL f.key = idL g.key ∧ (f.vn = g.vn ∧ idL f.vw = idL g.vw) ∧ df.val = dg.val := by
  simpa only [sameB, Bool.and_eq_true, decide_eq_true_eq] using h
theorem layok_of (k : Nat) (h1 : 1 ≤ k) (h2 : k ≤ 12) (f : Fr) (d : FD) (w : World) (HW : FrW w f d) (HR : FrR f) (hr : rightB (bare k f) (bareD k d) (ownB k f) = true) (hs : sameB f (bare k f) d (bareD k d) = true) : LayOK k f d ∧ d.tx.length ≤ 4096 := by
  obtain ⟨N, L, O⟩ := (rightB_iff _ _ _).1 hr
  obtain ⟨⟨_, e_pn⟩, _, _, _, e_n, ⟨e_fi, e_fn⟩, ⟨e_ti, e_tn⟩, _, _, e_tr, e_ids, e_tx, _, ⟨e_vn, _⟩, e_val⟩ := same_of hs
  have HB := HW.bare k h1 h2
  have l_tr := xc_len1 HB.tr
  have l_val := xc_len1 HB.val
  have l_ids : (bareD k d).ids.length ≤ 16 := by
    have h3 := HB.ids.len
    rw [cellsI_len HB.oids] at h3
    have h4 := L.ids
    omega
  have l_tx := xc_len1 HW.tx
  have htx : d.tx.length ≤ 4096 := by
    rcases is12 h1 h2 with rfl | rfl | rfl | rfl | rfl | rfl | rfl | rfl | rfl | rfl | rfl | rfl <;>
      first
      | (rw [e_tx]; simp [bareD]; done)
      | (have h5 := ownB2 O; omega)
      | (have h5 : f.tx.n ≤ 64 := by
          simp only [ownB, Bool.and_eq_true, decide_eq_true_eq] at O
          omega
         omega)
  refine ⟨⟨⟨by rw [e_pn]; exact N.pn, HR.pn⟩, ⟨by rw [e_n]; exact N.n, HR.n⟩, ⟨by rw [e_fi]; exact N.fi, HR.fi⟩, ⟨by rw [e_fn]; exact N.fn, HR.fn⟩, ⟨by rw [e_ti]; exact N.ti, HR.ti⟩, ⟨by rw [e_tn]; exact N.tn, HR.tn⟩, ⟨by rw [e_vn]; exact N.vn, HR.vn⟩, by rw [e_tr, ← l_tr]; exact L.tr, by rw [e_tr]; exact L.tok, by rw [e_ids]; exact l_ids, fun x hx => (HW.oids x hx).1, by rw [e_val, ← l_val]; exact L.val, ?_⟩, htx⟩
  rcases is12 h1 h2 with rfl | rfl | rfl | rfl | rfl | rfl | rfl | rfl | rfl | rfl | rfl | rfl <;> try trivial
  · simpa only [ownB, Bool.and_eq_true, decide_eq_true_eq] using O
  · simp only [ownB, Bool.and_eq_true, decide_eq_true_eq] at O
    exact ⟨O.1, O.2.1, O.2.2.1, O.2.2.2.1, by omega⟩
end Go.Proofs.Ythmcnlmphikicaa
