/- FrameNew's calls, each in one form. -/
import Derived.Test.YthmcnlmphikicabZV3
import Derived.Test.YthmcnlmphikicabZL6
namespace Go.Proofs.Ythmcnlmphikicab
open Go.RowKit
theorem EqF.sym {f g : Fr} (h : EqF f g) : EqF g f := ⟨h.pw.symm, h.pn.symm, h.toA.symm, h.a.symm, h.b.symm, h.n.symm, h.fi.symm, h.fn.symm, h.ti.symm, h.tn.symm, h.key.symm, h.vn.symm, h.vw.symm, h.op.symm, h.ttl.symm⟩
def DS (d : FD) : Prop := d.tr.length * 8 ≤ 140737488355328 ∧ d.ids.length * 16 ≤ 140737488355328 ∧ d.val.length * 1 ≤ 140737488355328 ∧ d.tx.length * 1 ≤ 140737488355328
theorem frs_of {w : World} {f : Fr} {d : FD} (H : FrW w f d) (h : DS d) : FrS f := ⟨⟨by rw [H.trn]; exact h.1⟩, ⟨by rw [H.idn]; exact h.2.1⟩, ⟨by rw [H.valn]; exact h.2.2.1⟩, ⟨by rw [H.txn]; exact h.2.2.2⟩⟩
theorem ds_of {w : World} {f : Fr} {d : FD} (H : FrW w f d) (h : FrS f) : DS d := ⟨by rw [← H.trn]; exact h.tr.out, by rw [← H.idn]; exact h.ids.out, by rw [← H.valn]; exact h.val.out, by rw [← H.txn]; exact h.tx.out⟩
theorem spoil_v (f : Fr) (d : FD) (w : World) (B : Nat) (H : FrO w B f d) (hd : DS d) : Calls Try.prog 13 #[.agg (frA f)] w fun e w' => e = .returned (.tuple #[]) ∧ GroS (spB f) w w' :=
  spoil_own f d w B H (by have h := frs_of H.frw hd; have h1 := h.tr.out; have h2 := h.ids.out; have h3 := h.val.out; have h4 := h.tx.out; omega)
theorem copy_v (f : Fr) (d : FD) (w : World) (HF : FrW w f d) (HS : FrS f) (HR : FrR f) : Calls Try.prog 10 #[.agg (frA f)] w fun e w' => ∃ c : Fr, e = .returned (.agg (frA c)) ∧ EqF c f ∧ c.kind = f.kind ∧ FrR c ∧ FrO w' w.heap.size c d ∧ Gro w w' :=
  (copy_d f d w HF HS).mono fun _e _w' ⟨_s1, _s2, _s3, _s4, he, HO, G⟩ => ⟨_, he, ⟨rfl, rfl, rfl, rfl, rfl, rfl, rfl, rfl, rfl, rfl, rfl, rfl, rfl, rfl, rfl⟩, rfl, ⟨HR.pw, HR.a, HR.b, HR.key, HR.vw, HR.pn, HR.n, HR.fi, HR.fn, HR.ti, HR.tn, HR.vn, HR.op, HR.ttl⟩, HO, G⟩
theorem of_v (k : Nat) (h1 : 1 ≤ k) (h2 : k ≤ 12) (c : Fr) (hk : c.kind = (k : Int)) (d : FD) (w : World) (HW : FrW w c d) (hd : DS d) : Calls Try.prog 5 #[.agg (frA c)] w fun e w' => ∃ h : Fr, e = .returned (.tuple #[bodyV k h, .bool true]) ∧ EqF h c ∧ FrO w' w.heap.size h d ∧ Gro w w' :=
  (of_any k h1 h2 c hk d w HW (frs_of HW hd)).mono fun _e _w' ⟨_s1, _s2, _s3, _s4, he, HO, G⟩ => ⟨_, he, ⟨rfl, rfl, rfl, rfl, rfl, rfl, rfl, rfl, rfl, rfl, rfl, rfl, rfl, rfl, rfl⟩, HO, G⟩
theorem eqf_bare2 {f g : Fr} {k : Nat} (h1 : 1 ≤ k) (h2 : k ≤ 12) (h : EqF f g) : EqF (bare k f) (bare k g) := by
  rcases is12 h1 h2 with rfl | rfl | rfl | rfl | rfl | rfl | rfl | rfl | rfl | rfl | rfl | rfl <;>
    refine ⟨?_, ?_, ?_, ?_, ?_, ?_, ?_, ?_, ?_, ?_, ?_, ?_, ?_, ?_, ?_⟩ <;>
    first | exact h.pw | exact h.pn | exact h.toA | exact h.a | exact h.b | exact h.n | exact h.fi | exact h.fn | exact h.ti | exact h.tn | exact h.key | exact h.vn | exact h.vw | exact h.op | exact h.ttl | rfl
theorem plain_v (k : Nat) (h1 : 1 ≤ k) (h2 : k ≤ 12) (h : Fr) (d : FD) (w : World) (HW : FrW w h d) (hd : DS d) (hb : bareD k d = d) : Calls Try.prog 8 #[bodyV k h] w fun e w' => ∃ p : Fr, e = .returned (.agg (frA p)) ∧ EqF p (bare k h) ∧ p.kind = (k : Int) ∧ FrO w' w.heap.size p d ∧ Gro w w' :=
  (plain_any k h1 h2 h d w HW (frs_of HW hd)).mono fun e w' ⟨s1, s2, s3, s4, he, HO, G⟩ => ⟨_, he, ⟨rfl, rfl, rfl, rfl, rfl, rfl, rfl, rfl, rfl, rfl, rfl, rfl, rfl, rfl, rfl⟩, rfl, by rw [hb] at HO; exact HO, G⟩
theorem dec_v (k : Nat) (h1 : 1 ≤ k) (h2 : k ≤ 12) (c : Fr) (d : FD) (so : Option Addr) (sc : Nat) (w : World) (H : NC w .u8 so sc (frameL k c d)) (hl : (frameL k c d).length ≤ 140737488355000) (hL : LayOK k c d) (hd : DS d) (hb : bareD k d = d) : Calls Try.prog 12 #[.slice so (frameL k c d).length sc] w fun e w' => ∃ g : Fr, e = .returned (.tuple #[.agg (frA g), .int .i64 0]) ∧ EqF g (bare k c) ∧ g.kind = (k : Int) ∧ FrO w' w.heap.size g d ∧ Gro w w' := by
  obtain ⟨⟨g0, hD, hE⟩, _⟩ := dec_frame k h1 h2 c d hL
  rw [hb] at hD
  have HC := decode_OK so sc (frameL k c d) w H hl (k, g0, d) hD ⟨by have := hd.1; show d.tr.length ≤ _; omega, by have := hd.2.1; show d.ids.length ≤ _; omega, by have := hd.2.2.1; show d.val.length ≤ _; omega, by have := hd.2.2.2; show d.tx.length ≤ _; omega⟩
  refine HC.mono fun e w' hP => ?_
  unfold DecP at hP
  rw [hD] at hP
  obtain ⟨G, g, he, ⟨s1, s2, s3, s4, hg⟩, HO⟩ := hP
  have HO2 : FrO w' w.heap.size g (bareD k d) := HO
  rw [hb] at HO2
  refine ⟨g, he, ?_, ?_, HO2, G⟩
  · have hE2 := eqf_bare h1 h2 hE
    subst hg
    have hE3 := hE2.sym
    exact ⟨hE3.pw, hE3.pn, hE3.toA, hE3.a, hE3.b, hE3.n, hE3.fi, hE3.fn, hE3.ti, hE3.tn, hE3.key, hE3.vn, hE3.vw, hE3.op, hE3.ttl⟩
  · subst hg
    rfl
end Go.Proofs.Ythmcnlmphikicab
