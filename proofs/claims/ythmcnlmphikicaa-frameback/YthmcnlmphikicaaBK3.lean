/- No frame's bytes are the beginning of another one's (FrameCuts). -/
import Derived.Test.YthmcnlmphikicaaBK2
import Derived.Test.YthmcnlmphikicaaBH1
import Derived.Test.YthmcnlmphikicaaBFr7
namespace Go.Proofs.Ythmcnlmphikicaa
open Go.RowKit
/-- A frame is refused, or laid in bytes that may be read again. -/
def Laid (w : World) (f : Fr) (d : FD) : Prop :=
  ∃ k : Nat, 1 ≤ k ∧ k ≤ 12 ∧ f.kind = (k : Int) ∧ sameB f (bare k f) d (bareD k d) = true ∧ LayOK k f d ∧ d.tx.length ≤ 4096 ∧ (frameL k f d).length ≤ 1000009 ∧ 0 < (frameL k f d).length ∧
    ∀ w1, Gro w w1 → Calls Try.prog 10 #[.agg (frA f)] w1 fun e w' => ∃ ao cap, e = .returned (.tuple #[.slice ao (frameL k f d).length cap, .int .i64 0]) ∧ OB w' 5 .u8 w1.heap.size ao cap (frameL k f d) ∧ Gro w1 w'
def Refused (w : World) (f : Fr) : Prop := ∀ w1, Gro w w1 → Calls Try.prog 10 #[.agg (frA f)] w1 fun e w' => e = .returned (.tuple #[.slice none 0 0, .int .i64 1]) ∧ Gro w1 w'
theorem enc_way (w : World) (f : Fr) (d : FD) (HW : FrW w f d) (hl : Lens d) (HR : FrR f) : Refused w f ∨ Laid w f d := by
  by_cases hk : 1 ≤ f.kind ∧ f.kind ≤ 12
  · obtain ⟨k, hkk⟩ : ∃ k : Nat, f.kind = (k : Int) := ⟨f.kind.toNat, by omega⟩
    have h1 : 1 ≤ k := by omega
    have h2 : k ≤ 12 := by omega
    cases hr : rightB (bare k f) (bareD k d) (ownB k f) with
    | false => exact .inl fun w1 G => encode_right k h1 h2 f hkk d w1 (HW.gro G) hl hr
    | true =>
      cases hs : sameB f (bare k f) d (bareD k d) with
      | false => exact .inl fun w1 G => encode_only k h1 h2 f hkk d w1 (HW.gro G) hl hr hs
      | true =>
        obtain ⟨hL, htx⟩ := layok_of k h1 h2 f d w HW HR hr hs
        have hbl := bodyL_len k h1 h2 f d hL.tr hL.ids HW.oids hL.val htx
        have hn := numL_le k
        have hn1 := numL_len k
        have hfl : (frameL k f d).length = (numL k).length + (bodyL k f d).length := by simp [frameL]
        exact .inr ⟨k, h1, h2, hkk, hs, hL, htx, by omega, by omega, fun w1 G => encode_ok k h1 h2 f hkk d w1 (HW.gro G) hl HR hr hs hbl _ (Nat.le_refl _)⟩
  · exact .inl fun w1 _ => encode_none f hk w1
end Go.Proofs.Ythmcnlmphikicaa
