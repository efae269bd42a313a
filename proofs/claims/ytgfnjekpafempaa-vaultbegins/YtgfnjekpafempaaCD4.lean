/- Disk: all bytes; a disk of bytes. -/
import Derived.Test.YtgfnjekpafempaaCD3
namespace Go.Proofs.Ytgfnjekpafempaa
open Go.RowKit
theorem cut_at {o : Oper} {A : Act} (x y : Operand) (ho : o.op = .slice 30 x (some y) none none) (g n i : Nat) (hx : A.eval x = .slice (some ⟨g, 0, none⟩) n n) (hy : A.eval y = .int .i64 (i : Int)) (hi : i < n) (w : World) :
    (execOp A.eval o).run Try.prog w = .ok (.value (.slice (some ⟨g, i, none⟩) (n - i) (n - i))) w := by
  rw [run_cut bT x y ho (some ⟨g, 0, none⟩) n n i hx hy (by omega) w, if_neg (by omega), Option.map_some, add_at, Nat.zero_add]
end Go.Proofs.Ytgfnjekpafempaa
