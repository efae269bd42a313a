/- Facts on this program: the type of identities, their reading, comparing and indexing. -/
import Derived.Test.YtjbpgiphimmleaaRows
import Derived.Test.YtjbpgiphimmleaaNum
import Derived.Test.YtjbpgiphimmleaaOps
namespace Go.Proofs.Ytjbpgiphimmleaa
open Go.RowKit

theorem size5 : (Try.prog.info? 5).map (·.size) = some 1 := by kernel_rfl
theorem follows : Try.prog.follows .mixedOrders = true := by kernel_rfl
theorem part_id (n k : Nat) (hk : k < 16) (w : World) : (part 5 (idA n) k).run Try.prog w = .ok (.int .u8 (byt n k)) w := by
  have h := idA_get n k hk
  simp [part, go_sem, h]
theorem extract_id (n : Nat) : (idA n).extract 0 (0 + 16) = idA n := by
  have : 0 + 16 = (idA n).size := (idA_size n).symm
  rw [this, Array.extract_size]
section
variable {ops : Array Oper} {o : Oper} {A : Act} {w : World}
end
end Go.Proofs.Ytjbpgiphimmleaa
