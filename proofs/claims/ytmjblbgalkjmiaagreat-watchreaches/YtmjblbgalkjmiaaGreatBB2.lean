/- Numbers and texts as bytes: what the document says of lists of bytes; no program. -/
import Derived.Test.YtmjblbgalkjmiaaGreatBB1
namespace Go.Proofs.YtmjblbgalkjmiaaGreat
def lim : Nat := 18446744073709551616
/-- The number that bytes make. -/
def valL (l : List Nat) : Nat := l.foldl (fun a b => a * 256 + b) 0
end Go.Proofs.YtmjblbgalkjmiaaGreat
