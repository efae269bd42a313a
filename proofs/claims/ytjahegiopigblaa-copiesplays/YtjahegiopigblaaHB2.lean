/- Numbers and texts as bytes: what the document says of lists of bytes; no program. -/
import Derived.Test.YtjahegiopigblaaHB1
namespace Go.Proofs.Ytjahegiopigblaa
/-- How many bytes a number has. -/
def nb (x : Nat) : Nat := if x = 0 then 0 else if x < 256 then 1 else if x < 65536 then 2 else if x < 16777216 then 3 else if x < 4294967296 then 4 else if x < 1099511627776 then 5 else if x < 281474976710656 then 6 else if x < 72057594037927936 then 7 else 8
end Go.Proofs.Ytjahegiopigblaa
