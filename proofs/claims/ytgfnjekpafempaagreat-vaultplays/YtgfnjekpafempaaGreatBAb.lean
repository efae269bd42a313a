import Derived.WalkKit
namespace Go.Proofs.YtgfnjekpafempaaGreat
abbrev vP (g o : Nat) : Value := .pointer (some ⟨g, o, none⟩)
abbrev vT : Value := .bool true
abbrev vF : Value := .bool false
abbrev uD : Value := undef
section
variable {P : Program} {Q Q2 : Exit → Act → World → Prop} {a : Act} {w : World} {ops : Array Oper} {x y : Code} {id : Nat} {l : List Oper} {c : Operand} {next : Act → World → Prop} {i : Nat}
theorem qL (h : next a w) : wpList P ops (Exit.then next Q) [] a w := h
theorem qK (h : next a w) : Code.skip.wp P (Exit.then next Q) a w := wp_skip h
theorem qS (h : wpList P l.toArray (Exit.then (y.wp P Q) Q) l a w) : (Code.seq (Code.region id l.toArray false) y).wp P Q a w := wp_seq (wp_region_lit h)
theorem qA (h : wpList P l.toArray (Exit.then (y.wp P Q) Q) l a w) : wpList P ops (Exit.then ((Code.seq (Code.region id l.toArray false) y).wp P Q) Q2) [] a w := wp_seq (wp_region_lit h)
theorem qT (h1 : a.eval c = .bool true) (h : x.wp P Q a w) : (Code.cond c x y).wp P Q a w := wp_cond_true h1 h
theorem qF (h1 : a.eval c = .bool false) (h : y.wp P Q a w) : (Code.cond c x y).wp P Q a w := wp_cond_false h1 h
theorem qG (h : wpList P l.toArray Q l a w) : (Code.region id l.toArray false).wp P Q a w := wp_region_lit h
theorem qE (h : x.wp P (Exit.then (y.wp P Q) Q) a w) : (Code.seq x y).wp P Q a w := wp_seq h
theorem qN (h : Q .normal a w) : wpList P ops Q [] a w := h
theorem qR (h : Q .ret a w) : Code.ret.wp P Q a w := wp_ret h
theorem qB (h : x.wp P (Exit.inBlock i Q) a w) : (Code.block i x).wp P Q a w := wp_block h
end
abbrev iK (x : Int) : Value := .int .i64 x
abbrev nK (n : Nat) : Value := .int .i64 (n : Int)
end Go.Proofs.YtgfnjekpafempaaGreat
