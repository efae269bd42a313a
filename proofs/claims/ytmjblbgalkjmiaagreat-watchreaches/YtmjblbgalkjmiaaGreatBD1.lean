/- Disks in memory: bytes as blocks, worlds that grow but for some blocks. -/
import Derived.Test.YtmjblbgalkjmiaaGreatBS1
import Derived.Test.YtmjblbgalkjmiaaGreatBB4
import Derived.Test.YtmjblbgalkjmiaaGreatBX1
import Derived.Test.YtmjblbgalkjmiaaGreatBBase
namespace Go.Proofs.YtmjblbgalkjmiaaGreat
open Go.RowKit
theorem s_enter {P : Program} {f : FuncId} {fn : Func} {c : Code} {w : World} {R : Ending → World → Prop} {n : Nat} (hf : P.funcs[f]? = some fn) (hb : fn.body = some c) (hn : fn.ntmps = n) (xs T : List Value) (hT : xs ++ List.replicate (n - xs.length) undef = T)
    (h : c.wp P (bodyPost P fn R) ⟨T.toArray, []⟩ w) : Calls P f xs.toArray w R := by
  refine calls_of_wp hf hb ?_
  subst hT
  subst hn
  have : (xs.toArray ++ Array.replicate (fn.ntmps - xs.toArray.size) undef) = (xs ++ List.replicate (fn.ntmps - xs.length) undef).toArray := by
    apply Array.toList_inj.1
    simp
  rw [this]
  exact h
theorem na3 (w : World) : (isAgg 3).run Tryz.prog w = .ok false w := by kernel_rfl
/-! ### Worlds that only grow, but for some blocks -/
structure GroS (S : List Nat) (w w' : World) : Prop where
  os : w'.os = w.os
  tape : w'.tape = w.tape
  output : w'.output = w.output
  size : w.heap.size ≤ w'.heap.size
  old : ∀ k, k < w.heap.size → k ∉ S → w'.heap[k]? = w.heap[k]?
theorem GroS.refl (S : List Nat) (w : World) : GroS S w w := ⟨rfl, rfl, rfl, Nat.le_refl _, fun _ _ _ => rfl⟩
theorem GroS.trans {S : List Nat} {a b c : World} (h : GroS S a b) (k : GroS S b c) : GroS S a c :=
  ⟨k.os.trans h.os, k.tape.trans h.tape, k.output.trans h.output, Nat.le_trans h.size k.size, fun i hi hn => (k.old i (Nat.lt_of_lt_of_le hi h.size) hn).trans (h.old i hi hn)⟩
theorem GroS.of {S : List Nat} {a b : World} (h : Gro a b) : GroS S a b := ⟨h.os, h.tape, h.output, h.size, fun k hk _ => h.block k hk⟩
theorem GroS.tg {S : List Nat} {a b c : World} (h : GroS S a b) (k : Gro b c) : GroS S a c := h.trans (.of k)
theorem GroS.drew {S : List Nat} {a b : World} (h : GroS S a b) : GroS S a b.drew := h.tg (Gro.refl b).drew
theorem GroS.st {S : List Nat} {g : Nat} {a b c : World} {x : Obj} (h : GroS S a b) (T : Stored b c g x) (hg : a.heap.size ≤ g ∨ g ∈ S) : GroS S a c :=
  ⟨T.os.trans h.os, T.tape.trans h.tape, T.output.trans h.output, Nat.le_trans h.size (Nat.le_of_eq T.size.symm), fun i hi hn => (T.old i (fun e => by
    rcases hg with hg | hg
    · omega
    · exact hn (e ▸ hg))).trans (h.old i hi hn)⟩
theorem GroS.has {S : List Nat} {k : Nat} {a b : World} {x : Obj} (h : GroS S a b) (hk : a.heap[k]? = some x) (hn : k ∉ S) : b.heap[k]? = some x := by
  rw [h.old k (lt_of_heap hk) hn]; exact hk
theorem GroS.mono {S T : List Nat} {a b : World} (h : GroS S a b) (hs : ∀ x ∈ S, x ∈ T) : GroS T a b := ⟨h.os, h.tape, h.output, h.size, fun k hk hn => h.old k hk fun e => hn (hs k e)⟩
/-- Blocks that are newer than a world don't count for it. -/
theorem GroS.gro {S : List Nat} {w a b : World} (h : GroS S a b) (G : Gro w a) (hs : ∀ x ∈ S, w.heap.size ≤ x) : Gro w b :=
  ⟨h.os.trans G.os, h.tape.trans G.tape, h.output.trans G.output, Nat.le_trans G.size h.size, fun k hk => (h.old k (Nat.lt_of_lt_of_le hk G.size) (fun e => by have := hs k e; omega)).trans (G.block k hk)⟩
theorem GroS.gros {S T : List Nat} {w a b : World} (h : GroS S a b) (G : GroS T w a) (hs : ∀ x ∈ S, x ∈ T ∨ w.heap.size ≤ x) : GroS T w b :=
  ⟨h.os.trans G.os, h.tape.trans G.tape, h.output.trans G.output, Nat.le_trans G.size h.size, fun k hk hn => (h.old k (Nat.lt_of_lt_of_le hk G.size) (fun e => by
    rcases hs k e with h | h
    · exact hn h
    · omega)).trans (G.old k hk hn)⟩
theorem GroS.nc {S : List Nat} {w w' : World} {k : IntKind} {ao : Option Addr} {cap : Nat} {l : List Nat} (G : GroS S w w') (h : NC w k ao cap l) (hne : ∀ ad, ao = some ad → 0 < l.length → ad.block ∉ S) : NC w' k ao cap l :=
  ⟨h.fit, h.bare, fun ad ha j hj => by
    have h1 := h.cell ad ha j hj
    have hb : (ad.add j).block = ad.block := add_block ad j
    exact (World.cell?_of_block (G.old _ (World.block_lt_of_cell? w _ h1) (by rw [hb]; exact hne ad ha (by omega)))).trans h1, h.wf⟩
/-- Bytes that lie apart from these blocks. -/
structure BS (S : List Nat) (w : World) (so : Option Addr) (sc : Nat) (l : List Nat) : Prop where
  nc : NC w .u8 so sc l
  ne : ∀ ad, so = some ad → 0 < l.length → ad.block ∉ S
theorem BS.gros {S : List Nat} {w w' : World} {so : Option Addr} {sc : Nat} {l : List Nat} (h : BS S w so sc l) (G : GroS S w w') : BS S w' so sc l := ⟨G.nc h.nc h.ne, h.ne⟩
theorem BS.gro {S : List Nat} {w w' : World} {so : Option Addr} {sc : Nat} {l : List Nat} (h : BS S w so sc l) (G : Gro w w') : BS S w' so sc l := ⟨h.nc.gro G, h.ne⟩
theorem BS.st {S : List Nat} {w w' : World} {so : Option Addr} {sc : Nat} {l : List Nat} {g : Nat} {x : Obj} (h : BS S w so sc l) (T : Stored w w' g x) (hg : ∀ ad, so = some ad → 0 < l.length → ad.block ≠ g) : BS S w' so sc l :=
  ⟨GroS.nc (S := [g]) ((GroS.refl [g] w).st T (.inr (by simp))) h.nc (fun ad ha h0 => by simpa using hg ad ha h0), h.ne⟩
def zs (n : Nat) : List Nat := List.replicate n 0
end Go.Proofs.YtmjblbgalkjmiaaGreat
