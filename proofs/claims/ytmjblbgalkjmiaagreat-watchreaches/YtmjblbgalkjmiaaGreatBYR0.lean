/- This program has no zero value that bears blocks; it leaves orders open. -/
import Derived.Test.YtmjblbgalkjmiaaGreatProg
import Derived.Test.YtmjblbgalkjmiaaGreatBY11
import Derived.KernelRfl
namespace Go.Proofs.YtmjblbgalkjmiaaGreat
open EX
set_option maxRecDepth 1000000
def zerosOK (P : Program) : Bool := P.types.toList.all fun t => match t.zero with
  | some v => v.cells.toList.all (closed 63)
  | none => true
def namesOK (P : Program) (k : Nat) : Bool := ((P.funcs.toList.drop (64 * k)).take 64).all fun f => Bool.not (f.name == "runtime.NumGoroutine")
theorem zeros_ok : zerosOK Tryz.prog = true := by kernel_rfl
theorem names_ok0 : namesOK Tryz.prog 0 = true := by kernel_rfl
theorem names_ok1 : namesOK Tryz.prog 1 = true := by kernel_rfl
theorem names_ok2 : namesOK Tryz.prog 2 = true := by kernel_rfl
theorem names_ok3 : namesOK Tryz.prog 3 = true := by kernel_rfl
theorem names_ok4 : namesOK Tryz.prog 4 = true := by kernel_rfl
theorem names_ok5 : namesOK Tryz.prog 5 = true := by kernel_rfl
theorem names_ok6 : namesOK Tryz.prog 6 = true := by kernel_rfl
theorem names_ok7 : namesOK Tryz.prog 7 = true := by kernel_rfl
theorem funcs_size : Nat.ble Tryz.prog.funcs.size 512 = true := by kernel_rfl
theorem yfollows : Tryz.prog.follows .mixedOrders = true := by kernel_rfl
theorem names_all : ∀ k, k < 8 → namesOK Tryz.prog k = true
  | 0, _ => names_ok0
  | 1, _ => names_ok1
  | 2, _ => names_ok2
  | 3, _ => names_ok3
  | 4, _ => names_ok4
  | 5, _ => names_ok5
  | 6, _ => names_ok6
  | 7, _ => names_ok7
  | k + 8, h => by omega
theorem names_at (f : Nat) (fn : Func) (hf : Tryz.prog.funcs[f]? = some fn) : (fn.name == "runtime.NumGoroutine") = false := by
    have hl : f < Tryz.prog.funcs.size := (Array.getElem?_eq_some_iff.1 hf).1
    have hs := Nat.le_of_ble_eq_true funcs_size
    have h8 : f / 64 < 8 := by omega
    have hm : fn ∈ (Tryz.prog.funcs.toList.drop (64 * (f / 64))).take 64 := by
      refine List.mem_of_getElem? (i := f % 64) ?_
      rw [List.getElem?_take_of_lt (by omega), List.getElem?_drop]
      have e : 64 * (f / 64) + f % 64 = f := by omega
      rw [e]
      simpa using hf
    have := List.all_eq_true.1 (names_all _ h8) fn hm
    simpa using this
theorem zc : Zc Tryz.prog := by
  refine ⟨fun t i v hi hz => ?_, fun f fn hf => ?_⟩
  · refine zeros_of (T := Tryz.prog.toTables) (fun t i v ht hz => ?_) hi hz
    have hm : i ∈ Tryz.prog.types.toList := List.mem_of_getElem? (i := t) (by simpa using ht)
    have := List.all_eq_true.1 zeros_ok i hm
    rw [hz] at this
    exact fun x hx => List.all_eq_true.1 this x hx
  · exact names_at f fn hf
end Go.Proofs.YtmjblbgalkjmiaaGreat
