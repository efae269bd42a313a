/- Reading: texts, pairs of numbers, paths, versions, numbers within bounds, flags. -/
import Derived.Test.YthmcnlmphikicaaDR2
namespace Go.Proofs.Ythmcnlmphikicaa
open Go.RowKit
theorem RdP.mk_ok {α : Type} {rb : Nat} {so : Option Addr} {sc n : Nat} {w w' : World} {r : Except Nat (α × Nat)} {vp : α → Value → World → Prop} {a : α} {q : Nat} {v : Value} (hr : r = .ok (a, q)) (G : GroR rb w w') (hv : vp a v w') (k : w'.heap[rb]? = some (.cells (c123 ⟨so, n, sc⟩ (q : Int)) 123 (0, 0))) : RdP rb so sc n w r vp (.returned v) w' := by
  subst hr
  exact ⟨G, v, rfl, hv, k⟩
theorem RdP.mk_err {α : Type} {rb : Nat} {so : Option Addr} {sc n : Nat} {w w' : World} {r : Except Nat (α × Nat)} {vp : α → Value → World → Prop} {x : Nat} (hr : r = .error x) (G : GroR rb w w') : RdP rb so sc n w r vp (.panicked (thrown x)) w' := by
  subst hr
  exact ⟨G, rfl⟩
theorem rd_err {α : Type} {f : FuncId} {args : Array Value} {rb : Nat} {so : Option Addr} {sc n : Nat} {w : World} {vp : α → Value → World → Prop} {x : Nat} (H : Calls Try.prog f args w (RdP rb so sc n w (.error x) vp)) : Calls Try.prog f args w fun e w' => e = .panicked (thrown x) ∧ GroR rb w w' := H.mono fun _ _ ⟨G, h⟩ => ⟨h, G⟩
theorem rd_ok {α : Type} {f : FuncId} {args : Array Value} {rb : Nat} {so : Option Addr} {sc n : Nat} {w : World} {vp : α → Value → World → Prop} {a : α} {q : Nat} (H : Calls Try.prog f args w (RdP rb so sc n w (.ok (a, q)) vp)) : Calls Try.prog f args w fun e w' => ∃ v, e = .returned v ∧ vp a v w' ∧ GroR rb w w' ∧ w'.heap[rb]? = some (.cells (c123 ⟨so, n, sc⟩ (q : Int)) 123 (0, 0)) := H.mono fun _ _ ⟨G, v, h1, h2, h3⟩ => ⟨v, h1, h2, G, h3⟩
def thenR {α β : Type} (r : Except Nat (α × Nat)) (f : α → Nat → Except Nat (β × Nat)) : Except Nat (β × Nat) :=
  match r with
  | .error e => .error e
  | .ok (a, q) => f a q
def rdPa (l : List Nat) (i : Nat) : Except Nat ((List Nat × Nat) × Nat) := thenR (rdI l i) fun a q => thenR (rdN l q) fun b q => .ok ((a, b), q)
set_option maxRecDepth 100000 in
set_option maxHeartbeats 4000000 in
theorem rdPath (rb : Nat) (so : Option Addr) (sc : Nat) (l : List Nat) (i : Nat) (w : World) (krb : w.heap[rb]? = some (.cells (c123 ⟨so, l.length, sc⟩ (i : Int)) 123 (0, 0))) (HB : BS rb w so sc l) (hl : l.length ≤ 140737488355000) : Calls Try.prog 72 #[.pointer (some ⟨rb, 0, none⟩)] w (RdP rb so sc l.length w (rdPa l i) fun a v _ => v = .agg (c25 (idF a.1) ((a.2 : Nat) : Int)) ∧ a.1.length = 16) := by
  refine s_enter Try.func72 rfl Try.ntmps72 [.pointer (some ⟨rb, 0, none⟩)] [.pointer (some ⟨rb, 0, none⟩), undef, undef, undef, undef, undef, undef, undef] rfl ?_
  have GG := GroR.refl rb w
  have hrb := lt_of_heap krb
  refine wp_seq (wp_region_lit ?_)
  refine s_alloc 2 rfl rfl 25 rfl _ zv25 _ rfl ?_
  intro w1 g1 G eg1 kg1
  have bg1 := size_baseR GG eg1
  have drbg1 := lt_new krb eg1
  replace krb := G.has krb
  replace GG := GG.tg G
  clear G eg1
  refine wpList_nil (then_n (wp_seq (wp_region_lit (mv 3 (.pointer (some ⟨rb, 0, none⟩)) ?_))))
  simp only [z0, z1]
  obtain ⟨r1, hr1⟩ : ∃ r, rdI l i = r := ⟨_, rfl⟩
  have HC := rdID rb so sc l i _ krb (HB.gror GG) hl
  rw [hr1] at HC
  rcases r1 with e | ⟨x1, i1⟩
  refine s_callp rfl _ 70 Try.call70 rfl rfl _ rfl [.pointer (some ⟨rb, 0, none⟩)] rfl (rd_err HC) ?_
  intro w2 G
  replace GG := GG.trans G
  refine then_p ?_
  refine post_p rfl ?_
  exact RdP.mk_err (by simp only [rdPa, hr1, thenR]) GG
  refine s_callx 4 rfl rfl _ 70 Try.call70 rfl rfl _ rfl [.pointer (some ⟨rb, 0, none⟩)] rfl (rd_ok HC) (fun _ _ ⟨_, he, _⟩ => ⟨_, he⟩) ?_
  rintro v w2 ⟨_, he, hv, G, kn⟩
  cases he
  replace kg1 := G.has kg1 (by omega)
  replace GG := GG.trans G
  replace krb := kn
  clear HC kn
  obtain ⟨rfl, h16x1⟩ := hv
  clear G
  refine mv 5 (.pointer (some ⟨rb, 0, none⟩)) ?_
  simp only [z0, z1]
  obtain ⟨r2, hr2⟩ : ∃ r, rdN l i1 = r := ⟨_, rfl⟩
  have HC := rdNum rb so sc l i1 _ krb (HB.gror GG) hl
  rw [hr2] at HC
  rcases r2 with e | ⟨x2, i2⟩
  refine s_callp rfl _ 68 Try.call68 rfl rfl _ rfl [.pointer (some ⟨rb, 0, none⟩)] rfl (rd_err HC) ?_
  intro w3 G
  replace GG := GG.trans G
  refine then_p ?_
  refine post_p rfl ?_
  exact RdP.mk_err (by simp only [rdPa, hr1, hr2, thenR]) GG
  refine s_callx 6 rfl rfl _ 68 Try.call68 rfl rfl _ rfl [.pointer (some ⟨rb, 0, none⟩)] rfl (rd_ok HC) (fun _ _ ⟨_, he, _⟩ => ⟨_, he⟩) ?_
  rintro v w3 ⟨_, he, hv, G, kn⟩
  cases he
  replace kg1 := G.has kg1 (by omega)
  replace GG := GG.trans G
  replace krb := kn
  clear HC kn
  subst hv
  clear G
  refine sv 7 (.agg (c25 (idF x1) ((x2 : Nat) : Int))) (run_bd 25 _ rfl [(0, .agg (c23 (idF x1))), (1, .int .i64 ((x2 : Nat) : Int))] rfl _ (by kernel_rfl)) ?_
  simp only [z0, z1]
  refine s_store rfl rfl 25 _ _ rfl g1 0 rfl (.agg (c25 (idF x1) ((x2 : Nat) : Int))) rfl 25 _ kg1 (c25 (idF x1) ((x2 : Nat) : Int)) rfl (by kernel_rfl) (Nat.le_of_ble_eq_true rfl) (by kernel_rfl) (c25 (idF x1) ((x2 : Nat) : Int)) (by kernel_rfl) ?_
  intro w5 S
  replace krb := S.has (by omega) krb
  replace GG := GG.st S bg1
  replace kg1 := S.new
  clear S
  refine wpList_nil (then_n (wp_ret ?_))
  refine bodyPost_ret (results_cell_row Try.results72 _ _ g1 25 _ (0, 0) _ rfl kg1 Try.underlying25 rfl (by kernel_rfl)) rfl ?_
  exact RdP.mk_ok (a := (x1, x2)) (by simp only [rdPa, hr1, hr2, thenR]) GG (⟨rfl, h16x1⟩) krb
end Go.Proofs.Ythmcnlmphikicaa
