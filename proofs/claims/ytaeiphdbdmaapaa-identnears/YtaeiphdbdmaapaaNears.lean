/- For every identity, every two others and every list the law on who is nearer and who is nearest returns true, and the arguments stay as they were. -/
import Derived.Test.YtaeiphdbdmaapaaRows
import Derived.Test.YtaeiphdbdmaapaaFr
import Derived.Test.YtaeiphdbdmaapaaW22
import Derived.ProofKit
namespace Go.Proofs.Ytaeiphdbdmaapaa
open Go.ChangeShapes Go.WideShapes Go.ChangeAt Go.RowKit

theorem cells28 : Try.prog.cellsOf 28 = 32 := by kernel_rfl
theorem parts2 (l x y : List Value) (hl : l.length = 32) (h1 : (l.drop (0 * 16)).take 16 = x) (h2 : (l.drop (1 * 16)).take 16 = y) : l = x ++ y := by
  subst h1 h2
  have e1 : List.drop (0 * 16) l = l := by simp
  have e3 : (l.drop 16).take 16 = l.drop 16 := List.take_of_length_le (by simp; omega)
  rw [e1, show 1 * 16 = 16 from rfl, e3, List.take_append_drop]
theorem of_two_lists {cs x y : Array Value} (h : cs.toList = x.toList ++ y.toList) : cs = x ++ y := by
  apply Array.toList_inj.1
  rw [Array.toList_append, h]
theorem two_of_list {cs : Array Value} {a b : Nat} (h : cs.toList = (idA a).toList ++ (idA b).toList) : cs = twoA a b := of_two_lists h
section
variable {H : Type} {enc : TypeId × Value → H} {w : World} {spare : Nat → Bool} {held : Bool}
theorem open_two {base : Nat} {r : Reach} {b0 : Nat} {v : Value} {d : DataW H} {ps : List MemPlace} (hval : Value.okWide Try.prog w r b0 28 v) (hd : DataW.Trod enc Try.prog w base spare held 28 v d ps) :
    ∃ a b, a < top ∧ b < top ∧ v = twoV a b := by
  have hu := Try.underlying28
  simp only [Value.okWide, hu] at hval
  obtain ⟨cs, rfl, _, _⟩ := hval
  obtain ⟨fuel, hf⟩ := hd
  obtain ⟨xs, m, _, _, hl, hx, he⟩ := DataW.trod_array Try.underlying28 hf
  have hl' : cs.toList.length = 32 := by rw [← cells28]; exact hl
  have key : ∀ i, i < 2 → ∃ n, n < top ∧ (cs.toList.drop (i * 16)).take 16 = (idA n).toList := fun i hi => by
    have h1 := he i hi
    rw [List.getElem?_eq_getElem (by omega), cells23] at h1
    exact id_of_trod h1
  obtain ⟨a, ha, h1⟩ := key 0 (by omega)
  obtain ⟨b, hb, h2⟩ := key 1 (by omega)
  have h4 := parts2 _ _ _ hl' h1 h2
  have h5 : cs = twoA a b := two_of_list h4
  exact ⟨a, b, ha, hb, congrArg Value.agg h5⟩
theorem cells_row {a : Addr} {n : Nat} {l : List Value} {base : Nat} (h : w.cells? base a n = some l) : ∀ r, r < n → w.cell? (a.add r) = l[r]? := by
  intro r hr
  unfold World.cells? at h
  split at h
  · exact mapM_some_get h r r (by simp [hr])
  · cases h
theorem heap_of_cell {a : Addr} {v : Value} (h : w.cell? a = some v) : ∃ cs t fr, w.heap[a.block]? = some (.cells cs t fr) := by
  unfold World.cell? at h
  split at h
  · rename_i c t fr hh
    exact ⟨c, t, fr, hh⟩
  · cases h
/-- A slice of identities, opened: its first m. -/
theorem open_ids {v : Value} {d : DataW H} {ps : List MemPlace} (hd : DataW.Trod enc Try.prog w 0 spare held 29 v d ps) (hv : v.cells.toList = [v]) :
    ∃ av n cap l, v = .slice av n cap ∧ min n 200 ≤ cap ∧ l.length ≤ 1048576 ∧ SL w (.slice av (min n 200) cap) l := by
  obtain ⟨fuel, hf⟩ := hd
  rw [hv] at hf
  rcases DataW.trod_slice Try.underlying29 hf with ⟨h0, _⟩ | ⟨a, len, cap, elems, rest, n, _, h0, _, hb, hl, hm, hlen, hel, _, _⟩
  · simp only [List.cons.injEq, and_true] at h0
    exact ⟨none, 0, 0, [], h0, by simp, by simp, ⟨fun i hi => by simp at hi, .inl ⟨rfl, none, 0, by simp, fun _ => rfl⟩⟩⟩
  · simp only [List.cons.injEq, and_true] at h0
    refine ⟨some a, len, cap, ?_⟩
    have key : ∀ i, ∃ x, i < len → x < top ∧ w.cells? 0 (a.add (i * 16)) 16 = some (idA x).toList := fun i => by
      by_cases hi : i < len
      · have h1 := hel i hi
        rw [List.getElem?_eq_getElem (by omega), cells23] at h1
        cases hc : w.cells? 0 (a.add (i * 16)) 16 with
        | none => rw [hc] at h1; cases h1
        | some lst =>
          rw [hc] at h1
          obtain ⟨x, hx, hh⟩ := id_of_trod h1
          exact ⟨x, fun _ => ⟨hx, by rw [hh]⟩⟩
      · exact ⟨0, fun h => absurd h hi⟩
    obtain ⟨f, hfun⟩ := Classical.axiomOfChoice key
    refine ⟨(List.range (min len 200)).map f, h0, by omega, by simp; omega, ?_⟩
    have hget : ∀ i, i < min len 200 → ((List.range (min len 200)).map f).getD i 0 = f i := fun i hi => by
      rw [List.getD_eq_getElem?_getD, List.getElem?_map, List.getElem?_range hi]
      rfl
    have hlen' : ((List.range (min len 200)).map f).length = min len 200 := by simp
    refine ⟨fun i hi => ?_, ?_⟩
    · rw [hlen'] at hi
      rw [hget i hi]
      exact (hfun i (by omega)).1
    · by_cases hz : min len 200 = 0
      · left
        refine ⟨by rw [hz]; rfl, some a, cap, by rw [hz], fun h => by cases h⟩
      · right
        have hcell : ∀ i r, i < min len 200 → r < 16 → w.cell? ((a.add (i * 16)).add r) = some (.int .u8 (byt (f i) r : Int)) := fun i r hi hr => by
          rw [cells_row (hfun i (by omega)).2 r hr]
          have := idA_get (f i) r hr
          rw [Array.getElem?_toList]
          exact this
        have h00 := hcell 0 0 (by omega) (by omega)
        obtain ⟨b, off, spot⟩ := a
        have hsp : spot = none := by simpa [Addr.add] using World.cell?_spot h00
        subst hsp
        obtain ⟨cs, t, fr, hh⟩ := heap_of_cell h00
        have hbk : ((⟨b, off, none⟩ : Addr).add (0 * 16)).add 0 = ⟨b, off, none⟩ := by simp [Addr.add]
        rw [hbk] at hh
        have hcs : ∀ j, j < min len 200 * 16 → cs[off + j]? = some (.int .u8 (byt (f (j / 16)) (j % 16) : Int)) := fun j hj => by
          have h1 := hcell (j / 16) (j % 16) (by omega) (by omega)
          rw [add_plain, add_plain, cell_of_row w b _ cs t fr hh] at h1
          have e : off + j / 16 * 16 + j % 16 = off + j := by omega
          rw [e] at h1
          exact h1
        refine ⟨b, off, cap, cs, t, fr, by rw [hlen'], hh, ?_⟩
        apply part_of_get
        · rw [hlen']
          have h1 := hcs (min len 200 * 16 - 1) (by omega)
          have := (Array.getElem?_eq_some_iff.1 h1).1
          omega
        · intro j hj
          rw [hlen'] at hj
          rw [hcs j hj, hget (j / 16) (by omega)]
end

set_option maxRecDepth 100000 in
theorem identNears_lifted (os : Os) (started : os.Started) (H : Type) (enc : TypeId × Value → H) :
    ReturnsInHanded {} Try.checked os 4 .any (Rows.identNearsSpec.pre6 enc Try.prog Try.f4 Rows.identNearsRow.domain false) (Rows.identNearsSpec.post enc Try.prog Try.f4 false true false false) := by
  refine returnsInHanded_of_change (C := Try.checked) Try.own started (by kernel_rfl) Try.func4
    (ChangeSpec.witness6 (enc := enc) (C := Try.checked) false ⟨#[], #[idV 0, twoV 0 0, .slice none 0 0], []⟩ 8 (by kernel_rfl) (by kernel_rfl) (by kernel_rfl) (by kernel_rfl)) ?_
  intro W base args ds gs before hval0 hW hcnd _
  have hval : ∀ (j : Nat) t v, Try.f4.params[j]? = some t → args[j]? = some v → Value.okWide Try.prog W .any base t v := hval0
  have hW' := hW
  obtain ⟨p, q, hA0, hV, rfl, hfz, hnd⟩ := hW
  have hA : DataW.TrodAll enc Try.prog W 0 (fun _ => true) true Try.f4.params.toList args.toList ds p := hA0
  rw [Try.params4] at hA hval
  obtain ⟨v0, v1, v2, d0, d1, d2, p0, p1, p2, rfl, rfl, rfl, h0, h1, h2⟩ := trodAll_three hA
  obtain ⟨rfl, rfl⟩ := trodVars_none hV
  clear hA0 hval0
  simp only [List.append_nil] at hW'
  have hlt0 : ∀ x ∈ p0, x.block < W.heap.size := fun x hx => by simpa using hW'.lt x (by simp [hx])
  have hlt1 : ∀ x ∈ p1, x.block < W.heap.size := fun x hx => by simpa using hW'.lt x (by simp [hx])
  have hlt2 : ∀ x ∈ p2, x.block < W.heap.size := fun x hx => by simpa using hW'.lt x (by simp [hx])
  have fin : ∀ (e : Ending) (W' : World), (e = .returned (.bool true) ∧ Gro W W') → ∃ v, e = .returned v ∧ Rows.identNearsSpec.post enc Try.prog Try.f4 false true false false W #[v0, v1, v2] v W' := by
    rintro e W' ⟨rfl, hb⟩
    refine ⟨_, rfl, _, _, _, [], p0 ++ (p1 ++ p2), [], hW', ?_, ?_, rfl, hb.frame _, fun h => by cases h⟩
    · exact trodAll_mk1 (shut_bool Try.underlying4 true)
    · exact trodAll_mk3 (Below.trod Try.laidOut (by kernel_rfl) (of_decide_eq_true (by kernel_rfl)) h0 hb hlt0) (Below.trod Try.laidOut (by kernel_rfl) (of_decide_eq_true (by kernel_rfl)) h1 hb hlt1) (Below.trod Try.laidOut (by kernel_rfl) (of_decide_eq_true (by kernel_rfl)) h2 hb hlt2)
  obtain ⟨x, hx, rfl⟩ := open_id (hval 0 23 v0 rfl rfl) h0
  obtain ⟨a, b, ha, hb, rfl⟩ := open_two (hval 1 28 v1 rfl rfl) h1
  obtain ⟨a0, n0, c0, rfl⟩ := okWide_slice Try.underlying29 (hval 2 29 v2 rfl rfl)
  obtain ⟨av, n, cap, l, he, hc, hl, hS⟩ := open_ids h2 rfl
  injection he with e1 e2 e3
  subst e1 e2 e3
  exact (nears_any x a b hx ha hb a0 n0 c0 (min n0 200) rfl hc l hl W hS).mono fin

theorem identNears_holds : Rows.IdentNearsSaid :=
  OpenClaim.holds_of_wide 4 Try.f4 rfl rfl rfl rfl rfl rfl rfl ⟨rfl, rfl, rfl, rfl, rfl⟩ rfl rfl rfl rfl rfl (by kernel_rfl) Try.func4 (by kernel_rfl)
    (of_decide_eq_true (by kernel_rfl)) (by unfold Func.isWrapper; first | (rw [if_pos (by decide +kernel)]; kernel_rfl) | (rw [if_neg (by decide +kernel)]; exact ⟨rfl, rfl⟩))
    (fun os started H enc _ => identNears_lifted os started H enc)

#print axioms identNears_holds
end Go.Proofs.Ytaeiphdbdmaapaa
