/- Each body that was laid is read as it was; cut off, it ends too early. -/
import Derived.Test.YthmcnlmphikicabZJ1
import Derived.Test.YthmcnlmphikicabZR8
import Derived.Test.YthmcnlmphikicabZG6
namespace Go.Proofs.Ythmcnlmphikicab
open Go.RowKit
structure LayOK (k : Nat) (f : Fr) (d : FD) : Prop where
  n_pn : okN f.pn
  n_n : okN f.n
  n_fi : okN f.fi
  n_fn : okN f.fn
  n_ti : okN f.ti
  n_tn : okN f.tn
  n_vn : okN f.vn
  tr : d.tr.length ≤ 64
  tok : ∀ x ∈ d.tr, 0 ≤ x ∧ x ≤ 5
  ids : d.ids.length ≤ 16
  i16 : ∀ x ∈ d.ids, x.length = 16
  val : d.val.length ≤ 64
  own : match k with
    | 2 => d.tx.length ≤ 4096
    | 8 => 0 ≤ f.op ∧ f.op ≤ 3
    | 10 => 1 ≤ f.op ∧ f.op ≤ 4 ∧ 0 ≤ f.ttl ∧ f.ttl ≤ 64 ∧ d.tx.length ≤ 64
    | _ => True
structure EqF (f g : Fr) : Prop where
  pw : idL f.pw = idL g.pw
  pn : f.pn = g.pn
  toA : f.toA = g.toA
  a : idL f.a = idL g.a
  b : idL f.b = idL g.b
  n : f.n = g.n
  fi : f.fi = g.fi
  fn : f.fn = g.fn
  ti : f.ti = g.ti
  tn : f.tn = g.tn
  key : idL f.key = idL g.key
  vn : f.vn = g.vn
  vw : idL f.vw = idL g.vw
  op : f.op = g.op
  ttl : f.ttl = g.ttl
theorem nat_back {x : Int} (h : okN x) : x = ((x.toNat : Nat) : Int) := by unfold okN at h; omega
theorem id_back (p : Nat → Nat) : idL p = idL (idF (idL p)) := (idL_idF (idL_len p)).symm
set_option maxRecDepth 100000 in
theorem lay_b1 (f : Fr) (d : FD) (H : LayOK 1 f d) : ∃ g : Fr, Lay rdB1 (bodyL 1 f d) (1, g, bareD 1 d) ∧ EqF (bare 1 f) g := by
  have e : bodyL 1 f d = sessL f.fi f.fn ++ (sessL f.ti f.tn ++ (idL f.a ++ [])) := by simp [bodyL]
  refine ⟨⟨0, zF, 0, false, (idF (idL f.a)), zF, 0, ((f.fi.toNat : Nat) : Int), ((f.fn.toNat : Nat) : Int), ((f.ti.toNat : Nat) : Int), ((f.tn.toNat : Nat) : Int), Sl.nil, Sl.nil, zF, 0, zF, Sl.nil, 0, 0, Sl.nil⟩, ?_, ?_⟩
  · rw [e]
    refine Lay.bind (R := rdS) (lay_sess (H.n_fi) (H.n_fn)) ?_
    refine Lay.bind (R := rdS) (lay_sess (H.n_ti) (H.n_tn)) ?_
    refine Lay.bind (R := rdI) (lay_id (idL_len f.a)) ?_
    exact Lay.pure _
  · exact ⟨rfl, rfl, rfl, id_back f.a, rfl, rfl, nat_back H.n_fi, nat_back H.n_fn, nat_back H.n_ti, nat_back H.n_tn, rfl, rfl, rfl, rfl, rfl⟩
set_option maxRecDepth 100000 in
theorem lay_b2 (f : Fr) (d : FD) (H : LayOK 2 f d) : ∃ g : Fr, Lay rdB2 (bodyL 2 f d) (2, g, bareD 2 d) ∧ EqF (bare 2 f) g := by
  have hown : d.tx.length ≤ 4096 := H.own
  have e : bodyL 2 f d = sessL f.fi f.fn ++ (sessL f.ti f.tn ++ (nI f.n ++ (textL d.tx ++ []))) := by simp [bodyL, putT, nI]
  refine ⟨⟨0, zF, 0, false, zF, zF, ((f.n.toNat : Nat) : Int), ((f.fi.toNat : Nat) : Int), ((f.fn.toNat : Nat) : Int), ((f.ti.toNat : Nat) : Int), ((f.tn.toNat : Nat) : Int), Sl.nil, Sl.nil, zF, 0, zF, Sl.nil, 0, 0, Sl.nil⟩, ?_, ?_⟩
  · rw [e]
    refine Lay.bind (R := rdS) (lay_sess (H.n_fi) (H.n_fn)) ?_
    refine Lay.bind (R := rdS) (lay_sess (H.n_ti) (H.n_tn)) ?_
    refine Lay.bind (R := rdN) (lay_nI (H.n_n)) ?_
    refine Lay.bind (R := (fun l i => rdT l i 4096)) (lay_text (by omega) (by omega)) ?_
    exact Lay.pure _
  · exact ⟨rfl, rfl, rfl, rfl, rfl, nat_back H.n_n, nat_back H.n_fi, nat_back H.n_fn, nat_back H.n_ti, nat_back H.n_tn, rfl, rfl, rfl, rfl, rfl⟩
set_option maxRecDepth 100000 in
theorem lay_b3 (f : Fr) (d : FD) (H : LayOK 3 f d) : ∃ g : Fr, Lay rdB3 (bodyL 3 f d) (3, g, bareD 3 d) ∧ EqF (bare 3 f) g := by
  have e : bodyL 3 f d = sessL f.fi f.fn ++ (sessL f.ti f.tn ++ (nI f.n ++ [])) := by simp [bodyL]
  refine ⟨⟨0, zF, 0, false, zF, zF, ((f.n.toNat : Nat) : Int), ((f.fi.toNat : Nat) : Int), ((f.fn.toNat : Nat) : Int), ((f.ti.toNat : Nat) : Int), ((f.tn.toNat : Nat) : Int), Sl.nil, Sl.nil, zF, 0, zF, Sl.nil, 0, 0, Sl.nil⟩, ?_, ?_⟩
  · rw [e]
    refine Lay.bind (R := rdS) (lay_sess (H.n_fi) (H.n_fn)) ?_
    refine Lay.bind (R := rdS) (lay_sess (H.n_ti) (H.n_tn)) ?_
    refine Lay.bind (R := rdN) (lay_nI (H.n_n)) ?_
    exact Lay.pure _
  · exact ⟨rfl, rfl, rfl, rfl, rfl, nat_back H.n_n, nat_back H.n_fi, nat_back H.n_fn, nat_back H.n_ti, nat_back H.n_tn, rfl, rfl, rfl, rfl, rfl⟩
set_option maxRecDepth 100000 in
theorem lay_b4 (f : Fr) (d : FD) (H : LayOK 4 f d) : ∃ g : Fr, Lay rdB4 (bodyL 4 f d) (4, g, bareD 4 d) ∧ EqF (bare 4 f) g := by
  have e : bodyL 4 f d = pathL f.pw f.pn ++ (idL f.a ++ (idL f.b ++ (trailL d.tr ++ []))) := by simp [bodyL]
  refine ⟨⟨0, (idF (idL f.pw)), ((f.pn.toNat : Nat) : Int), false, (idF (idL f.a)), (idF (idL f.b)), 0, 0, 0, 0, 0, Sl.nil, Sl.nil, zF, 0, zF, Sl.nil, 0, 0, Sl.nil⟩, ?_, ?_⟩
  · rw [e]
    refine Lay.bind (R := rdPa) (lay_path H.n_pn) ?_
    refine Lay.bind (R := rdI) (lay_id (idL_len f.a)) ?_
    refine Lay.bind (R := rdI) (lay_id (idL_len f.b)) ?_
    refine Lay.bind (R := rdTr) (lay_trail H.tr H.tok) ?_
    exact Lay.pure _
  · exact ⟨id_back f.pw, nat_back H.n_pn, rfl, id_back f.a, id_back f.b, rfl, rfl, rfl, rfl, rfl, rfl, rfl, rfl, rfl, rfl⟩
set_option maxRecDepth 100000 in
theorem lay_b5 (f : Fr) (d : FD) (H : LayOK 5 f d) : ∃ g : Fr, Lay rdB5 (bodyL 5 f d) (5, g, bareD 5 d) ∧ EqF (bare 5 f) g := by
  have e : bodyL 5 f d = pathL f.pw f.pn ++ [] := by simp [bodyL]
  refine ⟨⟨0, (idF (idL f.pw)), ((f.pn.toNat : Nat) : Int), false, zF, zF, 0, 0, 0, 0, 0, Sl.nil, Sl.nil, zF, 0, zF, Sl.nil, 0, 0, Sl.nil⟩, ?_, ?_⟩
  · rw [e]
    refine Lay.bind (R := rdPa) (lay_path H.n_pn) ?_
    exact Lay.pure _
  · exact ⟨id_back f.pw, nat_back H.n_pn, rfl, rfl, rfl, rfl, rfl, rfl, rfl, rfl, rfl, rfl, rfl, rfl, rfl⟩
set_option maxRecDepth 100000 in
theorem lay_b6 (f : Fr) (d : FD) (H : LayOK 6 f d) : ∃ g : Fr, Lay rdB6 (bodyL 6 f d) (6, g, bareD 6 d) ∧ EqF (bare 6 f) g := by
  have e : bodyL 6 f d = pathL f.pw f.pn ++ (flagL f.toA ++ []) := by simp [bodyL]
  refine ⟨⟨0, (idF (idL f.pw)), ((f.pn.toNat : Nat) : Int), f.toA, zF, zF, 0, 0, 0, 0, 0, Sl.nil, Sl.nil, zF, 0, zF, Sl.nil, 0, 0, Sl.nil⟩, ?_, ?_⟩
  · rw [e]
    refine Lay.bind (R := rdPa) (lay_path H.n_pn) ?_
    refine Lay.bind (R := rdF) (lay_flag f.toA) ?_
    exact Lay.pure _
  · exact ⟨id_back f.pw, nat_back H.n_pn, rfl, rfl, rfl, rfl, rfl, rfl, rfl, rfl, rfl, rfl, rfl, rfl, rfl⟩
set_option maxRecDepth 100000 in
theorem lay_b7 (f : Fr) (d : FD) (H : LayOK 7 f d) : ∃ g : Fr, Lay rdB7 (bodyL 7 f d) (7, g, bareD 7 d) ∧ EqF (bare 7 f) g := by
  have e : bodyL 7 f d = pathL f.pw f.pn ++ (flagL f.toA ++ (idsL d.ids ++ [])) := by simp [bodyL]
  refine ⟨⟨0, (idF (idL f.pw)), ((f.pn.toNat : Nat) : Int), f.toA, zF, zF, 0, 0, 0, 0, 0, Sl.nil, Sl.nil, zF, 0, zF, Sl.nil, 0, 0, Sl.nil⟩, ?_, ?_⟩
  · rw [e]
    refine Lay.bind (R := rdPa) (lay_path H.n_pn) ?_
    refine Lay.bind (R := rdF) (lay_flag f.toA) ?_
    refine Lay.bind (R := rdIs) (lay_ids H.ids H.i16) ?_
    exact Lay.pure _
  · exact ⟨id_back f.pw, nat_back H.n_pn, rfl, rfl, rfl, rfl, rfl, rfl, rfl, rfl, rfl, rfl, rfl, rfl, rfl⟩
set_option maxRecDepth 100000 in
theorem lay_b8 (f : Fr) (d : FD) (H : LayOK 8 f d) : ∃ g : Fr, Lay rdB8 (bodyL 8 f d) (8, g, bareD 8 d) ∧ EqF (bare 8 f) g := by
  have hown : 0 ≤ f.op ∧ f.op ≤ 3 := H.own
  have e : bodyL 8 f d = idL f.a ++ (idL f.b ++ (nI f.op ++ (pathL f.pw f.pn ++ (flagL f.toA ++ (trailL d.tr ++ []))))) := by simp [bodyL]
  refine ⟨⟨0, (idF (idL f.pw)), ((f.pn.toNat : Nat) : Int), f.toA, (idF (idL f.a)), (idF (idL f.b)), 0, 0, 0, 0, 0, Sl.nil, Sl.nil, zF, 0, zF, Sl.nil, ((f.op.toNat : Nat) : Int), 0, Sl.nil⟩, ?_, ?_⟩
  · rw [e]
    refine Lay.bind (R := rdI) (lay_id (idL_len f.a)) ?_
    refine Lay.bind (R := rdI) (lay_id (idL_len f.b)) ?_
    refine Lay.bind (R := (fun l i => rdW l i 0 3)) (lay_with (x := f.op.toNat) (lo := 0) (hi := 3) (by omega) (by omega) (by omega)) ?_
    refine Lay.bind (R := rdPa) (lay_path H.n_pn) ?_
    refine Lay.bind (R := rdF) (lay_flag f.toA) ?_
    refine Lay.bind (R := rdTr) (lay_trail H.tr H.tok) ?_
    exact Lay.pure _
  · exact ⟨id_back f.pw, nat_back H.n_pn, rfl, id_back f.a, id_back f.b, rfl, rfl, rfl, rfl, rfl, rfl, rfl, rfl, (by show f.op = ((f.op.toNat : Nat) : Int); omega), rfl⟩
set_option maxRecDepth 100000 in
theorem lay_b9 (f : Fr) (d : FD) (H : LayOK 9 f d) : ∃ g : Fr, Lay rdB9 (bodyL 9 f d) (9, g, bareD 9 d) ∧ EqF (bare 9 f) g := by
  have e : bodyL 9 f d = idL f.a ++ (nI f.n ++ []) := by simp [bodyL]
  refine ⟨⟨0, zF, 0, false, (idF (idL f.a)), zF, ((f.n.toNat : Nat) : Int), 0, 0, 0, 0, Sl.nil, Sl.nil, zF, 0, zF, Sl.nil, 0, 0, Sl.nil⟩, ?_, ?_⟩
  · rw [e]
    refine Lay.bind (R := rdI) (lay_id (idL_len f.a)) ?_
    refine Lay.bind (R := rdN) (lay_nI (H.n_n)) ?_
    exact Lay.pure _
  · exact ⟨rfl, rfl, rfl, id_back f.a, rfl, nat_back H.n_n, rfl, rfl, rfl, rfl, rfl, rfl, rfl, rfl, rfl⟩
set_option maxRecDepth 100000 in
theorem lay_b10 (f : Fr) (d : FD) (H : LayOK 10 f d) : ∃ g : Fr, Lay rdB10 (bodyL 10 f d) (10, g, bareD 10 d) ∧ EqF (bare 10 f) g := by
  have hown : 1 ≤ f.op ∧ f.op ≤ 4 ∧ 0 ≤ f.ttl ∧ f.ttl ≤ 64 ∧ d.tx.length ≤ 64 := H.own
  have e : bodyL 10 f d = idL f.a ++ (idL f.b ++ (nI f.n ++ (nI f.op ++ (nI f.ttl ++ (itemL f.key f.vn f.vw d.val ++ (textL d.tx ++ [])))))) := by simp [bodyL, putT, nI]
  refine ⟨⟨0, zF, 0, false, (idF (idL f.a)), (idF (idL f.b)), ((f.n.toNat : Nat) : Int), 0, 0, 0, 0, Sl.nil, Sl.nil, (idF (idL f.key)), ((f.vn.toNat : Nat) : Int), (idF (idL f.vw)), Sl.nil, ((f.op.toNat : Nat) : Int), ((f.ttl.toNat : Nat) : Int), Sl.nil⟩, ?_, ?_⟩
  · rw [e]
    refine Lay.bind (R := rdI) (lay_id (idL_len f.a)) ?_
    refine Lay.bind (R := rdI) (lay_id (idL_len f.b)) ?_
    refine Lay.bind (R := rdN) (lay_nI (H.n_n)) ?_
    refine Lay.bind (R := (fun l i => rdW l i 1 4)) (lay_with (x := f.op.toNat) (lo := 1) (hi := 4) (by omega) (by omega) (by omega)) ?_
    refine Lay.bind (R := (fun l i => rdW l i 0 64)) (lay_with (x := f.ttl.toNat) (lo := 0) (hi := 64) (by omega) (by omega) (by omega)) ?_
    refine Lay.bind (R := rdIt) (lay_item H.n_vn H.val) ?_
    refine Lay.bind (R := (fun l i => rdT l i 64)) (lay_text (by omega) (by omega)) ?_
    exact Lay.pure _
  · exact ⟨rfl, rfl, rfl, id_back f.a, id_back f.b, nat_back H.n_n, rfl, rfl, rfl, rfl, id_back f.key, nat_back H.n_vn, id_back f.vw, (by show f.op = ((f.op.toNat : Nat) : Int); omega), (by show f.ttl = ((f.ttl.toNat : Nat) : Int); omega)⟩
set_option maxRecDepth 100000 in
theorem lay_b11 (f : Fr) (d : FD) (H : LayOK 11 f d) : ∃ g : Fr, Lay rdB11 (bodyL 11 f d) (11, g, bareD 11 d) ∧ EqF (bare 11 f) g := by
  have e : bodyL 11 f d = pathL f.pw f.pn ++ (flagL f.toA ++ (itemL f.key f.vn f.vw d.val ++ [])) := by simp [bodyL]
  refine ⟨⟨0, (idF (idL f.pw)), ((f.pn.toNat : Nat) : Int), f.toA, zF, zF, 0, 0, 0, 0, 0, Sl.nil, Sl.nil, (idF (idL f.key)), ((f.vn.toNat : Nat) : Int), (idF (idL f.vw)), Sl.nil, 0, 0, Sl.nil⟩, ?_, ?_⟩
  · rw [e]
    refine Lay.bind (R := rdPa) (lay_path H.n_pn) ?_
    refine Lay.bind (R := rdF) (lay_flag f.toA) ?_
    refine Lay.bind (R := rdIt) (lay_item H.n_vn H.val) ?_
    exact Lay.pure _
  · exact ⟨id_back f.pw, nat_back H.n_pn, rfl, rfl, rfl, rfl, rfl, rfl, rfl, rfl, id_back f.key, nat_back H.n_vn, id_back f.vw, rfl, rfl⟩
set_option maxRecDepth 100000 in
theorem lay_b12 (f : Fr) (d : FD) (H : LayOK 12 f d) : ∃ g : Fr, Lay rdB12 (bodyL 12 f d) (12, g, bareD 12 d) ∧ EqF (bare 12 f) g := by
  have e : bodyL 12 f d = pathL f.pw f.pn ++ (flagL f.toA ++ (idL f.key ++ (verL f.vn f.vw ++ []))) := by simp [bodyL]
  refine ⟨⟨0, (idF (idL f.pw)), ((f.pn.toNat : Nat) : Int), f.toA, zF, zF, 0, 0, 0, 0, 0, Sl.nil, Sl.nil, (idF (idL f.key)), ((f.vn.toNat : Nat) : Int), (idF (idL f.vw)), Sl.nil, 0, 0, Sl.nil⟩, ?_, ?_⟩
  · rw [e]
    refine Lay.bind (R := rdPa) (lay_path H.n_pn) ?_
    refine Lay.bind (R := rdF) (lay_flag f.toA) ?_
    refine Lay.bind (R := rdI) (lay_id (idL_len f.key)) ?_
    refine Lay.bind (R := rdVe) (lay_ver H.n_vn) ?_
    exact Lay.pure _
  · exact ⟨id_back f.pw, nat_back H.n_pn, rfl, rfl, rfl, rfl, rfl, rfl, rfl, rfl, id_back f.key, nat_back H.n_vn, id_back f.vw, rfl, rfl⟩
theorem lay_frame (k : Nat) (h1 : 1 ≤ k) (h2 : k ≤ 12) (f : Fr) (d : FD) (H : LayOK k f d) : ∃ g : Fr, Lay rdB (frameL k f d) (k, g, bareD k d) ∧ EqF (bare k f) g := by
  have e : frameL k f d = numL k ++ bodyL k f d := by simp [frameL]
  rw [e]
  rcases is12 h1 h2 with rfl | rfl | rfl | rfl | rfl | rfl | rfl | rfl | rfl | rfl | rfl | rfl
  · obtain ⟨g, hL, hE⟩ := lay_b1 f d H
    exact ⟨g, Lay.bind (R := rdN) (lay_num (by omega)) hL, hE⟩
  · obtain ⟨g, hL, hE⟩ := lay_b2 f d H
    exact ⟨g, Lay.bind (R := rdN) (lay_num (by omega)) hL, hE⟩
  · obtain ⟨g, hL, hE⟩ := lay_b3 f d H
    exact ⟨g, Lay.bind (R := rdN) (lay_num (by omega)) hL, hE⟩
  · obtain ⟨g, hL, hE⟩ := lay_b4 f d H
    exact ⟨g, Lay.bind (R := rdN) (lay_num (by omega)) hL, hE⟩
  · obtain ⟨g, hL, hE⟩ := lay_b5 f d H
    exact ⟨g, Lay.bind (R := rdN) (lay_num (by omega)) hL, hE⟩
  · obtain ⟨g, hL, hE⟩ := lay_b6 f d H
    exact ⟨g, Lay.bind (R := rdN) (lay_num (by omega)) hL, hE⟩
  · obtain ⟨g, hL, hE⟩ := lay_b7 f d H
    exact ⟨g, Lay.bind (R := rdN) (lay_num (by omega)) hL, hE⟩
  · obtain ⟨g, hL, hE⟩ := lay_b8 f d H
    exact ⟨g, Lay.bind (R := rdN) (lay_num (by omega)) hL, hE⟩
  · obtain ⟨g, hL, hE⟩ := lay_b9 f d H
    exact ⟨g, Lay.bind (R := rdN) (lay_num (by omega)) hL, hE⟩
  · obtain ⟨g, hL, hE⟩ := lay_b10 f d H
    exact ⟨g, Lay.bind (R := rdN) (lay_num (by omega)) hL, hE⟩
  · obtain ⟨g, hL, hE⟩ := lay_b11 f d H
    exact ⟨g, Lay.bind (R := rdN) (lay_num (by omega)) hL, hE⟩
  · obtain ⟨g, hL, hE⟩ := lay_b12 f d H
    exact ⟨g, Lay.bind (R := rdN) (lay_num (by omega)) hL, hE⟩
theorem dec_frame (k : Nat) (h1 : 1 ≤ k) (h2 : k ≤ 12) (f : Fr) (d : FD) (H : LayOK k f d) : (∃ g : Fr, decE (frameL k f d) = .ok (k, g, bareD k d) ∧ EqF (bare k f) g) ∧ ∀ c, c < (frameL k f d).length → decE ((frameL k f d).take c) = .error 3 := by
  obtain ⟨g, hL, hE⟩ := lay_frame k h1 h2 f d H
  refine ⟨⟨g, ?_, hE⟩, fun c hc => ?_⟩
  · have h := hL.ok [] []
    rw [List.append_nil, List.nil_append] at h
    unfold decE
    rw [show rdB (frameL k f d) 0 = _ from h]
    show (bif decide (_ < _) then _ else _) = _
    rw [decide_eq_false (by simp)]
    rfl
  · have h := hL.cut [] c hc
    rw [List.nil_append] at h
    unfold decE
    rw [show rdB ((frameL k f d).take c) 0 = _ from h]
end Go.Proofs.Ythmcnlmphikicab
