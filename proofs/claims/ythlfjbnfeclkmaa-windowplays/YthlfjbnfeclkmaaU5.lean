/- Every script of calls is answered as the document says (WindowPlays). -/
import Derived.Test.YthlfjbnfeclkmaaU4
namespace Go.Proofs.Ythlfjbnfeclkmaa
open Go.RowKit

structure OpQ where
  k : Int
  i : Int
  ao : Option Addr
  cap : Nat
  l : List Nat
def opQ (o : OpQ) : List Value := [.int .i64 o.k, .int .i64 o.i, .slice o.ao o.l.length o.cap]
theorem flatQ : ∀ (os : List OpQ) (j : Nat) (o : OpQ), os[j]? = some o → ((os.flatMap opQ).drop (j * 3)).take 3 = opQ o
  | x :: os, 0, o, h => by
    simp at h
    subst h
    simp [opQ]
  | x :: os, j + 1, o, h => by
    simp only [List.getElem?_cons_succ] at h
    have := flatQ os j o h
    rw [List.flatMap_cons, Nat.add_mul, Nat.one_mul, Nat.add_comm, ← List.drop_drop]
    exact this
  | [], _, _, h => by simp at h
structure OQ (w : World) (ao : Option Addr) (cap : Nat) (os : List OpQ) : Prop where
  xc : XC w 3 ao cap os.length (os.flatMap opQ)
  row : ∀ o ∈ os, NC w .u8 o.ao o.cap o.l
theorem wQ : RowT Try.prog 22 32 3 40 (.agg (c32 0 0 Sl.nil)) := ⟨Try.underlying22, info_of (by kernel_rfl), rfl, by decide⟩
theorem ld_opQ {w : World} {o : Oper} {A : Act} (x : Operand) (ho : o.op = .load 32 x) (ad : Addr) (j : Nat) (hx : A.eval x = .pointer (some (ad.add (j * 3)))) {cap : Nat} {os : List OpQ} (h : XC w 3 (some ad) cap os.length (os.flatMap opQ)) (q : OpQ) (hq : os[j]? = some q) :
    (execOp A.eval o).run Try.prog w = .ok (.value (.agg (c32 q.k q.i ⟨q.ao, q.l.length, q.cap⟩))) w := by
  have hj : j < os.length := (List.getElem?_eq_some_iff.1 hq).1
  rw [run_ldX wQ _ Try.underlying32 rfl x ho ad j hx w h hj, flatQ os j q hq]
  rfl

section
variable {t t2 : TypeId} {cs cs2 : Array Value} {w w' : World} {p B r B2 : Nat} {ao so : Option Addr} {cap sc : Nat} {q u : List RV}
theorem WX.stT (H : WX t cs w p B ao cap q) {g : Nat} {t' : TypeId} (ht : t ≠ t') (h30 : t' ≠ 30) (h5 : t' ≠ 5) {c : Array Value} {x : Obj} (hg : w.heap[g]? = some (.cells c t' (0, 0))) (St : Stored w w' g x) : WX t cs w' p B ao cap q :=
  H.gros (S := [g]) ((GroS.refl [g] w).st St (.inr (by simp))) (fun h => by cases List.mem_singleton.1 h; exact ne_type H.box hg ht rfl) (fun k hk h => by cases List.mem_singleton.1 h; exact H.row.ne hg h30 hk)
    (H.f5 fun k hk => by cases List.mem_singleton.1 hk; exact ⟨_, _, hg, h5⟩)
/-- A store into bytes that are no text's. -/
theorem WX.st5 (H : WX t cs w p B ao cap q) {g : Nat} {c : Array Value} {x : Obj} (hg : w.heap[g]? = some (.cells c 5 (0, 0))) (St : Stored w w' g x) (hf : ∀ x ∈ q, ∀ ad, x.ao = some ad → ad.block ≠ g) : WX t cs w' p B ao cap q :=
  H.five (S := [g]) ((GroS.refl [g] w).st St (.inr (by simp))) (fun k hk => by cases List.mem_singleton.1 hk; exact ⟨_, hg⟩) (fun x hx ad ha hm => hf x hx ad ha (List.mem_singleton.1 hm))
theorem WX.notT (H : WX t cs w p B ao cap q) {g : Nat} {t' : TypeId} {c : Array Value} (hg : w.heap[g]? = some (.cells c t' (0, 0))) (ht : t' ≠ t) (h30 : t' ≠ 30) : g ∉ p :: blk ao := fun h => by
  rcases List.mem_cons.1 h with rfl | h
  · exact ne_type hg H.box ht rfl
  · exact H.row.ne hg h30 h
theorem WX.other (HR : WX t2 cs2 w r B2 so sc u) (H : WX t cs w p B ao cap q) (ht : t2 ≠ t) (G : GroS (p :: blk ao) w w') (hd : ∀ k ∈ blk ao, k ∉ blk so) : WX t2 cs2 w' r B2 so sc u :=
  HR.gros G (H.notT HR.box ht HR.ty.1) (fun k hk hm => by
    rcases List.mem_cons.1 hm with rfl | hm
    · exact HR.row.ne H.box H.ty.1 hk
    · exact hd k hm hk) (HR.f5 H.own)
theorem WX.other1 (HR : WX t2 cs2 w r B2 so sc u) (H : WX t cs w p B ao cap q) (ht : t2 ≠ t) (G : GroS [p] w w') : WX t2 cs2 w' r B2 so sc u :=
  HR.gros G (fun h => by cases List.mem_singleton.1 h; exact ne_type HR.box H.box ht rfl) (fun k hk hm => by
    cases List.mem_singleton.1 hm
    exact HR.row.ne H.box H.ty.1 hk) (HR.f5 fun k hk => by cases List.mem_singleton.1 hk; exact ⟨_, _, H.box, H.ty.2⟩)
theorem WX.ob (H : WX t cs w p B ao cap q) {B2 : Nat} {a : Option Addr} {c : Nat} {l : List Nat} (h : OB w 5 .u8 B2 a c l) : ∀ ad, a = some ad → ad.block ∉ p :: blk ao := fun ad ha => by
  obtain ⟨cur, hc⟩ := h.blk5 ha
  exact H.notT hc (Ne.symm H.ty.2) (by decide)
/-- Texts that are there lie ahead of what is made. -/
theorem WX.old (H : WX t cs w p B ao cap q) {M : Nat} (hM : w.heap.size ≤ M) : ∀ x ∈ q, ∀ ad, x.ao = some ad → ad.block < M := fun x hx ad ha => by
  have := (H.fe x hx ad ha).2
  omega
end
theorem dis_sym {a b : Option Addr} (h : ∀ k ∈ blk a, k ∉ blk b) : ∀ k ∈ blk b, k ∉ blk a := fun k h1 h2 => h k h2 h1
theorem dis_put {w : World} {e : TypeId} {sz B : Nat} {ao ro ro2 : Option Addr} {cap n : Nat} {cs : List Value} {M : Nat} (h : OY w e sz B ao cap n cs) (hd : ∀ k ∈ blk ro, k ∉ blk ao) (hk : Kept M ro ro2) (hM : w.heap.size ≤ M) : ∀ k ∈ blk ro2, k ∉ blk ao := fun k h1 h2 => by
  rcases hk k h1 with h3 | h3
  · exact hd k h3 h2
  · have := h.lt k h2
    omega
theorem dis_app {w : World} {e : TypeId} {sz B : Nat} {ao ao2 ro : Option Addr} {cap n : Nat} {cs : List Value} {M : Nat} (h : OY w e sz B ro cap n cs) (hd : ∀ k ∈ blk ro, k ∉ blk ao) (hk : Kept M ao ao2) (hM : w.heap.size ≤ M) : ∀ k ∈ blk ro, k ∉ blk ao2 := fun k h1 h2 => by
  rcases hk k h2 with h3 | h3
  · exact hd k h1 h3
  · have := h.lt k h1
    omega
/-- What an acknowledgement in a region leaves behind it. -/
def akE (M p B : Nat) (ro : Option Addr) (q : List RV) (k c m : Nat) : PostE := PostE.ex (fun v x => v = .int .i64 ((m : Nat) : Int) ∧ ∃ (ao2 : Option Addr) (cap2 : Nat), WX 57 (c57 ((k + m + (q.drop m).length : Nat) : Int) ⟨ao2, (q.drop m).length, cap2⟩ ((c : Nat) : Int)) x p B ao2 cap2 (q.drop m) ∧ Kept M ro ao2) (fun _ _ _ G ⟨h0, a, c, h1, h2⟩ => ⟨h0, a, c, h1.gro G, h2⟩)
theorem fill_ak (M p B : Nat) (ro : Option Addr) (q : List RV) (k c m : Nat) (v : Value) : (akE M p B ro q k c m).fill v = v := rfl
/-- What a coming in a region leaves behind it. -/
def cmE (p B : Nat) (ro : Option Addr) (rc : Nat) (q : List RV) (k c : Nat) : PostE := PostE.ex (fun v x => v = .bool true ∧ WX 57 (c57 ((k + q.length : Nat) : Int) ⟨ro, q.length, rc⟩ ((c + 1 : Nat) : Int)) x p B ro rc q) (fun _ _ _ G ⟨h0, h1⟩ => ⟨h0, h1.gro G⟩)
theorem fill_cm (p B : Nat) (ro : Option Addr) (rc : Nat) (q : List RV) (k c : Nat) (v : Value) : (cmE p B ro rc q k c).fill v = v := rfl
theorem map_send {q u : List RV} {k : Nat} (h : q.map (·.l) = (u.drop k).map (·.l)) (hk : k ≤ u.length) {x y : RV} (hl : x.l = y.l) : (q ++ [x]).map (·.l) = ((u ++ [y]).drop k).map (·.l) := by
  rw [List.drop_append_of_le_length hk, List.map_append, List.map_append, h]
  simp [hl]
theorem map_ack {q u : List RV} {k : Nat} (h : q.map (·.l) = (u.drop k).map (·.l)) (m : Nat) : (q.drop m).map (·.l) = (u.drop (k + m)).map (·.l) := by
  rw [List.map_drop, h, ← List.map_drop, List.drop_drop]
/-- Rows that Waits told, whatever they say now. -/
structure AV (w : World) (M g : Nat) (r : List (Nat × List Nat)) : Prop where
  base : M ≤ g
  row : w.heap[g]? = some (.cells (r.map rv).toArray 30 (0, 0))
  fr : ∀ x ∈ r, M ≤ x.1 ∧ ∃ l : List Nat, l.length = x.2.length ∧ w.heap[x.1]? = some (.cells (bv l) 5 (0, 0)) ∧ ∀ y ∈ l, y < 256
theorem AL.av {w : World} {M g : Nat} {r : List (Nat × List Nat)} (h : AL w M g r) : AV w M g r := ⟨h.base, h.row, fun x hx => ⟨(h.fr x hx).1, x.2, rfl, (h.fr x hx).2⟩⟩
theorem AV.gro {w w' : World} {M g : Nat} {r : List (Nat × List Nat)} (h : AV w M g r) (G : Gro w w') : AV w' M g r := ⟨h.base, G.has h.row, fun x hx => by
  obtain ⟨h0, l, h1, h2, h3⟩ := h.fr x hx
  exact ⟨h0, l, h1, G.has h2, h3⟩⟩
theorem AV.st {w w' : World} {M g : Nat} {r : List (Nat × List Nat)} (h : AV w M g r) {k : Nat} {l l2 : List Nat} (hk : w.heap[k]? = some (.cells (bv l) 5 (0, 0))) (St : Stored w w' k (.cells (bv l2) 5 (0, 0))) (hl : l2.length = l.length) (hb : ∀ y ∈ l2, y < 256) : AV w' M g r :=
  ⟨h.base, St.has (ne_type h.row hk (by decide)) h.row, fun x hx => by
    obtain ⟨h0, l', h1, h2, h3⟩ := h.fr x hx
    refine ⟨h0, ?_⟩
    by_cases e : x.1 = k
    · refine ⟨l2, ?_, by rw [e]; exact St.new, hb⟩
      rw [e, hk] at h2
      injection h2 with h2
      injection h2 with h2
      have := congrArg Array.size h2
      rw [bv_size, bv_size] at this
      omega
    · exact ⟨l', h1, St.has e h2, h3⟩⟩
theorem AV.at {w : World} {M g : Nat} {r : List (Nat × List Nat)} (h : AV w M g r) {j : Nat} {x : Nat × List Nat} (hx : r[j]? = some x) : w.cell? ⟨g, j, none⟩ = some (rv x) := by
  rw [cell_of_row w g j _ 30 _ h.row]
  simp [hx]
theorem Gro.gro {a b c : World} (h : Gro a b) (k : Gro b c) : Gro a c := h.trans k
set_option maxRecDepth 100000 in
set_option maxHeartbeats 4000000 in
theorem windowPlays_any (w : World) (ao : Option Addr) (cap : Nat) (os : List OpQ) (HO : OQ w ao cap os) (hol : os.length ≤ 140737488355000) (hlens : ∀ o ∈ os, o.l.length ≤ 140737488355000) : Calls Try.prog 3 #[.slice ao os.length cap] w fun e w' => e = .returned (.bool true) ∧ Gro w w' := by
  refine s_enter Try.func3 rfl Try.ntmps3 [.slice ao os.length cap] [.slice ao os.length cap, undef, undef, undef, undef, undef, undef, undef, undef, undef, undef, undef, undef, undef, undef, undef, undef, undef, undef, undef, undef, undef, undef, undef, undef, undef, undef, undef, undef, undef, undef, undef, undef, undef, undef, undef, undef, undef, undef, undef, undef, undef, undef, undef, undef, undef, undef, undef, undef, undef, undef, undef, undef, undef, undef, undef, undef, undef, undef, undef, undef, undef, undef, undef, undef, undef, undef, undef, undef, undef, undef, undef, undef, undef, undef, undef, undef, undef, undef, undef, undef, undef, undef, undef, undef, undef, undef, undef, undef, undef, undef, undef, undef, undef, undef, undef, undef, undef, undef, undef, undef, undef, undef, undef, undef, undef, undef, undef, undef, undef, undef, undef, undef, undef, undef, undef, undef, undef, undef, undef, undef, undef, undef, undef, undef, undef, undef, undef, undef, undef, undef, undef, undef, undef, undef, undef, undef, undef, undef, undef, undef, undef, undef, undef, undef, undef, undef, undef, undef, undef] rfl ?_
  have GG := Gro.refl w
  refine wp_seq ?_
  refine wp_region_lit ?_
  refine s_val 2 rfl rfl (.bool false) (rfl) ?_
  refine nr ?_; intro U h; simp only [z0, z1] at h; subst h
  refine wpList_nil ?_
  refine then_n ?_
  refine wp_seq ?_
  refine wp_region_lit ?_
  refine s_callx 18 rfl rfl _ 7 Try.call7 rfl rfl _ rfl [] rfl (new_any _) (fun _ _ ⟨_, he, _⟩ => ⟨_, he⟩) ?_
  rintro v w1 ⟨p, he, G, bp, HP0⟩
  cases he
  replace bp := Nat.le_trans GG.size bp
  replace GG := GG.trans G
  clear G
  have HP : WX 57 (c57 ((0 + ([] : List RV).length : Nat) : Int) ⟨none, ([] : List RV).length, 0⟩ ((0 : Nat) : Int)) _ p w.heap.size none 0 [] := WX.new HP0.box bp (by decide)
  clear HP0
  refine nr ?_; intro U h; simp only [z0, z1] at h; subst h
  refine s_val 3 rfl rfl (.pointer (some ⟨p, 0, none⟩)) (rfl) ?_
  refine nr ?_; intro U h; simp only [z0, z1] at h; subst h
  refine wpList_nil ?_
  refine then_n ?_
  refine wp_seq ?_
  refine wp_region_lit ?_
  refine s_val 19 rfl rfl (.agg (c28 Sl.nil 0 0)) (run_bd 28 _ rfl [] rfl _ (by kernel_rfl)) ?_
  refine nr ?_; intro U h; simp only [z0, z1] at h; subst h
  refine s_box 20 rfl rfl 28 _ rfl _ rfl (c28 Sl.nil 0 0) rfl ?_
  intro w2 r G er kr
  have br := size_base GG er
  clear er
  replace HP := HP.gro G
  replace GG := GG.trans G
  clear G
  have HR : WX 28 (c28 ⟨none, ([] : List RV).length, 0⟩ ((0 : Nat) : Int) ((0 : Nat) : Int)) _ r w.heap.size none 0 [] := WX.new kr br (by decide)
  clear kr
  refine nr ?_; intro U h; simp only [z0, z1] at h; subst h
  refine s_val 4 rfl rfl (.pointer (some ⟨r, 0, none⟩)) (rfl) ?_
  refine nr ?_; intro U h; simp only [z0, z1] at h; subst h
  refine wpList_nil ?_
  refine then_n ?_
  refine wp_seq ?_
  refine wp_seq ?_
  refine wp_region_opq ?_
  intro OPS hY
  have y2 := hY 2 23 rfl
  clear hY
  refine s_val 21 rfl rfl (.pointer (some ⟨p, 0, none⟩)) (rfl) ?_
  refine nr ?_; intro U h; simp only [z0, z1] at h; subst h
  refine s_val 22 rfl rfl (.bool false) (run_eqnp 23 _ _ _ rfl _ rfl rfl Try.underlying23 _) ?_
  refine nr ?_; intro U h; simp only [z0, z1] at h; subst h
  refine s_val 23 rfl rfl (.bool false) (rfl) ?_
  refine nr ?_; intro U h; simp only [z0, z1] at h; subst h
  refine s_gcallvY 24 rfl rfl y2 rfl _ 8 Try.call8 rfl rfl _ rfl [] rfl (fixed_true _) ?_
  intro w3 G
  replace HP := HP.gro G
  replace HR := HR.gro G
  replace GG := GG.trans G
  clear G
  refine nr ?_; intro U h; simp only [z0, z1] at h; subst h
  refine s_gvalY 25 rfl rfl y2 rfl (.bool false) (run_nt _ _ rfl true rfl) ?_
  refine nr ?_; intro U h; simp only [z0, z1] at h; subst h
  refine s_val 26 rfl rfl (.bool false) (rfl) ?_
  refine nr ?_; intro U h; simp only [z0, z1] at h; subst h
  refine wpList_nil ?_
  refine then_n ?_
  refine wp_cond_false rfl ?_
  refine wp_skip ?_
  refine then_n ?_
  refine wp_seq ?_
  refine wp_seq ?_
  refine wp_region_lit ?_
  refine s_val 27 rfl rfl (.slice ao os.length cap) (rfl) ?_
  refine nr ?_; intro U h; simp only [z0, z1] at h; subst h
  refine s_val 28 rfl rfl (.int .i64 ((os.length : Nat) : Int)) (run_len Try.underlying22 _ rfl _ _ _ rfl _) ?_
  refine nr ?_; intro U h; simp only [z0, z1] at h; subst h
  refine s_val 29 rfl rfl (.int .i64 0) (rfl) ?_
  refine nr ?_; intro U h; simp only [z0, z1] at h; subst h
  refine wpList_nil ?_
  refine then_n ?_
  refine wp_block ?_
  refine wp_loopN (fun mz az wv => ∃ (j : Nat) (ro : Option Addr) (rc : Nat) (q : List RV) (so : Option Addr) (sc : Nat) (u : List RV) (k : Nat) (c : Nat) (us1 : Nat → Value), mz = os.length - j ∧ az = ⟨[.slice ao os.length cap, undef, us1 0, .pointer (some ⟨p, 0, none⟩), .pointer (some ⟨r, 0, none⟩), us1 1, us1 2, us1 3, us1 4, us1 5, us1 6, us1 7, us1 8, us1 9, us1 10, undef, us1 11, us1 12, .pointer (some ⟨p, 0, none⟩), .agg (c28 Sl.nil 0 0), .pointer (some ⟨r, 0, none⟩), .pointer (some ⟨p, 0, none⟩), .bool false, .bool false, .bool true, .bool false, .bool false, .slice ao os.length cap, .int .i64 ((os.length : Nat) : Int), .int .i64 ((j : Nat) : Int), us1 13, us1 14, us1 15, us1 16, us1 17, us1 18, us1 19, us1 20, us1 21, us1 22, us1 23, us1 24, us1 25, us1 26, us1 27, us1 28, us1 29, us1 30, us1 31, us1 32, us1 33, us1 34, us1 35, us1 36, us1 37, us1 38, us1 39, us1 40, us1 41, us1 42, us1 43, us1 44, us1 45, us1 46, us1 47, us1 48, us1 49, us1 50, us1 51, us1 52, us1 53, us1 54, us1 55, us1 56, us1 57, us1 58, us1 59, us1 60, us1 61, us1 62, us1 63, us1 64, us1 65, us1 66, us1 67, us1 68, us1 69, us1 70, us1 71, us1 72, us1 73, us1 74, us1 75, us1 76, us1 77, us1 78, us1 79, us1 80, us1 81, us1 82, us1 83, us1 84, us1 85, us1 86, us1 87, us1 88, us1 89, us1 90, us1 91, us1 92, us1 93, us1 94, us1 95, us1 96, us1 97, us1 98, us1 99, us1 100, us1 101, us1 102, us1 103, us1 104, us1 105, us1 106, us1 107, us1 108, us1 109, us1 110, us1 111, us1 112, us1 113, us1 114, us1 115, us1 116, us1 117, us1 118, us1 119, us1 120, us1 121, us1 122, us1 123, us1 124, us1 125, us1 126, us1 127, us1 128, us1 129, us1 130, us1 131, us1 132].toArray, []⟩ ∧ j ≤ os.length ∧ j ≤ 401 ∧ k + q.length = u.length ∧ u.length ≤ j ∧ c ≤ j ∧ q.map (·.l) = (u.drop k).map (·.l) ∧ (∀ k ∈ blk ro, k ∉ blk so) ∧ Gro w wv ∧ WX 57 (c57 ((k + q.length : Nat) : Int) ⟨ro, q.length, rc⟩ ((c : Nat) : Int)) wv p w.heap.size ro rc q ∧ WX 28 (c28 ⟨so, u.length, sc⟩ ((k : Nat) : Int) ((c : Nat) : Int)) wv r w.heap.size so sc u) ?_ _ ⟨0, none, 0, [], none, 0, [], 0, 0, (fun kz => ([.bool false, undef, undef, undef, undef, undef, undef, undef, undef, undef, undef, undef, undef, undef, undef, undef, undef, undef, undef, undef, undef, undef, undef, undef, undef, undef, undef, undef, undef, undef, undef, undef, undef, undef, undef, undef, undef, undef, undef, undef, undef, undef, undef, undef, undef, undef, undef, undef, undef, undef, undef, undef, undef, undef, undef, undef, undef, undef, undef, undef, undef, undef, undef, undef, undef, undef, undef, undef, undef, undef, undef, undef, undef, undef, undef, undef, undef, undef, undef, undef, undef, undef, undef, undef, undef, undef, undef, undef, undef, undef, undef, undef, undef, undef, undef, undef, undef, undef, undef, undef, undef, undef, undef, undef, undef, undef, undef, undef, undef, undef, undef, undef, undef, undef, undef, undef, undef, undef, undef, undef, undef, undef, undef, undef, undef, undef, undef, undef, undef, undef, undef, undef, undef] : List Value).getD kz undef), rfl, rfl, Nat.zero_le _, Nat.zero_le _, rfl, Nat.zero_le _, Nat.zero_le _, rfl, (fun k hk => by simp [blk] at hk), GG, HP, HR⟩
  clear GG HP HR
  rintro mz az wv ⟨j, ro, rc, q, so, sc, u, k, c, us1, rfl, rfl, hj, hj2, hkq, huj, hcj, hqu, hdis, GG, HP, HR⟩
  refine wp_seq ?_
  refine wp_region_lit ?_
  obtain ⟨p1, hp1⟩ : ∃ p, decide (((j : Nat) : Int) < ((os.length : Nat) : Int)) = p := ⟨_, rfl⟩
  refine s_val 30 rfl rfl (.bool p1) (run_lssT 3 _ _ _ rfl ((j : Nat) : Int) ((os.length : Nat) : Int) rfl rfl p1 hp1 _) ?_
  refine nr ?_; intro U h; simp only [z0, z1] at h; subst h
  cases p1
  · refine wpList_nil ?_
    refine then_n ?_
    refine wp_seq ?_
    refine wp_cond_false rfl ?_
    refine wp_exit ?_
    refine then_x ?_
    refine then_x ?_
    refine blk_x ?_
    refine then_n ?_
    refine wp_seq ?_
    refine wp_region_lit ?_
    refine s_val 2 rfl rfl (.bool true) (rfl) ?_
    refine nr ?_; intro U h; simp only [z0, z1] at h; subst h
    refine wpList_nil ?_
    refine then_n ?_
    refine wp_ret ?_
    refine bodyPost_ret (results_tmp Try.results3 _ _ _) rfl ?_
    exact ⟨rfl, GG⟩
  have hjn : j < os.length := by have := of_decide_eq_true hp1; omega
  obtain ⟨oq, hoq⟩ : ∃ x, os[j]? = some x := ⟨_, List.getElem?_eq_getElem hjn⟩
  have hom := List.mem_of_getElem? hoq
  have hol1 := hlens oq hom
  obtain ⟨ad, hao⟩ := HO.xc.some (by omega)
  obtain ⟨lb, hlb⟩ : ∃ lb, oq.l.take (min oq.l.length 64) = lb := ⟨_, rfl⟩
  have hll : lb.length = min oq.l.length 64 := by rw [← hlb, List.length_take]; omega
  have ncl := (HO.row oq hom).take (min oq.l.length 64) (by omega)
  rw [hlb] at ncl
  clear hlb
  refine wpList_nil ?_
  refine then_n ?_
  refine wp_seq ?_
  refine wp_cond_true rfl ?_
  refine wp_skip ?_
  refine then_n ?_
  refine wp_seq ?_
  refine wp_block ?_
  refine wp_seq ?_
  refine wp_region_lit ?_
  refine s_val 31 rfl rfl (.int .i64 ((j : Nat) : Int)) (rfl) ?_
  refine nr ?_; intro U h; simp only [z0, z1] at h; subst h
  refine s_val 32 rfl rfl (.pointer (some (ad.add (j * 3)))) (run_idxX wQ _ _ rfl ad os.length cap j (by exact congrArg (fun a => Value.slice a os.length cap) hao) rfl hjn _) ?_
  refine nr ?_; intro U h; simp only [z0, z1] at h; subst h
  refine s_val 33 rfl rfl (.agg (c32 oq.k oq.i ⟨oq.ao, oq.l.length, oq.cap⟩)) (ld_opQ _ rfl ad j rfl (by rw [← hao]; exact HO.xc.gro GG) oq hoq) ?_
  refine nr ?_; intro U h; simp only [z0, z1] at h; subst h
  refine s_alloc 6 rfl rfl 32 rfl _ zv32 _ rfl ?_
  intro w4 g1 G eg1 kg1
  have bg1 := size_base GG eg1
  replace HP := HP.gro G
  replace HR := HR.gro G
  replace GG := GG.trans G
  clear G eg1
  refine nr ?_; intro U h; simp only [z0, z1] at h; subst h
  refine s_val 5 rfl rfl (.int .i64 ((j : Nat) : Int)) (rfl) ?_
  refine nr ?_; intro U h; simp only [z0, z1] at h; subst h
  refine s_store rfl rfl 32 _ _ rfl g1 0 rfl (.agg (c32 oq.k oq.i ⟨oq.ao, oq.l.length, oq.cap⟩)) rfl 32 _ kg1 (c32 oq.k oq.i ⟨oq.ao, oq.l.length, oq.cap⟩) rfl (by kernel_rfl) (Nat.le_of_ble_eq_true rfl) (by kernel_rfl) (c32 oq.k oq.i ⟨oq.ao, oq.l.length, oq.cap⟩) (by kernel_rfl) ?_
  intro w6 St
  replace HP := HP.stT (by decide) (by decide) (by decide) kg1 St
  replace HR := HR.stT (by decide) (by decide) (by decide) kg1 St
  replace GG := GG.store St bg1
  replace kg1 := St.new
  clear St
  refine wpList_nil ?_
  refine then_n ?_
  refine wp_seq ?_
  refine wp_seq ?_
  refine wp_region_lit ?_
  refine s_val 34 rfl rfl (.int .i64 ((j : Nat) : Int)) (rfl) ?_
  refine nr ?_; intro U h; simp only [z0, z1] at h; subst h
  obtain ⟨p2, hp2⟩ : ∃ p, decide (400 < ((j : Nat) : Int)) = p := ⟨_, rfl⟩
  refine s_val 35 rfl rfl (.bool p2) (run_gtrT 3 _ _ _ rfl ((j : Nat) : Int) 400 rfl rfl p2 hp2 _) ?_
  refine nr ?_; intro U h; simp only [z0, z1] at h; subst h
  cases p2
  · have hj600 : j ≤ 400 := by have := of_decide_eq_false hp2; omega
    refine wpList_nil ?_
    refine then_n ?_
    refine wp_cond_false rfl ?_
    refine wp_skip ?_
    refine then_n ?_
    refine wp_seq ?_
    refine wp_region_lit ?_
    refine s_val 36 rfl rfl (.pointer (some ⟨g1, 2, none⟩)) (run_fld 32 _ 2 rfl _ _ rfl _ (by kernel_rfl)) ?_
    refine nr ?_; intro U h; simp only [z0, z1] at h; subst h
    refine s_val 37 rfl rfl (.slice oq.ao oq.l.length oq.cap) (run_ldc 30 _ rfl g1 2 rfl 32 _ kg1 (na30 _) _ rfl) ?_
    refine nr ?_; intro U h; simp only [z0, z1] at h; subst h
    refine s_val 38 rfl rfl (.pointer (some ⟨g1, 2, none⟩)) (run_fld 32 _ 2 rfl _ _ rfl _ (by kernel_rfl)) ?_
    refine nr ?_; intro U h; simp only [z0, z1] at h; subst h
    refine s_val 39 rfl rfl (.slice oq.ao oq.l.length oq.cap) (run_ldc 30 _ rfl g1 2 rfl 32 _ kg1 (na30 _) _ rfl) ?_
    refine nr ?_; intro U h; simp only [z0, z1] at h; subst h
    refine s_val 40 rfl rfl (.int .i64 ((oq.l.length : Nat) : Int)) (run_len Try.underlying30 _ rfl _ _ _ rfl _) ?_
    refine nr ?_; intro U h; simp only [z0, z1] at h; subst h
    refine s_val 41 rfl rfl (.int .i64 ((lb.length : Nat) : Int)) (run_min64 _ _ _ rfl ((oq.l.length : Nat) : Int) 64 _ rfl rfl (by omega) _) ?_
    refine nr ?_; intro U h; simp only [z0, z1] at h; subst h
    refine s_val 42 rfl rfl (.slice oq.ao lb.length oq.cap) (run_cut0 bT _ _ rfl oq.ao oq.l.length oq.cap lb.length rfl rfl (by have := (HO.row oq hom).fit; omega) _) ?_
    refine nr ?_; intro U h; simp only [z0, z1] at h; subst h
    refine s_val 43 rfl rfl (.pointer (some ⟨g1, 2, none⟩)) (run_fld 32 _ 2 rfl _ _ rfl _ (by kernel_rfl)) ?_
    refine nr ?_; intro U h; simp only [z0, z1] at h; subst h
    refine s_store rfl rfl 30 _ _ rfl g1 2 rfl (.slice oq.ao lb.length oq.cap) rfl 32 _ kg1 #[.slice oq.ao lb.length oq.cap] rfl (by kernel_rfl) (Nat.le_of_ble_eq_true rfl) (by kernel_rfl) (c32 oq.k oq.i ⟨oq.ao, lb.length, oq.cap⟩) (by kernel_rfl) ?_
    intro w8 St
    replace HP := HP.stT (by decide) (by decide) (by decide) kg1 St
    replace HR := HR.stT (by decide) (by decide) (by decide) kg1 St
    replace GG := GG.store St bg1
    replace kg1 := St.new
    clear St
    refine wpList_nil ?_
    refine then_n ?_
    refine wp_seq ?_
    refine wp_seq ?_
    refine wp_region_lit ?_
    refine s_val 44 rfl rfl (.pointer (some ⟨g1, 0, none⟩)) (run_fld 32 _ 0 rfl _ _ rfl _ (by kernel_rfl)) ?_
    refine nr ?_; intro U h; simp only [z0, z1] at h; subst h
    refine s_val 45 rfl rfl (.int .i64 oq.k) (run_ldc 3 _ rfl g1 0 rfl 32 _ kg1 (na3 _) _ rfl) ?_
    refine nr ?_; intro U h; simp only [z0, z1] at h; subst h
    refine wpList_nil ?_
    refine then_n ?_
    refine wp_block ?_
    refine wp_seq ?_
    refine wp_region_lit ?_
    obtain ⟨p3, hp3⟩ : ∃ p, decide (oq.k = 0) = p := ⟨_, rfl⟩
    refine s_val 47 rfl rfl (.bool p3) (run_eq_k 3 .i64 _ _ _ rfl Try.underlying3 oq.k 0 rfl rfl p3 hp3 _) ?_
    refine nr ?_; intro U h; simp only [z0, z1] at h; subst h
    cases p3
    · refine s_val _ rfl rfl (.bool false) rfl ?_
      refine nr ?_; intro U h; simp only [z0, z1] at h; subst h
      refine wpList_nil ?_
      refine then_n ?_
      refine wp_cond_false rfl ?_
      refine wp_seq ?_
      refine wp_region_lit ?_
      obtain ⟨p4, hp4⟩ : ∃ p, decide (oq.k = 1) = p := ⟨_, rfl⟩
      refine s_val 81 rfl rfl (.bool p4) (run_eq_k 3 .i64 _ _ _ rfl Try.underlying3 oq.k 1 rfl rfl p4 hp4 _) ?_
      refine nr ?_; intro U h; simp only [z0, z1] at h; subst h
      cases p4
      · refine s_val _ rfl rfl (.bool false) rfl ?_
        refine nr ?_; intro U h; simp only [z0, z1] at h; subst h
        refine wpList_nil ?_
        refine then_n ?_
        refine wp_cond_false rfl ?_
        refine wp_seq ?_
        refine wp_region_lit ?_
        obtain ⟨p5, hp5⟩ : ∃ p, decide (oq.k = 2) = p := ⟨_, rfl⟩
        refine s_val 92 rfl rfl (.bool p5) (run_eq_k 3 .i64 _ _ _ rfl Try.underlying3 oq.k 2 rfl rfl p5 hp5 _) ?_
        refine nr ?_; intro U h; simp only [z0, z1] at h; subst h
        cases p5
        · refine s_val _ rfl rfl (.bool false) rfl ?_
          refine nr ?_; intro U h; simp only [z0, z1] at h; subst h
          refine wpList_nil ?_
          refine then_n ?_
          refine wp_cond_false rfl ?_
          refine wp_skip ?_
          refine blk_n ?_
          refine then_n ?_
          refine wp_seq ?_
          refine wp_region_lit ?_
          refine s_val 103 rfl rfl (.pointer (some ⟨p, 0, none⟩)) (rfl) ?_
          refine nr ?_; intro U h; simp only [z0, z1] at h; subst h
          have hqu2 := hqu
          have hkq2 := hkq
          have huj2 : u.length ≤ j + 1 := by omega
          have hcj2 : c ≤ j + 1 := by omega
          have HP0 := HP
          have HR0 := HR
          have GG0 := GG
          have GX := Gro.refl w8
          have hwx := GG0.size
          refine s_callx 104 rfl rfl _ 15 Try.call15 rfl rfl _ rfl [.pointer (some ⟨p, 0, none⟩)] rfl (waits_any _ p w.heap.size ro rc q (k) (c) HP (by omega) (by omega)) (fun _ _ ⟨_, _, he, _⟩ => ⟨_, he⟩) ?_
          rintro v w9 ⟨gl, rr, he, G, hr, HL⟩
          cases he
          have hrl : rr.length = q.length := by have := congrArg List.length hr; simpa using this
          have hzs : ∀ z ∈ rr, z.2.length ≤ 140737488355000 := fun z hz => by have h1 : z.2 ∈ q.map (·.l) := hr ▸ List.mem_map_of_mem hz; obtain ⟨x, hx, e⟩ := List.mem_map.1 h1; rw [← e]; exact HP0.sm x hx
          replace HP := HP.gro G
          replace HR := HR.gro G
          replace GX := GX.gro G
          replace GG := GG.trans G
          clear G
          refine nr ?_; intro U h; simp only [z0, z1] at h; subst h
          refine s_val 102 rfl rfl (.tuple #[.int .i64 ((k + 1 : Nat) : Int), .slice (some ⟨gl, 0, none⟩) rr.length rr.length]) (rfl) ?_
          refine nr ?_; intro U h; simp only [z0, z1] at h; subst h
          refine s_val 105 rfl rfl (.int .i64 ((k + 1 : Nat) : Int)) (rfl) ?_
          refine nr ?_; intro U h; simp only [z0, z1] at h; subst h
          refine s_val 106 rfl rfl (.slice (some ⟨gl, 0, none⟩) rr.length rr.length) (rfl) ?_
          refine nr ?_; intro U h; simp only [z0, z1] at h; subst h
          refine s_val 11 rfl rfl (.int .i64 ((k + 1 : Nat) : Int)) (rfl) ?_
          refine nr ?_; intro U h; simp only [z0, z1] at h; subst h
          refine s_val 12 rfl rfl (.slice (some ⟨gl, 0, none⟩) rr.length rr.length) (rfl) ?_
          refine nr ?_; intro U h; simp only [z0, z1] at h; subst h
          refine wpList_nil ?_
          refine then_n ?_
          refine wp_seq ?_
          refine wp_region_lit ?_
          refine s_val 108 rfl rfl (.pointer (some ⟨r, 0, none⟩)) (rfl) ?_
          refine nr ?_; intro U h; simp only [z0, z1] at h; subst h
          refine s_callv 109 rfl rfl _ 16 Try.call16 rfl rfl _ rfl [.pointer (some ⟨r, 0, none⟩)] rfl (rwaits_any _ r w.heap.size so sc u (k) (c) HR (by omega) (by omega) (by omega)) ?_
          intro w10 G
          replace HP := HP.gro G
          replace HR := HR.gro G
          replace GX := GX.gro G
          replace HL := HL.gro G
          replace GG := GG.trans G
          clear G
          refine nr ?_; intro U h; simp only [z0, z1] at h; subst h
          refine s_val 107 rfl rfl (.tuple #[.int .i64 ((k + 1 : Nat) : Int), .slice (if sc = k then so else so.map (·.add ((k) * 1))) ((u.drop (k)).length) (sc - (k))]) (rfl) ?_
          refine nr ?_; intro U h; simp only [z0, z1] at h; subst h
          refine s_val 110 rfl rfl (.int .i64 ((k + 1 : Nat) : Int)) (rfl) ?_
          refine nr ?_; intro U h; simp only [z0, z1] at h; subst h
          refine s_val 111 rfl rfl (.slice (if sc = k then so else so.map (·.add ((k) * 1))) ((u.drop (k)).length) (sc - (k))) (rfl) ?_
          refine nr ?_; intro U h; simp only [z0, z1] at h; subst h
          refine s_val 13 rfl rfl (.int .i64 ((k + 1 : Nat) : Int)) (rfl) ?_
          refine nr ?_; intro U h; simp only [z0, z1] at h; subst h
          refine s_val 14 rfl rfl (.slice (if sc = k then so else so.map (·.add ((k) * 1))) ((u.drop (k)).length) (sc - (k))) (rfl) ?_
          refine nr ?_; intro U h; simp only [z0, z1] at h; subst h
          refine wpList_nil ?_
          refine then_n ?_
          refine wp_seq ?_
          refine wp_seq ?_
          have kr := HR.box
          refine wp_region_exA (A := ?Ax1) 16 [(0, 112), (1, 113), (2, 114), (3, 115), (4, 116), (5, 117), (6, 118), (7, 119), (8, 120), (9, 121), (10, 122), (11, 123), (12, 124), (13, 125), (14, 126), (15, 127)] [.val (.int .i64 ((k + 1 : Nat) : Int)), .val (.int .i64 ((k + 1 : Nat) : Int)), .val (.bool false), .val (.bool false), .val (.slice (some ⟨gl, 0, none⟩) rr.length rr.length), .val (.slice (if sc = k then so else so.map (·.add ((k) * 1))) ((u.drop (k)).length) (sc - (k))), .val (.bool true), .val (.bool false), .val (.bool false), .val (.bool false), .val (.pointer (some ⟨p, 0, none⟩)), .val (.int .i64 ((c : Nat) : Int)), .val (.pointer (some ⟨r, 0, none⟩)), .val (.pointer (some ⟨r, 0, none⟩)), .val (.pointer (some ⟨r, 2, none⟩)), .val (.int .i64 ((c : Nat) : Int))] follows (by kernel_rfl) rfl ?hAx1 (opsA_cons ?o0x1 (opsA_cons ?o1x1 (opsA_cons ?o2x1 (opsA_cons ?o3x1 (opsA_cons ?o4x1 (opsA_cons ?o5x1 (opsA_cons ?o6x1 (opsA_cons ?o7x1 (opsA_cons ?o8x1 (opsA_cons ?o9x1 (opsA_cons ?o10x1 (opsA_cons ?o11x1 (opsA_cons ?o12x1 (opsA_cons ?o13x1 (opsA_cons ?o14x1 (opsA_cons ?o15x1 opsA_nil)))))))))))))))) ?restx1
          case hAx1 =>
            intro ptrs
            simp only [full, foldSlots, filledE, postE, List.foldl_cons, List.foldl_nil, List.getD_cons_zero, List.getD_cons_succ, fill_val, List.set_cons_zero, List.set_cons_succ]
            exact rfl
          case o0x1 => exact fun _ _ _ _ => opE_move (v := .int .i64 ((k + 1 : Nat) : Int)) _ rfl rfl rfl
          case o1x1 => exact fun _ _ _ _ => opE_move (v := .int .i64 ((k + 1 : Nat) : Int)) _ rfl rfl rfl
          case o2x1 => exact fun _ _ hw _ => opE_value (v := .bool false) rfl (run_neq_k 2 .i64 _ _ _ rfl Try.underlying2 ((k + 1 : Nat) : Int) ((k + 1 : Nat) : Int) rfl rfl false (decide_eq_true rfl) _)
          case o3x1 => exact fun _ _ _ _ => opE_move (v := .bool false) _ rfl rfl rfl
          case o4x1 => exact fun _ _ _ _ => opE_move (v := .slice (some ⟨gl, 0, none⟩) rr.length rr.length) _ rfl rfl rfl
          case o5x1 => exact fun _ _ _ _ => opE_move (v := .slice (if sc = k then so else so.map (·.add ((k) * 1))) ((u.drop (k)).length) (sc - (k))) _ rfl rfl rfl
          case o6x1 => exact fun _ _ hw _ => opE_call (.val (.bool true)) rfl _ 17 Try.call17 rfl rfl _ rfl [.slice (some ⟨gl, 0, none⟩) rr.length rr.length, .slice (if sc = k then so else so.map (·.add ((k) * 1))) ((u.drop (k)).length) (sc - (k))] rfl ((sameAll_t _ (some ⟨gl, 0, none⟩) rr.length _ (HL.gro ((Gro.refl _).drew.trans hw)).lc _ _ _ ((HR.gro ((Gro.refl _).drew.trans hw)).lcd (k) (by omega)) rr.length _ (by simp) (by simp) (by omega) (hr.trans hqu2)).mono fun e w' ⟨he, hg⟩ => ⟨_, he, hg, rfl⟩)
          case o7x1 => exact fun _ _ hw _ => opE_value (v := .bool false) rfl (run_nt _ _ rfl true rfl)
          case o8x1 => exact fun _ _ _ _ => opE_pick (v := .bool false) _ _ _ rfl rfl false rfl rfl
          case o9x1 => exact fun _ _ _ _ => opE_move (v := .bool false) _ rfl rfl rfl
          case o10x1 => exact fun _ _ _ _ => opE_move (v := .pointer (some ⟨p, 0, none⟩)) _ rfl rfl rfl
          case o11x1 => exact fun _ _ hw _ => opE_call (.val (.int .i64 ((c : Nat) : Int))) rfl _ 18 Try.call18 rfl rfl _ rfl [.pointer (some ⟨p, 0, none⟩)] rfl ((got_any _ p w.heap.size ro rc q (k) (c) (HP.gro ((Gro.refl _).drew.trans hw)) (by omega) (by omega)).mono fun e w' ⟨he, hg⟩ => ⟨_, he, hg, rfl⟩)
          case o12x1 => exact fun _ _ _ _ => opE_move (v := .pointer (some ⟨r, 0, none⟩)) _ rfl rfl rfl
          case o13x1 => exact fun _ _ hw _ => opE_value (v := .pointer (some ⟨r, 0, none⟩)) rfl (run_nc _ rfl _ rfl)
          case o14x1 => exact fun _ _ hw _ => opE_value (v := .pointer (some ⟨r, 2, none⟩)) rfl (run_fld 28 _ 2 rfl _ _ rfl _ (by kernel_rfl))
          case o15x1 => exact fun _ _ hw _ => opE_value (v := .int .i64 ((c : Nat) : Int)) rfl (run_ldc 2 _ rfl r 2 rfl 28 _ (hw.has kr) (na2 _) _ rfl)
          intro ptrs w11 GD hxE
          simp only [List.drop_succ_cons, List.drop_zero]
          replace GX := GX.gro ((Gro.refl _).drew.trans GD)
          replace HL := HL.gro ((Gro.refl _).drew.trans GD)
          replace GG := GG.drew.trans GD
          clear kr HP HR
          have HV := HL.av
          clear HL
          clear GD
          refine s_gval 128 rfl rfl (.bool false) (run_neq_k 2 .i64 _ _ _ rfl Try.underlying2 ((c : Nat) : Int) ((c : Nat) : Int) rfl rfl false (decide_eq_true rfl) _) ?_
          refine nr ?_; intro U h; simp only [z0, z1] at h; subst h
          refine s_val 129 rfl rfl (.bool false) (rfl) ?_
          refine nr ?_; intro U h; simp only [z0, z1] at h; subst h
          refine wpList_nil ?_
          refine then_n ?_
          refine wp_cond_false rfl ?_
          refine wp_skip ?_
          refine then_n ?_
          refine wp_seq ?_
          refine wp_region_lit ?_
          refine s_val 130 rfl rfl (.slice (some ⟨gl, 0, none⟩) rr.length rr.length) (rfl) ?_
          refine nr ?_; intro U h; simp only [z0, z1] at h; subst h
          refine s_val 131 rfl rfl (.int .i64 ((rr.length : Nat) : Int)) (run_len Try.underlying26 _ rfl _ _ _ rfl _) ?_
          refine nr ?_; intro U h; simp only [z0, z1] at h; subst h
          refine s_val 132 rfl rfl (.int .i64 0) (rfl) ?_
          refine nr ?_; intro U h; simp only [z0, z1] at h; subst h
          refine wpList_nil ?_
          refine then_n ?_
          refine wp_block ?_
          have hrr : rr.length ≤ 1000 := by omega
          refine wp_loopN (fun mz az wv => ∃ (e3 : Nat) (us2 : Nat → Value), mz = rr.length - e3 ∧ az = ⟨[.slice ao os.length cap, undef, us1 0, .pointer (some ⟨p, 0, none⟩), .pointer (some ⟨r, 0, none⟩), .int .i64 ((j : Nat) : Int), .pointer (some ⟨g1, 0, none⟩), us1 3, us1 4, us1 5, us1 6, .int .i64 ((k + 1 : Nat) : Int), .slice (some ⟨gl, 0, none⟩) rr.length rr.length, .int .i64 ((k + 1 : Nat) : Int), .slice (if sc = k then so else so.map (·.add ((k) * 1))) ((u.drop (k)).length) (sc - (k)), undef, us2 0, us2 1, .pointer (some ⟨p, 0, none⟩), .agg (c28 Sl.nil 0 0), .pointer (some ⟨r, 0, none⟩), .pointer (some ⟨p, 0, none⟩), .bool false, .bool false, .bool true, .bool false, .bool false, .slice ao os.length cap, .int .i64 ((os.length : Nat) : Int), .int .i64 ((j : Nat) : Int), .bool true, .int .i64 ((j : Nat) : Int), .pointer (some (ad.add (j * 3))), .agg (c32 oq.k oq.i ⟨oq.ao, oq.l.length, oq.cap⟩), .int .i64 ((j : Nat) : Int), .bool false, .pointer (some ⟨g1, 2, none⟩), .slice oq.ao oq.l.length oq.cap, .pointer (some ⟨g1, 2, none⟩), .slice oq.ao oq.l.length oq.cap, .int .i64 ((oq.l.length : Nat) : Int), .int .i64 ((lb.length : Nat) : Int), .slice oq.ao lb.length oq.cap, .pointer (some ⟨g1, 2, none⟩), .pointer (some ⟨g1, 0, none⟩), .int .i64 oq.k, .bool false, .bool false, us1 31, us1 32, us1 33, us1 34, us1 35, us1 36, us1 37, us1 38, us1 39, us1 40, us1 41, us1 42, us1 43, us1 44, us1 45, us1 46, us1 47, us1 48, us1 49, us1 50, us1 51, us1 52, us1 53, us1 54, us1 55, us1 56, us1 57, us1 58, us1 59, us1 60, us1 61, us1 62, .bool false, .bool false, us1 65, us1 66, us1 67, us1 68, us1 69, us1 70, us1 71, us1 72, us1 73, .bool false, .bool false, us1 76, us1 77, us1 78, us1 79, us1 80, us1 81, us1 82, us1 83, us1 84, .tuple #[.int .i64 ((k + 1 : Nat) : Int), .slice (some ⟨gl, 0, none⟩) rr.length rr.length], .pointer (some ⟨p, 0, none⟩), .tuple #[.int .i64 ((k + 1 : Nat) : Int), .slice (some ⟨gl, 0, none⟩) rr.length rr.length], .int .i64 ((k + 1 : Nat) : Int), .slice (some ⟨gl, 0, none⟩) rr.length rr.length, .tuple #[.int .i64 ((k + 1 : Nat) : Int), .slice (if sc = k then so else so.map (·.add ((k) * 1))) ((u.drop (k)).length) (sc - (k))], .pointer (some ⟨r, 0, none⟩), .tuple #[.int .i64 ((k + 1 : Nat) : Int), .slice (if sc = k then so else so.map (·.add ((k) * 1))) ((u.drop (k)).length) (sc - (k))], .int .i64 ((k + 1 : Nat) : Int), .slice (if sc = k then so else so.map (·.add ((k) * 1))) ((u.drop (k)).length) (sc - (k)), .int .i64 ((k + 1 : Nat) : Int), .int .i64 ((k + 1 : Nat) : Int), .bool false, .bool false, .slice (some ⟨gl, 0, none⟩) rr.length rr.length, .slice (if sc = k then so else so.map (·.add ((k) * 1))) ((u.drop (k)).length) (sc - (k)), .bool true, .bool false, .bool false, .bool false, .pointer (some ⟨p, 0, none⟩), .int .i64 ((c : Nat) : Int), .pointer (some ⟨r, 0, none⟩), .pointer (some ⟨r, 0, none⟩), .pointer (some ⟨r, 2, none⟩), .int .i64 ((c : Nat) : Int), .bool false, .bool false, .slice (some ⟨gl, 0, none⟩) rr.length rr.length, .int .i64 ((rr.length : Nat) : Int), .int .i64 ((e3 : Nat) : Int), us2 2, us2 3, us2 4, us2 5, us2 6, us2 7, us2 8, us2 9, us2 10, us2 11, us2 12, us2 13, us2 14, us2 15, us2 16, us2 17, us1 132].toArray, []⟩ ∧ e3 ≤ rr.length ∧ Gro w wv ∧ Gro w8 wv ∧ AV wv w8.heap.size gl rr) ?_ _ ⟨0, (fun kz => ([us1 11, us1 12, us1 116, us1 117, us1 118, us1 119, us1 120, us1 121, us1 122, us1 123, us1 124, us1 125, us1 126, us1 127, us1 128, us1 129, us1 130, us1 131] : List Value).getD kz undef), rfl, rfl, Nat.zero_le _, GG, GX, HV⟩
          clear GG GX HV
          rintro mz az wv ⟨e3, us2, rfl, rfl, he3, GG, GX, HV⟩
          refine wp_seq ?_
          refine wp_region_lit ?_
          obtain ⟨p6, hp6⟩ : ∃ p, decide (((e3 : Nat) : Int) < ((rr.length : Nat) : Int)) = p := ⟨_, rfl⟩
          refine s_val 133 rfl rfl (.bool p6) (run_lssT 3 _ _ _ rfl ((e3 : Nat) : Int) ((rr.length : Nat) : Int) rfl rfl p6 hp6 _) ?_
          refine nr ?_; intro U h; simp only [z0, z1] at h; subst h
          cases p6
          · have HP := HP0.gro GX
            have HR := HR0.gro GX
            refine wpList_nil ?_
            refine then_n ?_
            refine wp_seq ?_
            refine wp_cond_false rfl ?_
            refine wp_exit ?_
            refine then_x ?_
            refine then_x ?_
            refine blk_x ?_
            refine blk_n ?_
            refine then_n ?_
            refine wp_region_lit ?_
            refine s_val 149 rfl rfl (.int .i64 ((j + 1 : Nat) : Int)) (run_addI 3 _ _ _ rfl ((j : Nat) : Int) 1 ((j + 1 : Nat) : Int) rfl rfl (by omega) (by omega) (by omega) _) ?_
            refine nr ?_; intro U h; simp only [z0, z1] at h; subst h
            refine s_val 29 rfl rfl (.int .i64 ((j + 1 : Nat) : Int)) (rfl) ?_
            refine nr ?_; intro U h; simp only [z0, z1] at h; subst h
            refine wpList_nil ?_
            refine then_n ?_
            exact ⟨_, (by omega : os.length - (j + 1) < os.length - j), j + 1, ro, rc, q, so, sc, u, k, c, (fun kz => ([us1 0, .int .i64 ((j : Nat) : Int), .pointer (some ⟨g1, 0, none⟩), us1 3, us1 4, us1 5, us1 6, .int .i64 ((k + 1 : Nat) : Int), .slice (some ⟨gl, 0, none⟩) rr.length rr.length, .int .i64 ((k + 1 : Nat) : Int), .slice (if sc = k then so else so.map (·.add ((k) * 1))) ((u.drop (k)).length) (sc - (k)), us2 0, us2 1, .bool true, .int .i64 ((j : Nat) : Int), .pointer (some (ad.add (j * 3))), .agg (c32 oq.k oq.i ⟨oq.ao, oq.l.length, oq.cap⟩), .int .i64 ((j : Nat) : Int), .bool false, .pointer (some ⟨g1, 2, none⟩), .slice oq.ao oq.l.length oq.cap, .pointer (some ⟨g1, 2, none⟩), .slice oq.ao oq.l.length oq.cap, .int .i64 ((oq.l.length : Nat) : Int), .int .i64 ((lb.length : Nat) : Int), .slice oq.ao lb.length oq.cap, .pointer (some ⟨g1, 2, none⟩), .pointer (some ⟨g1, 0, none⟩), .int .i64 oq.k, .bool false, .bool false, us1 31, us1 32, us1 33, us1 34, us1 35, us1 36, us1 37, us1 38, us1 39, us1 40, us1 41, us1 42, us1 43, us1 44, us1 45, us1 46, us1 47, us1 48, us1 49, us1 50, us1 51, us1 52, us1 53, us1 54, us1 55, us1 56, us1 57, us1 58, us1 59, us1 60, us1 61, us1 62, .bool false, .bool false, us1 65, us1 66, us1 67, us1 68, us1 69, us1 70, us1 71, us1 72, us1 73, .bool false, .bool false, us1 76, us1 77, us1 78, us1 79, us1 80, us1 81, us1 82, us1 83, us1 84, .tuple #[.int .i64 ((k + 1 : Nat) : Int), .slice (some ⟨gl, 0, none⟩) rr.length rr.length], .pointer (some ⟨p, 0, none⟩), .tuple #[.int .i64 ((k + 1 : Nat) : Int), .slice (some ⟨gl, 0, none⟩) rr.length rr.length], .int .i64 ((k + 1 : Nat) : Int), .slice (some ⟨gl, 0, none⟩) rr.length rr.length, .tuple #[.int .i64 ((k + 1 : Nat) : Int), .slice (if sc = k then so else so.map (·.add ((k) * 1))) ((u.drop (k)).length) (sc - (k))], .pointer (some ⟨r, 0, none⟩), .tuple #[.int .i64 ((k + 1 : Nat) : Int), .slice (if sc = k then so else so.map (·.add ((k) * 1))) ((u.drop (k)).length) (sc - (k))], .int .i64 ((k + 1 : Nat) : Int), .slice (if sc = k then so else so.map (·.add ((k) * 1))) ((u.drop (k)).length) (sc - (k)), .int .i64 ((k + 1 : Nat) : Int), .int .i64 ((k + 1 : Nat) : Int), .bool false, .bool false, .slice (some ⟨gl, 0, none⟩) rr.length rr.length, .slice (if sc = k then so else so.map (·.add ((k) * 1))) ((u.drop (k)).length) (sc - (k)), .bool true, .bool false, .bool false, .bool false, .pointer (some ⟨p, 0, none⟩), .int .i64 ((c : Nat) : Int), .pointer (some ⟨r, 0, none⟩), .pointer (some ⟨r, 0, none⟩), .pointer (some ⟨r, 2, none⟩), .int .i64 ((c : Nat) : Int), .bool false, .bool false, .slice (some ⟨gl, 0, none⟩) rr.length rr.length, .int .i64 ((rr.length : Nat) : Int), .int .i64 ((e3 : Nat) : Int), .bool false, us2 3, us2 4, us2 5, us2 6, us2 7, us2 8, us2 9, us2 10, us2 11, us2 12, us2 13, us2 14, us2 15, us2 16, us2 17, .int .i64 ((j + 1 : Nat) : Int)] : List Value).getD kz undef), rfl, rfl, hjn, (by omega), hkq2, huj2, hcj2, hqu2, hdis, GG, HP, HR⟩
          have he3n : e3 < rr.length := by have := of_decide_eq_true hp6; omega
          obtain ⟨zr, hzr⟩ : ∃ x, rr[e3]? = some x := ⟨_, List.getElem?_eq_getElem he3n⟩
          have hzm := List.mem_of_getElem? hzr
          refine wpList_nil ?_
          refine then_n ?_
          refine wp_seq ?_
          refine wp_cond_true rfl ?_
          refine wp_skip ?_
          refine then_n ?_
          refine wp_seq ?_
          refine wp_block ?_
          refine wp_seq ?_
          refine wp_region_lit ?_
          refine s_val 134 rfl rfl (.pointer (some ⟨gl, e3, none⟩)) (run_idxg _ _ rfl gl rr.length rr.length e3 rfl rfl he3n _) ?_
          refine nr ?_; intro U h; simp only [z0, z1] at h; subst h
          refine s_val 135 rfl rfl (.slice (some ⟨zr.1, 0, none⟩) zr.2.length zr.2.length) (run_ld24 _ rfl _ rfl _ _ (by exact HV.at hzr)) ?_
          refine nr ?_; intro U h; simp only [z0, z1] at h; subst h
          refine s_val 16 rfl rfl (.slice (some ⟨zr.1, 0, none⟩) zr.2.length zr.2.length) (rfl) ?_
          refine nr ?_; intro U h; simp only [z0, z1] at h; subst h
          refine wpList_nil ?_
          refine then_n ?_
          refine wp_seq ?_
          refine wp_region_lit ?_
          refine s_val 136 rfl rfl (.slice (some ⟨zr.1, 0, none⟩) zr.2.length zr.2.length) (rfl) ?_
          refine nr ?_; intro U h; simp only [z0, z1] at h; subst h
          refine s_val 137 rfl rfl (.int .i64 ((zr.2.length : Nat) : Int)) (run_len Try.underlying30 _ rfl _ _ _ rfl _) ?_
          refine nr ?_; intro U h; simp only [z0, z1] at h; subst h
          refine s_val 138 rfl rfl (.int .i64 0) (rfl) ?_
          refine nr ?_; intro U h; simp only [z0, z1] at h; subst h
          refine wpList_nil ?_
          refine then_n ?_
          refine wp_block ?_
          have hz9 := hzs zr hzm
          refine wp_loopN (fun mz az wv => ∃ (e2 : Nat) (us3 : Nat → Value), mz = zr.2.length - e2 ∧ az = ⟨[.slice ao os.length cap, undef, us1 0, .pointer (some ⟨p, 0, none⟩), .pointer (some ⟨r, 0, none⟩), .int .i64 ((j : Nat) : Int), .pointer (some ⟨g1, 0, none⟩), us1 3, us1 4, us1 5, us1 6, .int .i64 ((k + 1 : Nat) : Int), .slice (some ⟨gl, 0, none⟩) rr.length rr.length, .int .i64 ((k + 1 : Nat) : Int), .slice (if sc = k then so else so.map (·.add ((k) * 1))) ((u.drop (k)).length) (sc - (k)), undef, .slice (some ⟨zr.1, 0, none⟩) zr.2.length zr.2.length, us3 0, .pointer (some ⟨p, 0, none⟩), .agg (c28 Sl.nil 0 0), .pointer (some ⟨r, 0, none⟩), .pointer (some ⟨p, 0, none⟩), .bool false, .bool false, .bool true, .bool false, .bool false, .slice ao os.length cap, .int .i64 ((os.length : Nat) : Int), .int .i64 ((j : Nat) : Int), .bool true, .int .i64 ((j : Nat) : Int), .pointer (some (ad.add (j * 3))), .agg (c32 oq.k oq.i ⟨oq.ao, oq.l.length, oq.cap⟩), .int .i64 ((j : Nat) : Int), .bool false, .pointer (some ⟨g1, 2, none⟩), .slice oq.ao oq.l.length oq.cap, .pointer (some ⟨g1, 2, none⟩), .slice oq.ao oq.l.length oq.cap, .int .i64 ((oq.l.length : Nat) : Int), .int .i64 ((lb.length : Nat) : Int), .slice oq.ao lb.length oq.cap, .pointer (some ⟨g1, 2, none⟩), .pointer (some ⟨g1, 0, none⟩), .int .i64 oq.k, .bool false, .bool false, us1 31, us1 32, us1 33, us1 34, us1 35, us1 36, us1 37, us1 38, us1 39, us1 40, us1 41, us1 42, us1 43, us1 44, us1 45, us1 46, us1 47, us1 48, us1 49, us1 50, us1 51, us1 52, us1 53, us1 54, us1 55, us1 56, us1 57, us1 58, us1 59, us1 60, us1 61, us1 62, .bool false, .bool false, us1 65, us1 66, us1 67, us1 68, us1 69, us1 70, us1 71, us1 72, us1 73, .bool false, .bool false, us1 76, us1 77, us1 78, us1 79, us1 80, us1 81, us1 82, us1 83, us1 84, .tuple #[.int .i64 ((k + 1 : Nat) : Int), .slice (some ⟨gl, 0, none⟩) rr.length rr.length], .pointer (some ⟨p, 0, none⟩), .tuple #[.int .i64 ((k + 1 : Nat) : Int), .slice (some ⟨gl, 0, none⟩) rr.length rr.length], .int .i64 ((k + 1 : Nat) : Int), .slice (some ⟨gl, 0, none⟩) rr.length rr.length, .tuple #[.int .i64 ((k + 1 : Nat) : Int), .slice (if sc = k then so else so.map (·.add ((k) * 1))) ((u.drop (k)).length) (sc - (k))], .pointer (some ⟨r, 0, none⟩), .tuple #[.int .i64 ((k + 1 : Nat) : Int), .slice (if sc = k then so else so.map (·.add ((k) * 1))) ((u.drop (k)).length) (sc - (k))], .int .i64 ((k + 1 : Nat) : Int), .slice (if sc = k then so else so.map (·.add ((k) * 1))) ((u.drop (k)).length) (sc - (k)), .int .i64 ((k + 1 : Nat) : Int), .int .i64 ((k + 1 : Nat) : Int), .bool false, .bool false, .slice (some ⟨gl, 0, none⟩) rr.length rr.length, .slice (if sc = k then so else so.map (·.add ((k) * 1))) ((u.drop (k)).length) (sc - (k)), .bool true, .bool false, .bool false, .bool false, .pointer (some ⟨p, 0, none⟩), .int .i64 ((c : Nat) : Int), .pointer (some ⟨r, 0, none⟩), .pointer (some ⟨r, 0, none⟩), .pointer (some ⟨r, 2, none⟩), .int .i64 ((c : Nat) : Int), .bool false, .bool false, .slice (some ⟨gl, 0, none⟩) rr.length rr.length, .int .i64 ((rr.length : Nat) : Int), .int .i64 ((e3 : Nat) : Int), .bool true, .pointer (some ⟨gl, e3, none⟩), .slice (some ⟨zr.1, 0, none⟩) zr.2.length zr.2.length, .slice (some ⟨zr.1, 0, none⟩) zr.2.length zr.2.length, .int .i64 ((zr.2.length : Nat) : Int), .int .i64 ((e2 : Nat) : Int), us3 1, us3 2, us3 3, us3 4, us3 5, us3 6, us3 7, us3 8, us3 9, us2 17, us1 132].toArray, []⟩ ∧ e2 ≤ zr.2.length ∧ Gro w wv ∧ Gro w8 wv ∧ AV wv w8.heap.size gl rr) ?_ _ ⟨0, (fun kz => ([us2 1, us2 8, us2 9, us2 10, us2 11, us2 12, us2 13, us2 14, us2 15, us2 16] : List Value).getD kz undef), rfl, rfl, Nat.zero_le _, GG, GX, HV⟩
          clear GG GX HV
          rintro mz az wv ⟨e2, us3, rfl, rfl, he2, GG, GX, HV⟩
          refine wp_seq ?_
          refine wp_region_lit ?_
          obtain ⟨p7, hp7⟩ : ∃ p, decide (((e2 : Nat) : Int) < ((zr.2.length : Nat) : Int)) = p := ⟨_, rfl⟩
          refine s_val 139 rfl rfl (.bool p7) (run_lssT 3 _ _ _ rfl ((e2 : Nat) : Int) ((zr.2.length : Nat) : Int) rfl rfl p7 hp7 _) ?_
          refine nr ?_; intro U h; simp only [z0, z1] at h; subst h
          cases p7
          · refine wpList_nil ?_
            refine then_n ?_
            refine wp_seq ?_
            refine wp_cond_false rfl ?_
            refine wp_exit ?_
            refine then_x ?_
            refine then_x ?_
            refine blk_x ?_
            refine blk_n ?_
            refine then_n ?_
            refine wp_region_lit ?_
            refine s_val 148 rfl rfl (.int .i64 ((e3 + 1 : Nat) : Int)) (run_addI 3 _ _ _ rfl ((e3 : Nat) : Int) 1 ((e3 + 1 : Nat) : Int) rfl rfl (by omega) (by omega) (by omega) _) ?_
            refine nr ?_; intro U h; simp only [z0, z1] at h; subst h
            refine s_val 132 rfl rfl (.int .i64 ((e3 + 1 : Nat) : Int)) (rfl) ?_
            refine nr ?_; intro U h; simp only [z0, z1] at h; subst h
            refine wpList_nil ?_
            refine then_n ?_
            exact ⟨_, (by omega : rr.length - (e3 + 1) < rr.length - e3), e3 + 1, (fun kz => ([.slice (some ⟨zr.1, 0, none⟩) zr.2.length zr.2.length, us3 0, .bool true, .pointer (some ⟨gl, e3, none⟩), .slice (some ⟨zr.1, 0, none⟩) zr.2.length zr.2.length, .slice (some ⟨zr.1, 0, none⟩) zr.2.length zr.2.length, .int .i64 ((zr.2.length : Nat) : Int), .int .i64 ((e2 : Nat) : Int), .bool false, us3 2, us3 3, us3 4, us3 5, us3 6, us3 7, us3 8, us3 9, .int .i64 ((e3 + 1 : Nat) : Int)] : List Value).getD kz undef), rfl, rfl, he3n, GG, GX, HV⟩
          have he2n : e2 < zr.2.length := by have := of_decide_eq_true hp7; omega
          obtain ⟨hz0, l1, hl1, kz, hb1⟩ := HV.fr zr hzm
          refine wpList_nil ?_
          refine then_n ?_
          refine wp_seq ?_
          refine wp_cond_true rfl ?_
          refine wp_skip ?_
          refine then_n ?_
          refine wp_seq ?_
          refine wp_block ?_
          refine wp_seq ?_
          refine wp_region_lit ?_
          refine s_val 140 rfl rfl (.int .i64 ((e2 : Nat) : Int)) (rfl) ?_
          refine nr ?_; intro U h; simp only [z0, z1] at h; subst h
          refine s_val 17 rfl rfl (.int .i64 ((e2 : Nat) : Int)) (rfl) ?_
          refine nr ?_; intro U h; simp only [z0, z1] at h; subst h
          refine wpList_nil ?_
          refine then_n ?_
          refine wp_region_lit ?_
          refine s_val 141 rfl rfl (.slice (some ⟨zr.1, 0, none⟩) zr.2.length zr.2.length) (rfl) ?_
          refine nr ?_; intro U h; simp only [z0, z1] at h; subst h
          refine s_val 142 rfl rfl (.int .i64 ((e2 : Nat) : Int)) (rfl) ?_
          refine nr ?_; intro U h; simp only [z0, z1] at h; subst h
          refine s_val 143 rfl rfl (.pointer (some ⟨zr.1, e2, none⟩)) (bat _ _ rfl zr.1 zr.2.length zr.2.length e2 rfl rfl he2n _) ?_
          refine nr ?_; intro U h; simp only [z0, z1] at h; subst h
          refine s_val 144 rfl rfl (.int .u8 ((l1.getD e2 0 : Nat) : Int)) (run_ld bT _ rfl ⟨zr.1, e2, none⟩ rfl _ _ (bvc kz (by omega))) ?_
          refine nr ?_; intro U h; simp only [z0, z1] at h; subst h
          refine s_val 145 rfl rfl (.int .u8 ((inc8 (l1.getD e2 0) : Nat) : Int)) (run_inc8 _ _ _ rfl (l1.getD e2 0) rfl rfl _) ?_
          refine nr ?_; intro U h; simp only [z0, z1] at h; subst h
          refine s_val 146 rfl rfl (.pointer (some ⟨zr.1, e2, none⟩)) (bat _ _ rfl zr.1 zr.2.length zr.2.length e2 rfl rfl he2n _) ?_
          refine nr ?_; intro U h; simp only [z0, z1] at h; subst h
          refine s_store rfl rfl 5 _ _ rfl zr.1 e2 rfl (.int .u8 ((inc8 (l1.getD e2 0) : Nat) : Int)) rfl 5 _ kz #[.int .u8 ((inc8 (l1.getD e2 0) : Nat) : Int)] rfl si5 (by rw [bv_size]; simp only [List.size_toArray, List.length_cons, List.length_nil]; omega) (one1 _) _ (bv_set l1 e2 _ (by omega)) ?_
          intro w12 St
          replace GG := GG.store St (by omega)
          replace GX := GX.store St hz0
          replace HV := HV.st kz St (by simp) (set_byte hb1 _ _ (inc8_lt _))
          clear St kz
          refine wpList_nil ?_
          refine blk_n ?_
          refine then_n ?_
          refine wp_region_lit ?_
          refine s_val 147 rfl rfl (.int .i64 ((e2 + 1 : Nat) : Int)) (run_addI 3 _ _ _ rfl ((e2 : Nat) : Int) 1 ((e2 + 1 : Nat) : Int) rfl rfl (by omega) (by omega) (by omega) _) ?_
          refine nr ?_; intro U h; simp only [z0, z1] at h; subst h
          refine s_val 138 rfl rfl (.int .i64 ((e2 + 1 : Nat) : Int)) (rfl) ?_
          refine nr ?_; intro U h; simp only [z0, z1] at h; subst h
          refine wpList_nil ?_
          refine then_n ?_
          exact ⟨_, (by omega : zr.2.length - (e2 + 1) < zr.2.length - e2), e2 + 1, (fun kz => ([.int .i64 ((e2 : Nat) : Int), .bool true, .int .i64 ((e2 : Nat) : Int), .slice (some ⟨zr.1, 0, none⟩) zr.2.length zr.2.length, .int .i64 ((e2 : Nat) : Int), .pointer (some ⟨zr.1, e2, none⟩), .int .u8 ((l1.getD e2 0 : Nat) : Int), .int .u8 ((inc8 (l1.getD e2 0) : Nat) : Int), .pointer (some ⟨zr.1, e2, none⟩), .int .i64 ((e2 + 1 : Nat) : Int)] : List Value).getD kz undef), rfl, rfl, he2n, GG, GX, HV⟩
        refine s_val 91 rfl rfl (.bool true) (rfl) ?_
        refine nr ?_; intro U h; simp only [z0, z1] at h; subst h
        refine wpList_nil ?_
        refine then_n ?_
        refine wp_cond_true rfl ?_
        refine wp_seq ?_
        by_cases h3 : oq.i = ((c + 1 : Nat) : Int)
        · rw [h3] at kg1
          refine wp_region_pg (A := ?Ag2) [p] 7 [(0, 93), (1, 94), (2, 95), (3, 96), (4, 97), (5, 98), (6, 99)] [.val (.pointer (some ⟨p, 0, none⟩)), .val (.pointer (some ⟨g1, 1, none⟩)), .val (.int .i64 ((c + 1 : Nat) : Int)), cmE p w.heap.size ro rc q k c, .val (.pointer (some ⟨r, 0, none⟩)), .val (.pointer (some ⟨g1, 1, none⟩)), .val (.int .i64 ((c + 1 : Nat) : Int))] 3 follows (by kernel_rfl) rfl (by decide) (fun j hj hne v a b _ hb hp => match j, hj, hne, hp with | 0, _, _, hp => hp | 1, _, _, hp => hp | 2, _, _, hp => hp | 3, _, hne, _ => absurd rfl hne | 4, _, _, hp => hp | 5, _, _, hp => hp | 6, _, _, hp => hp | m + 7, hj, _, _ => absurd hj (by omega)) ?hAg2 (opsG_a (by decide) ?o0g2 (opsG_a (by decide) ?o1g2 (opsG_a (by decide) ?o2g2 (opsG_e ?o3g2 (opsG_a (by decide) ?o4g2 (opsG_a (by decide) ?o5g2 (opsG_a (by decide) ?o6g2 opsG_nil))))))) ?restg2
          case hAg2 =>
            intro ptrs
            simp only [full, foldSlots, filledE, postE, List.foldl_cons, List.foldl_nil, List.getD_cons_zero, List.getD_cons_succ, fill_val, fill_cm,  List.set_cons_zero, List.set_cons_succ]
            exact rfl
          case o0g2 => exact fun _ _ _ _ => opE_move (v := .pointer (some ⟨p, 0, none⟩)) _ rfl rfl rfl
          case o1g2 => exact fun _ _ hw _ => opE_value (v := .pointer (some ⟨g1, 1, none⟩)) rfl (run_fld 32 _ 1 rfl _ _ rfl _ (by kernel_rfl))
          case o2g2 => exact fun _ _ hw _ => opE_value (v := .int .i64 ((c + 1 : Nat) : Int)) rfl (run_ldc 2 _ rfl g1 1 rfl 32 _ (hw.has kg1 (fun h => by cases List.mem_singleton.1 h; exact ne_type kg1 HP.box (by decide) rfl)) (na2 _) _ rfl)
          case o3g2 =>
            intro ptrs x9 hw hE
            have G := (Gro.refl _).drew.trans hw
            exact opX_call (cmE p w.heap.size ro rc q k c) rfl _ 13 Try.call13 rfl rfl _ rfl [.pointer (some ⟨p, 0, none⟩), .int .i64 ((c + 1 : Nat) : Int)] rfl ((came_ok _ p w.heap.size ro rc q k c (HP.gro G) (by omega) (by omega) _ (by omega)).mono fun e w' ⟨he, G2, HP2⟩ => ⟨_, he, G2, rfl, HP2⟩)
          case o4g2 => exact fun _ _ _ _ => opE_move (v := .pointer (some ⟨r, 0, none⟩)) _ rfl rfl rfl
          case o5g2 => exact fun _ _ hw _ => opE_value (v := .pointer (some ⟨g1, 1, none⟩)) rfl (run_fld 32 _ 1 rfl _ _ rfl _ (by kernel_rfl))
          case o6g2 => exact fun _ _ hw _ => opE_value (v := .int .i64 ((c + 1 : Nat) : Int)) rfl (run_ldc 2 _ rfl g1 1 rfl 32 _ (hw.has kg1 (fun h => by cases List.mem_singleton.1 h; exact ne_type kg1 HP.box (by decide) rfl)) (na2 _) _ rfl)
          intro ptrs w9 GS hxE
          simp only [List.drop_succ_cons, List.drop_zero]
          obtain ⟨⟨hv, HP2⟩, _⟩ := hxE
          simp only [hv]
          replace GS := (GroS.refl _ _).drew.trans GS
          replace kg1 := GS.has kg1 (fun h => by cases List.mem_singleton.1 h; exact ne_type kg1 HP.box (by decide) rfl)
          replace HR := HR.other1 HP (by decide) GS
          replace GG := GS.gro GG (by simpa using bp)
          clear GS HP hv
          have HP := HP2
          clear HP2
          refine s_callx 100 rfl rfl _ 14 Try.call14 rfl rfl _ rfl [.pointer (some ⟨r, 0, none⟩), .int .i64 ((c + 1 : Nat) : Int)] rfl (rcame_ok _ r w.heap.size so sc u k c HR (by omega) (by omega) (by omega)) (fun _ _ ⟨he, _⟩ => ⟨_, he⟩) ?_
          rintro v w10 ⟨he, G, HR2⟩
          cases he
          replace kg1 := G.has kg1 (fun h => by cases List.mem_singleton.1 h; exact ne_type kg1 HR.box (by decide) rfl)
          replace HP := HP.other1 HR (by decide) G
          replace GG := G.gro GG (by simpa using br)
          clear G HR
          have HR := HR2
          clear HR2
          have hqu2 := hqu
          have hkq2 := hkq
          have huj2 : u.length ≤ j + 1 := by omega
          have hcj2 : c + 1 ≤ j + 1 := by omega
          refine nr ?_; intro U h; simp only [z0, z1] at h; subst h
          refine s_val 101 rfl rfl (.bool false) (run_neB 4 _ _ _ rfl true true rfl rfl Try.underlying4 false (decide_eq_true rfl) _) ?_
          refine nr ?_; intro U h; simp only [z0, z1] at h; subst h
          refine wpList_nil ?_
          refine then_n ?_
          refine wp_cond_false rfl ?_
          refine wp_skip ?_
          refine blk_n ?_
          refine then_n ?_
          refine wp_seq ?_
          refine wp_region_lit ?_
          refine s_val 103 rfl rfl (.pointer (some ⟨p, 0, none⟩)) (rfl) ?_
          refine nr ?_; intro U h; simp only [z0, z1] at h; subst h
          have HP0 := HP
          have HR0 := HR
          have GG0 := GG
          have GX := Gro.refl w10
          have hwx := GG0.size
          refine s_callx 104 rfl rfl _ 15 Try.call15 rfl rfl _ rfl [.pointer (some ⟨p, 0, none⟩)] rfl (waits_any _ p w.heap.size ro rc q (k) (c + 1) HP (by omega) (by omega)) (fun _ _ ⟨_, _, he, _⟩ => ⟨_, he⟩) ?_
          rintro v w11 ⟨gl, rr, he, G, hr, HL⟩
          cases he
          have hrl : rr.length = q.length := by have := congrArg List.length hr; simpa using this
          have hzs : ∀ z ∈ rr, z.2.length ≤ 140737488355000 := fun z hz => by have h1 : z.2 ∈ q.map (·.l) := hr ▸ List.mem_map_of_mem hz; obtain ⟨x, hx, e⟩ := List.mem_map.1 h1; rw [← e]; exact HP0.sm x hx
          replace HP := HP.gro G
          replace HR := HR.gro G
          replace GX := GX.gro G
          replace GG := GG.trans G
          clear G
          refine nr ?_; intro U h; simp only [z0, z1] at h; subst h
          refine s_val 102 rfl rfl (.tuple #[.int .i64 ((k + 1 : Nat) : Int), .slice (some ⟨gl, 0, none⟩) rr.length rr.length]) (rfl) ?_
          refine nr ?_; intro U h; simp only [z0, z1] at h; subst h
          refine s_val 105 rfl rfl (.int .i64 ((k + 1 : Nat) : Int)) (rfl) ?_
          refine nr ?_; intro U h; simp only [z0, z1] at h; subst h
          refine s_val 106 rfl rfl (.slice (some ⟨gl, 0, none⟩) rr.length rr.length) (rfl) ?_
          refine nr ?_; intro U h; simp only [z0, z1] at h; subst h
          refine s_val 11 rfl rfl (.int .i64 ((k + 1 : Nat) : Int)) (rfl) ?_
          refine nr ?_; intro U h; simp only [z0, z1] at h; subst h
          refine s_val 12 rfl rfl (.slice (some ⟨gl, 0, none⟩) rr.length rr.length) (rfl) ?_
          refine nr ?_; intro U h; simp only [z0, z1] at h; subst h
          refine wpList_nil ?_
          refine then_n ?_
          refine wp_seq ?_
          refine wp_region_lit ?_
          refine s_val 108 rfl rfl (.pointer (some ⟨r, 0, none⟩)) (rfl) ?_
          refine nr ?_; intro U h; simp only [z0, z1] at h; subst h
          refine s_callv 109 rfl rfl _ 16 Try.call16 rfl rfl _ rfl [.pointer (some ⟨r, 0, none⟩)] rfl (rwaits_any _ r w.heap.size so sc u (k) (c + 1) HR (by omega) (by omega) (by omega)) ?_
          intro w12 G
          replace HP := HP.gro G
          replace HR := HR.gro G
          replace GX := GX.gro G
          replace HL := HL.gro G
          replace GG := GG.trans G
          clear G
          refine nr ?_; intro U h; simp only [z0, z1] at h; subst h
          refine s_val 107 rfl rfl (.tuple #[.int .i64 ((k + 1 : Nat) : Int), .slice (if sc = k then so else so.map (·.add ((k) * 1))) ((u.drop (k)).length) (sc - (k))]) (rfl) ?_
          refine nr ?_; intro U h; simp only [z0, z1] at h; subst h
          refine s_val 110 rfl rfl (.int .i64 ((k + 1 : Nat) : Int)) (rfl) ?_
          refine nr ?_; intro U h; simp only [z0, z1] at h; subst h
          refine s_val 111 rfl rfl (.slice (if sc = k then so else so.map (·.add ((k) * 1))) ((u.drop (k)).length) (sc - (k))) (rfl) ?_
          refine nr ?_; intro U h; simp only [z0, z1] at h; subst h
          refine s_val 13 rfl rfl (.int .i64 ((k + 1 : Nat) : Int)) (rfl) ?_
          refine nr ?_; intro U h; simp only [z0, z1] at h; subst h
          refine s_val 14 rfl rfl (.slice (if sc = k then so else so.map (·.add ((k) * 1))) ((u.drop (k)).length) (sc - (k))) (rfl) ?_
          refine nr ?_; intro U h; simp only [z0, z1] at h; subst h
          refine wpList_nil ?_
          refine then_n ?_
          refine wp_seq ?_
          refine wp_seq ?_
          have kr := HR.box
          refine wp_region_exA (A := ?Ax3) 16 [(0, 112), (1, 113), (2, 114), (3, 115), (4, 116), (5, 117), (6, 118), (7, 119), (8, 120), (9, 121), (10, 122), (11, 123), (12, 124), (13, 125), (14, 126), (15, 127)] [.val (.int .i64 ((k + 1 : Nat) : Int)), .val (.int .i64 ((k + 1 : Nat) : Int)), .val (.bool false), .val (.bool false), .val (.slice (some ⟨gl, 0, none⟩) rr.length rr.length), .val (.slice (if sc = k then so else so.map (·.add ((k) * 1))) ((u.drop (k)).length) (sc - (k))), .val (.bool true), .val (.bool false), .val (.bool false), .val (.bool false), .val (.pointer (some ⟨p, 0, none⟩)), .val (.int .i64 ((c + 1 : Nat) : Int)), .val (.pointer (some ⟨r, 0, none⟩)), .val (.pointer (some ⟨r, 0, none⟩)), .val (.pointer (some ⟨r, 2, none⟩)), .val (.int .i64 ((c + 1 : Nat) : Int))] follows (by kernel_rfl) rfl ?hAx3 (opsA_cons ?o0x3 (opsA_cons ?o1x3 (opsA_cons ?o2x3 (opsA_cons ?o3x3 (opsA_cons ?o4x3 (opsA_cons ?o5x3 (opsA_cons ?o6x3 (opsA_cons ?o7x3 (opsA_cons ?o8x3 (opsA_cons ?o9x3 (opsA_cons ?o10x3 (opsA_cons ?o11x3 (opsA_cons ?o12x3 (opsA_cons ?o13x3 (opsA_cons ?o14x3 (opsA_cons ?o15x3 opsA_nil)))))))))))))))) ?restx3
          case hAx3 =>
            intro ptrs
            simp only [full, foldSlots, filledE, postE, List.foldl_cons, List.foldl_nil, List.getD_cons_zero, List.getD_cons_succ, fill_val, List.set_cons_zero, List.set_cons_succ]
            exact rfl
          case o0x3 => exact fun _ _ _ _ => opE_move (v := .int .i64 ((k + 1 : Nat) : Int)) _ rfl rfl rfl
          case o1x3 => exact fun _ _ _ _ => opE_move (v := .int .i64 ((k + 1 : Nat) : Int)) _ rfl rfl rfl
          case o2x3 => exact fun _ _ hw _ => opE_value (v := .bool false) rfl (run_neq_k 2 .i64 _ _ _ rfl Try.underlying2 ((k + 1 : Nat) : Int) ((k + 1 : Nat) : Int) rfl rfl false (decide_eq_true rfl) _)
          case o3x3 => exact fun _ _ _ _ => opE_move (v := .bool false) _ rfl rfl rfl
          case o4x3 => exact fun _ _ _ _ => opE_move (v := .slice (some ⟨gl, 0, none⟩) rr.length rr.length) _ rfl rfl rfl
          case o5x3 => exact fun _ _ _ _ => opE_move (v := .slice (if sc = k then so else so.map (·.add ((k) * 1))) ((u.drop (k)).length) (sc - (k))) _ rfl rfl rfl
          case o6x3 => exact fun _ _ hw _ => opE_call (.val (.bool true)) rfl _ 17 Try.call17 rfl rfl _ rfl [.slice (some ⟨gl, 0, none⟩) rr.length rr.length, .slice (if sc = k then so else so.map (·.add ((k) * 1))) ((u.drop (k)).length) (sc - (k))] rfl ((sameAll_t _ (some ⟨gl, 0, none⟩) rr.length _ (HL.gro ((Gro.refl _).drew.trans hw)).lc _ _ _ ((HR.gro ((Gro.refl _).drew.trans hw)).lcd (k) (by omega)) rr.length _ (by simp) (by simp) (by omega) (hr.trans hqu2)).mono fun e w' ⟨he, hg⟩ => ⟨_, he, hg, rfl⟩)
          case o7x3 => exact fun _ _ hw _ => opE_value (v := .bool false) rfl (run_nt _ _ rfl true rfl)
          case o8x3 => exact fun _ _ _ _ => opE_pick (v := .bool false) _ _ _ rfl rfl false rfl rfl
          case o9x3 => exact fun _ _ _ _ => opE_move (v := .bool false) _ rfl rfl rfl
          case o10x3 => exact fun _ _ _ _ => opE_move (v := .pointer (some ⟨p, 0, none⟩)) _ rfl rfl rfl
          case o11x3 => exact fun _ _ hw _ => opE_call (.val (.int .i64 ((c + 1 : Nat) : Int))) rfl _ 18 Try.call18 rfl rfl _ rfl [.pointer (some ⟨p, 0, none⟩)] rfl ((got_any _ p w.heap.size ro rc q (k) (c + 1) (HP.gro ((Gro.refl _).drew.trans hw)) (by omega) (by omega)).mono fun e w' ⟨he, hg⟩ => ⟨_, he, hg, rfl⟩)
          case o12x3 => exact fun _ _ _ _ => opE_move (v := .pointer (some ⟨r, 0, none⟩)) _ rfl rfl rfl
          case o13x3 => exact fun _ _ hw _ => opE_value (v := .pointer (some ⟨r, 0, none⟩)) rfl (run_nc _ rfl _ rfl)
          case o14x3 => exact fun _ _ hw _ => opE_value (v := .pointer (some ⟨r, 2, none⟩)) rfl (run_fld 28 _ 2 rfl _ _ rfl _ (by kernel_rfl))
          case o15x3 => exact fun _ _ hw _ => opE_value (v := .int .i64 ((c + 1 : Nat) : Int)) rfl (run_ldc 2 _ rfl r 2 rfl 28 _ (hw.has kr) (na2 _) _ rfl)
          intro ptrs w13 GD hxE
          simp only [List.drop_succ_cons, List.drop_zero]
          replace GX := GX.gro ((Gro.refl _).drew.trans GD)
          replace HL := HL.gro ((Gro.refl _).drew.trans GD)
          replace GG := GG.drew.trans GD
          clear kr HP HR
          have HV := HL.av
          clear HL
          clear GD
          refine s_gval 128 rfl rfl (.bool false) (run_neq_k 2 .i64 _ _ _ rfl Try.underlying2 ((c + 1 : Nat) : Int) ((c + 1 : Nat) : Int) rfl rfl false (decide_eq_true rfl) _) ?_
          refine nr ?_; intro U h; simp only [z0, z1] at h; subst h
          refine s_val 129 rfl rfl (.bool false) (rfl) ?_
          refine nr ?_; intro U h; simp only [z0, z1] at h; subst h
          refine wpList_nil ?_
          refine then_n ?_
          refine wp_cond_false rfl ?_
          refine wp_skip ?_
          refine then_n ?_
          refine wp_seq ?_
          refine wp_region_lit ?_
          refine s_val 130 rfl rfl (.slice (some ⟨gl, 0, none⟩) rr.length rr.length) (rfl) ?_
          refine nr ?_; intro U h; simp only [z0, z1] at h; subst h
          refine s_val 131 rfl rfl (.int .i64 ((rr.length : Nat) : Int)) (run_len Try.underlying26 _ rfl _ _ _ rfl _) ?_
          refine nr ?_; intro U h; simp only [z0, z1] at h; subst h
          refine s_val 132 rfl rfl (.int .i64 0) (rfl) ?_
          refine nr ?_; intro U h; simp only [z0, z1] at h; subst h
          refine wpList_nil ?_
          refine then_n ?_
          refine wp_block ?_
          have hrr : rr.length ≤ 1000 := by omega
          refine wp_loopN (fun mz az wv => ∃ (e3 : Nat) (us2 : Nat → Value), mz = rr.length - e3 ∧ az = ⟨[.slice ao os.length cap, undef, us1 0, .pointer (some ⟨p, 0, none⟩), .pointer (some ⟨r, 0, none⟩), .int .i64 ((j : Nat) : Int), .pointer (some ⟨g1, 0, none⟩), us1 3, us1 4, us1 5, us1 6, .int .i64 ((k + 1 : Nat) : Int), .slice (some ⟨gl, 0, none⟩) rr.length rr.length, .int .i64 ((k + 1 : Nat) : Int), .slice (if sc = k then so else so.map (·.add ((k) * 1))) ((u.drop (k)).length) (sc - (k)), undef, us2 0, us2 1, .pointer (some ⟨p, 0, none⟩), .agg (c28 Sl.nil 0 0), .pointer (some ⟨r, 0, none⟩), .pointer (some ⟨p, 0, none⟩), .bool false, .bool false, .bool true, .bool false, .bool false, .slice ao os.length cap, .int .i64 ((os.length : Nat) : Int), .int .i64 ((j : Nat) : Int), .bool true, .int .i64 ((j : Nat) : Int), .pointer (some (ad.add (j * 3))), .agg (c32 oq.k oq.i ⟨oq.ao, oq.l.length, oq.cap⟩), .int .i64 ((j : Nat) : Int), .bool false, .pointer (some ⟨g1, 2, none⟩), .slice oq.ao oq.l.length oq.cap, .pointer (some ⟨g1, 2, none⟩), .slice oq.ao oq.l.length oq.cap, .int .i64 ((oq.l.length : Nat) : Int), .int .i64 ((lb.length : Nat) : Int), .slice oq.ao lb.length oq.cap, .pointer (some ⟨g1, 2, none⟩), .pointer (some ⟨g1, 0, none⟩), .int .i64 oq.k, .bool false, .bool false, us1 31, us1 32, us1 33, us1 34, us1 35, us1 36, us1 37, us1 38, us1 39, us1 40, us1 41, us1 42, us1 43, us1 44, us1 45, us1 46, us1 47, us1 48, us1 49, us1 50, us1 51, us1 52, us1 53, us1 54, us1 55, us1 56, us1 57, us1 58, us1 59, us1 60, us1 61, us1 62, .bool false, .bool false, us1 65, us1 66, us1 67, us1 68, us1 69, us1 70, us1 71, us1 72, us1 73, .bool true, .bool true, .pointer (some ⟨p, 0, none⟩), .pointer (some ⟨g1, 1, none⟩), .int .i64 ((c + 1 : Nat) : Int), .bool true, .pointer (some ⟨r, 0, none⟩), .pointer (some ⟨g1, 1, none⟩), .int .i64 ((c + 1 : Nat) : Int), .bool true, .bool false, .tuple #[.int .i64 ((k + 1 : Nat) : Int), .slice (some ⟨gl, 0, none⟩) rr.length rr.length], .pointer (some ⟨p, 0, none⟩), .tuple #[.int .i64 ((k + 1 : Nat) : Int), .slice (some ⟨gl, 0, none⟩) rr.length rr.length], .int .i64 ((k + 1 : Nat) : Int), .slice (some ⟨gl, 0, none⟩) rr.length rr.length, .tuple #[.int .i64 ((k + 1 : Nat) : Int), .slice (if sc = k then so else so.map (·.add ((k) * 1))) ((u.drop (k)).length) (sc - (k))], .pointer (some ⟨r, 0, none⟩), .tuple #[.int .i64 ((k + 1 : Nat) : Int), .slice (if sc = k then so else so.map (·.add ((k) * 1))) ((u.drop (k)).length) (sc - (k))], .int .i64 ((k + 1 : Nat) : Int), .slice (if sc = k then so else so.map (·.add ((k) * 1))) ((u.drop (k)).length) (sc - (k)), .int .i64 ((k + 1 : Nat) : Int), .int .i64 ((k + 1 : Nat) : Int), .bool false, .bool false, .slice (some ⟨gl, 0, none⟩) rr.length rr.length, .slice (if sc = k then so else so.map (·.add ((k) * 1))) ((u.drop (k)).length) (sc - (k)), .bool true, .bool false, .bool false, .bool false, .pointer (some ⟨p, 0, none⟩), .int .i64 ((c + 1 : Nat) : Int), .pointer (some ⟨r, 0, none⟩), .pointer (some ⟨r, 0, none⟩), .pointer (some ⟨r, 2, none⟩), .int .i64 ((c + 1 : Nat) : Int), .bool false, .bool false, .slice (some ⟨gl, 0, none⟩) rr.length rr.length, .int .i64 ((rr.length : Nat) : Int), .int .i64 ((e3 : Nat) : Int), us2 2, us2 3, us2 4, us2 5, us2 6, us2 7, us2 8, us2 9, us2 10, us2 11, us2 12, us2 13, us2 14, us2 15, us2 16, us2 17, us1 132].toArray, []⟩ ∧ e3 ≤ rr.length ∧ Gro w wv ∧ Gro w10 wv ∧ AV wv w10.heap.size gl rr) ?_ _ ⟨0, (fun kz => ([us1 11, us1 12, us1 116, us1 117, us1 118, us1 119, us1 120, us1 121, us1 122, us1 123, us1 124, us1 125, us1 126, us1 127, us1 128, us1 129, us1 130, us1 131] : List Value).getD kz undef), rfl, rfl, Nat.zero_le _, GG, GX, HV⟩
          clear GG GX HV
          rintro mz az wv ⟨e3, us2, rfl, rfl, he3, GG, GX, HV⟩
          refine wp_seq ?_
          refine wp_region_lit ?_
          obtain ⟨p6, hp6⟩ : ∃ p, decide (((e3 : Nat) : Int) < ((rr.length : Nat) : Int)) = p := ⟨_, rfl⟩
          refine s_val 133 rfl rfl (.bool p6) (run_lssT 3 _ _ _ rfl ((e3 : Nat) : Int) ((rr.length : Nat) : Int) rfl rfl p6 hp6 _) ?_
          refine nr ?_; intro U h; simp only [z0, z1] at h; subst h
          cases p6
          · have HP := HP0.gro GX
            have HR := HR0.gro GX
            refine wpList_nil ?_
            refine then_n ?_
            refine wp_seq ?_
            refine wp_cond_false rfl ?_
            refine wp_exit ?_
            refine then_x ?_
            refine then_x ?_
            refine blk_x ?_
            refine blk_n ?_
            refine then_n ?_
            refine wp_region_lit ?_
            refine s_val 149 rfl rfl (.int .i64 ((j + 1 : Nat) : Int)) (run_addI 3 _ _ _ rfl ((j : Nat) : Int) 1 ((j + 1 : Nat) : Int) rfl rfl (by omega) (by omega) (by omega) _) ?_
            refine nr ?_; intro U h; simp only [z0, z1] at h; subst h
            refine s_val 29 rfl rfl (.int .i64 ((j + 1 : Nat) : Int)) (rfl) ?_
            refine nr ?_; intro U h; simp only [z0, z1] at h; subst h
            refine wpList_nil ?_
            refine then_n ?_
            exact ⟨_, (by omega : os.length - (j + 1) < os.length - j), j + 1, ro, rc, q, so, sc, u, k, c + 1, (fun kz => ([us1 0, .int .i64 ((j : Nat) : Int), .pointer (some ⟨g1, 0, none⟩), us1 3, us1 4, us1 5, us1 6, .int .i64 ((k + 1 : Nat) : Int), .slice (some ⟨gl, 0, none⟩) rr.length rr.length, .int .i64 ((k + 1 : Nat) : Int), .slice (if sc = k then so else so.map (·.add ((k) * 1))) ((u.drop (k)).length) (sc - (k)), us2 0, us2 1, .bool true, .int .i64 ((j : Nat) : Int), .pointer (some (ad.add (j * 3))), .agg (c32 oq.k oq.i ⟨oq.ao, oq.l.length, oq.cap⟩), .int .i64 ((j : Nat) : Int), .bool false, .pointer (some ⟨g1, 2, none⟩), .slice oq.ao oq.l.length oq.cap, .pointer (some ⟨g1, 2, none⟩), .slice oq.ao oq.l.length oq.cap, .int .i64 ((oq.l.length : Nat) : Int), .int .i64 ((lb.length : Nat) : Int), .slice oq.ao lb.length oq.cap, .pointer (some ⟨g1, 2, none⟩), .pointer (some ⟨g1, 0, none⟩), .int .i64 oq.k, .bool false, .bool false, us1 31, us1 32, us1 33, us1 34, us1 35, us1 36, us1 37, us1 38, us1 39, us1 40, us1 41, us1 42, us1 43, us1 44, us1 45, us1 46, us1 47, us1 48, us1 49, us1 50, us1 51, us1 52, us1 53, us1 54, us1 55, us1 56, us1 57, us1 58, us1 59, us1 60, us1 61, us1 62, .bool false, .bool false, us1 65, us1 66, us1 67, us1 68, us1 69, us1 70, us1 71, us1 72, us1 73, .bool true, .bool true, .pointer (some ⟨p, 0, none⟩), .pointer (some ⟨g1, 1, none⟩), .int .i64 ((c + 1 : Nat) : Int), .bool true, .pointer (some ⟨r, 0, none⟩), .pointer (some ⟨g1, 1, none⟩), .int .i64 ((c + 1 : Nat) : Int), .bool true, .bool false, .tuple #[.int .i64 ((k + 1 : Nat) : Int), .slice (some ⟨gl, 0, none⟩) rr.length rr.length], .pointer (some ⟨p, 0, none⟩), .tuple #[.int .i64 ((k + 1 : Nat) : Int), .slice (some ⟨gl, 0, none⟩) rr.length rr.length], .int .i64 ((k + 1 : Nat) : Int), .slice (some ⟨gl, 0, none⟩) rr.length rr.length, .tuple #[.int .i64 ((k + 1 : Nat) : Int), .slice (if sc = k then so else so.map (·.add ((k) * 1))) ((u.drop (k)).length) (sc - (k))], .pointer (some ⟨r, 0, none⟩), .tuple #[.int .i64 ((k + 1 : Nat) : Int), .slice (if sc = k then so else so.map (·.add ((k) * 1))) ((u.drop (k)).length) (sc - (k))], .int .i64 ((k + 1 : Nat) : Int), .slice (if sc = k then so else so.map (·.add ((k) * 1))) ((u.drop (k)).length) (sc - (k)), .int .i64 ((k + 1 : Nat) : Int), .int .i64 ((k + 1 : Nat) : Int), .bool false, .bool false, .slice (some ⟨gl, 0, none⟩) rr.length rr.length, .slice (if sc = k then so else so.map (·.add ((k) * 1))) ((u.drop (k)).length) (sc - (k)), .bool true, .bool false, .bool false, .bool false, .pointer (some ⟨p, 0, none⟩), .int .i64 ((c + 1 : Nat) : Int), .pointer (some ⟨r, 0, none⟩), .pointer (some ⟨r, 0, none⟩), .pointer (some ⟨r, 2, none⟩), .int .i64 ((c + 1 : Nat) : Int), .bool false, .bool false, .slice (some ⟨gl, 0, none⟩) rr.length rr.length, .int .i64 ((rr.length : Nat) : Int), .int .i64 ((e3 : Nat) : Int), .bool false, us2 3, us2 4, us2 5, us2 6, us2 7, us2 8, us2 9, us2 10, us2 11, us2 12, us2 13, us2 14, us2 15, us2 16, us2 17, .int .i64 ((j + 1 : Nat) : Int)] : List Value).getD kz undef), rfl, rfl, hjn, (by omega), hkq2, huj2, hcj2, hqu2, hdis, GG, HP, HR⟩
          have he3n : e3 < rr.length := by have := of_decide_eq_true hp6; omega
          obtain ⟨zr, hzr⟩ : ∃ x, rr[e3]? = some x := ⟨_, List.getElem?_eq_getElem he3n⟩
          have hzm := List.mem_of_getElem? hzr
          refine wpList_nil ?_
          refine then_n ?_
          refine wp_seq ?_
          refine wp_cond_true rfl ?_
          refine wp_skip ?_
          refine then_n ?_
          refine wp_seq ?_
          refine wp_block ?_
          refine wp_seq ?_
          refine wp_region_lit ?_
          refine s_val 134 rfl rfl (.pointer (some ⟨gl, e3, none⟩)) (run_idxg _ _ rfl gl rr.length rr.length e3 rfl rfl he3n _) ?_
          refine nr ?_; intro U h; simp only [z0, z1] at h; subst h
          refine s_val 135 rfl rfl (.slice (some ⟨zr.1, 0, none⟩) zr.2.length zr.2.length) (run_ld24 _ rfl _ rfl _ _ (by exact HV.at hzr)) ?_
          refine nr ?_; intro U h; simp only [z0, z1] at h; subst h
          refine s_val 16 rfl rfl (.slice (some ⟨zr.1, 0, none⟩) zr.2.length zr.2.length) (rfl) ?_
          refine nr ?_; intro U h; simp only [z0, z1] at h; subst h
          refine wpList_nil ?_
          refine then_n ?_
          refine wp_seq ?_
          refine wp_region_lit ?_
          refine s_val 136 rfl rfl (.slice (some ⟨zr.1, 0, none⟩) zr.2.length zr.2.length) (rfl) ?_
          refine nr ?_; intro U h; simp only [z0, z1] at h; subst h
          refine s_val 137 rfl rfl (.int .i64 ((zr.2.length : Nat) : Int)) (run_len Try.underlying30 _ rfl _ _ _ rfl _) ?_
          refine nr ?_; intro U h; simp only [z0, z1] at h; subst h
          refine s_val 138 rfl rfl (.int .i64 0) (rfl) ?_
          refine nr ?_; intro U h; simp only [z0, z1] at h; subst h
          refine wpList_nil ?_
          refine then_n ?_
          refine wp_block ?_
          have hz9 := hzs zr hzm
          refine wp_loopN (fun mz az wv => ∃ (e2 : Nat) (us3 : Nat → Value), mz = zr.2.length - e2 ∧ az = ⟨[.slice ao os.length cap, undef, us1 0, .pointer (some ⟨p, 0, none⟩), .pointer (some ⟨r, 0, none⟩), .int .i64 ((j : Nat) : Int), .pointer (some ⟨g1, 0, none⟩), us1 3, us1 4, us1 5, us1 6, .int .i64 ((k + 1 : Nat) : Int), .slice (some ⟨gl, 0, none⟩) rr.length rr.length, .int .i64 ((k + 1 : Nat) : Int), .slice (if sc = k then so else so.map (·.add ((k) * 1))) ((u.drop (k)).length) (sc - (k)), undef, .slice (some ⟨zr.1, 0, none⟩) zr.2.length zr.2.length, us3 0, .pointer (some ⟨p, 0, none⟩), .agg (c28 Sl.nil 0 0), .pointer (some ⟨r, 0, none⟩), .pointer (some ⟨p, 0, none⟩), .bool false, .bool false, .bool true, .bool false, .bool false, .slice ao os.length cap, .int .i64 ((os.length : Nat) : Int), .int .i64 ((j : Nat) : Int), .bool true, .int .i64 ((j : Nat) : Int), .pointer (some (ad.add (j * 3))), .agg (c32 oq.k oq.i ⟨oq.ao, oq.l.length, oq.cap⟩), .int .i64 ((j : Nat) : Int), .bool false, .pointer (some ⟨g1, 2, none⟩), .slice oq.ao oq.l.length oq.cap, .pointer (some ⟨g1, 2, none⟩), .slice oq.ao oq.l.length oq.cap, .int .i64 ((oq.l.length : Nat) : Int), .int .i64 ((lb.length : Nat) : Int), .slice oq.ao lb.length oq.cap, .pointer (some ⟨g1, 2, none⟩), .pointer (some ⟨g1, 0, none⟩), .int .i64 oq.k, .bool false, .bool false, us1 31, us1 32, us1 33, us1 34, us1 35, us1 36, us1 37, us1 38, us1 39, us1 40, us1 41, us1 42, us1 43, us1 44, us1 45, us1 46, us1 47, us1 48, us1 49, us1 50, us1 51, us1 52, us1 53, us1 54, us1 55, us1 56, us1 57, us1 58, us1 59, us1 60, us1 61, us1 62, .bool false, .bool false, us1 65, us1 66, us1 67, us1 68, us1 69, us1 70, us1 71, us1 72, us1 73, .bool true, .bool true, .pointer (some ⟨p, 0, none⟩), .pointer (some ⟨g1, 1, none⟩), .int .i64 ((c + 1 : Nat) : Int), .bool true, .pointer (some ⟨r, 0, none⟩), .pointer (some ⟨g1, 1, none⟩), .int .i64 ((c + 1 : Nat) : Int), .bool true, .bool false, .tuple #[.int .i64 ((k + 1 : Nat) : Int), .slice (some ⟨gl, 0, none⟩) rr.length rr.length], .pointer (some ⟨p, 0, none⟩), .tuple #[.int .i64 ((k + 1 : Nat) : Int), .slice (some ⟨gl, 0, none⟩) rr.length rr.length], .int .i64 ((k + 1 : Nat) : Int), .slice (some ⟨gl, 0, none⟩) rr.length rr.length, .tuple #[.int .i64 ((k + 1 : Nat) : Int), .slice (if sc = k then so else so.map (·.add ((k) * 1))) ((u.drop (k)).length) (sc - (k))], .pointer (some ⟨r, 0, none⟩), .tuple #[.int .i64 ((k + 1 : Nat) : Int), .slice (if sc = k then so else so.map (·.add ((k) * 1))) ((u.drop (k)).length) (sc - (k))], .int .i64 ((k + 1 : Nat) : Int), .slice (if sc = k then so else so.map (·.add ((k) * 1))) ((u.drop (k)).length) (sc - (k)), .int .i64 ((k + 1 : Nat) : Int), .int .i64 ((k + 1 : Nat) : Int), .bool false, .bool false, .slice (some ⟨gl, 0, none⟩) rr.length rr.length, .slice (if sc = k then so else so.map (·.add ((k) * 1))) ((u.drop (k)).length) (sc - (k)), .bool true, .bool false, .bool false, .bool false, .pointer (some ⟨p, 0, none⟩), .int .i64 ((c + 1 : Nat) : Int), .pointer (some ⟨r, 0, none⟩), .pointer (some ⟨r, 0, none⟩), .pointer (some ⟨r, 2, none⟩), .int .i64 ((c + 1 : Nat) : Int), .bool false, .bool false, .slice (some ⟨gl, 0, none⟩) rr.length rr.length, .int .i64 ((rr.length : Nat) : Int), .int .i64 ((e3 : Nat) : Int), .bool true, .pointer (some ⟨gl, e3, none⟩), .slice (some ⟨zr.1, 0, none⟩) zr.2.length zr.2.length, .slice (some ⟨zr.1, 0, none⟩) zr.2.length zr.2.length, .int .i64 ((zr.2.length : Nat) : Int), .int .i64 ((e2 : Nat) : Int), us3 1, us3 2, us3 3, us3 4, us3 5, us3 6, us3 7, us3 8, us3 9, us2 17, us1 132].toArray, []⟩ ∧ e2 ≤ zr.2.length ∧ Gro w wv ∧ Gro w10 wv ∧ AV wv w10.heap.size gl rr) ?_ _ ⟨0, (fun kz => ([us2 1, us2 8, us2 9, us2 10, us2 11, us2 12, us2 13, us2 14, us2 15, us2 16] : List Value).getD kz undef), rfl, rfl, Nat.zero_le _, GG, GX, HV⟩
          clear GG GX HV
          rintro mz az wv ⟨e2, us3, rfl, rfl, he2, GG, GX, HV⟩
          refine wp_seq ?_
          refine wp_region_lit ?_
          obtain ⟨p7, hp7⟩ : ∃ p, decide (((e2 : Nat) : Int) < ((zr.2.length : Nat) : Int)) = p := ⟨_, rfl⟩
          refine s_val 139 rfl rfl (.bool p7) (run_lssT 3 _ _ _ rfl ((e2 : Nat) : Int) ((zr.2.length : Nat) : Int) rfl rfl p7 hp7 _) ?_
          refine nr ?_; intro U h; simp only [z0, z1] at h; subst h
          cases p7
          · refine wpList_nil ?_
            refine then_n ?_
            refine wp_seq ?_
            refine wp_cond_false rfl ?_
            refine wp_exit ?_
            refine then_x ?_
            refine then_x ?_
            refine blk_x ?_
            refine blk_n ?_
            refine then_n ?_
            refine wp_region_lit ?_
            refine s_val 148 rfl rfl (.int .i64 ((e3 + 1 : Nat) : Int)) (run_addI 3 _ _ _ rfl ((e3 : Nat) : Int) 1 ((e3 + 1 : Nat) : Int) rfl rfl (by omega) (by omega) (by omega) _) ?_
            refine nr ?_; intro U h; simp only [z0, z1] at h; subst h
            refine s_val 132 rfl rfl (.int .i64 ((e3 + 1 : Nat) : Int)) (rfl) ?_
            refine nr ?_; intro U h; simp only [z0, z1] at h; subst h
            refine wpList_nil ?_
            refine then_n ?_
            exact ⟨_, (by omega : rr.length - (e3 + 1) < rr.length - e3), e3 + 1, (fun kz => ([.slice (some ⟨zr.1, 0, none⟩) zr.2.length zr.2.length, us3 0, .bool true, .pointer (some ⟨gl, e3, none⟩), .slice (some ⟨zr.1, 0, none⟩) zr.2.length zr.2.length, .slice (some ⟨zr.1, 0, none⟩) zr.2.length zr.2.length, .int .i64 ((zr.2.length : Nat) : Int), .int .i64 ((e2 : Nat) : Int), .bool false, us3 2, us3 3, us3 4, us3 5, us3 6, us3 7, us3 8, us3 9, .int .i64 ((e3 + 1 : Nat) : Int)] : List Value).getD kz undef), rfl, rfl, he3n, GG, GX, HV⟩
          have he2n : e2 < zr.2.length := by have := of_decide_eq_true hp7; omega
          obtain ⟨hz0, l1, hl1, kz, hb1⟩ := HV.fr zr hzm
          refine wpList_nil ?_
          refine then_n ?_
          refine wp_seq ?_
          refine wp_cond_true rfl ?_
          refine wp_skip ?_
          refine then_n ?_
          refine wp_seq ?_
          refine wp_block ?_
          refine wp_seq ?_
          refine wp_region_lit ?_
          refine s_val 140 rfl rfl (.int .i64 ((e2 : Nat) : Int)) (rfl) ?_
          refine nr ?_; intro U h; simp only [z0, z1] at h; subst h
          refine s_val 17 rfl rfl (.int .i64 ((e2 : Nat) : Int)) (rfl) ?_
          refine nr ?_; intro U h; simp only [z0, z1] at h; subst h
          refine wpList_nil ?_
          refine then_n ?_
          refine wp_region_lit ?_
          refine s_val 141 rfl rfl (.slice (some ⟨zr.1, 0, none⟩) zr.2.length zr.2.length) (rfl) ?_
          refine nr ?_; intro U h; simp only [z0, z1] at h; subst h
          refine s_val 142 rfl rfl (.int .i64 ((e2 : Nat) : Int)) (rfl) ?_
          refine nr ?_; intro U h; simp only [z0, z1] at h; subst h
          refine s_val 143 rfl rfl (.pointer (some ⟨zr.1, e2, none⟩)) (bat _ _ rfl zr.1 zr.2.length zr.2.length e2 rfl rfl he2n _) ?_
          refine nr ?_; intro U h; simp only [z0, z1] at h; subst h
          refine s_val 144 rfl rfl (.int .u8 ((l1.getD e2 0 : Nat) : Int)) (run_ld bT _ rfl ⟨zr.1, e2, none⟩ rfl _ _ (bvc kz (by omega))) ?_
          refine nr ?_; intro U h; simp only [z0, z1] at h; subst h
          refine s_val 145 rfl rfl (.int .u8 ((inc8 (l1.getD e2 0) : Nat) : Int)) (run_inc8 _ _ _ rfl (l1.getD e2 0) rfl rfl _) ?_
          refine nr ?_; intro U h; simp only [z0, z1] at h; subst h
          refine s_val 146 rfl rfl (.pointer (some ⟨zr.1, e2, none⟩)) (bat _ _ rfl zr.1 zr.2.length zr.2.length e2 rfl rfl he2n _) ?_
          refine nr ?_; intro U h; simp only [z0, z1] at h; subst h
          refine s_store rfl rfl 5 _ _ rfl zr.1 e2 rfl (.int .u8 ((inc8 (l1.getD e2 0) : Nat) : Int)) rfl 5 _ kz #[.int .u8 ((inc8 (l1.getD e2 0) : Nat) : Int)] rfl si5 (by rw [bv_size]; simp only [List.size_toArray, List.length_cons, List.length_nil]; omega) (one1 _) _ (bv_set l1 e2 _ (by omega)) ?_
          intro w14 St
          replace GG := GG.store St (by omega)
          replace GX := GX.store St hz0
          replace HV := HV.st kz St (by simp) (set_byte hb1 _ _ (inc8_lt _))
          clear St kz
          refine wpList_nil ?_
          refine blk_n ?_
          refine then_n ?_
          refine wp_region_lit ?_
          refine s_val 147 rfl rfl (.int .i64 ((e2 + 1 : Nat) : Int)) (run_addI 3 _ _ _ rfl ((e2 : Nat) : Int) 1 ((e2 + 1 : Nat) : Int) rfl rfl (by omega) (by omega) (by omega) _) ?_
          refine nr ?_; intro U h; simp only [z0, z1] at h; subst h
          refine s_val 138 rfl rfl (.int .i64 ((e2 + 1 : Nat) : Int)) (rfl) ?_
          refine nr ?_; intro U h; simp only [z0, z1] at h; subst h
          refine wpList_nil ?_
          refine then_n ?_
          exact ⟨_, (by omega : zr.2.length - (e2 + 1) < zr.2.length - e2), e2 + 1, (fun kz => ([.int .i64 ((e2 : Nat) : Int), .bool true, .int .i64 ((e2 : Nat) : Int), .slice (some ⟨zr.1, 0, none⟩) zr.2.length zr.2.length, .int .i64 ((e2 : Nat) : Int), .pointer (some ⟨zr.1, e2, none⟩), .int .u8 ((l1.getD e2 0 : Nat) : Int), .int .u8 ((inc8 (l1.getD e2 0) : Nat) : Int), .pointer (some ⟨zr.1, e2, none⟩), .int .i64 ((e2 + 1 : Nat) : Int)] : List Value).getD kz undef), rfl, rfl, he2n, GG, GX, HV⟩
        refine wp_region_pg (A := ?Ag4) ([] : List Nat) 7 [(0, 93), (1, 94), (2, 95), (3, 96), (4, 97), (5, 98), (6, 99)] [.val (.pointer (some ⟨p, 0, none⟩)), .val (.pointer (some ⟨g1, 1, none⟩)), .val (.int .i64 oq.i), .val (.bool false), .val (.pointer (some ⟨r, 0, none⟩)), .val (.pointer (some ⟨g1, 1, none⟩)), .val (.int .i64 oq.i)] 3 follows (by kernel_rfl) rfl (by decide) (fun j hj hne v a b _ hb hp => match j, hj, hne, hp with | 0, _, _, hp => hp | 1, _, _, hp => hp | 2, _, _, hp => hp | 3, _, hne, _ => absurd rfl hne | 4, _, _, hp => hp | 5, _, _, hp => hp | 6, _, _, hp => hp | m + 7, hj, _, _ => absurd hj (by omega)) ?hAg4 (opsG_a (by decide) ?o0g4 (opsG_a (by decide) ?o1g4 (opsG_a (by decide) ?o2g4 (opsG_e ?o3g4 (opsG_a (by decide) ?o4g4 (opsG_a (by decide) ?o5g4 (opsG_a (by decide) ?o6g4 opsG_nil))))))) ?restg4
        case hAg4 =>
          intro ptrs
          simp only [full, foldSlots, filledE, postE, List.foldl_cons, List.foldl_nil, List.getD_cons_zero, List.getD_cons_succ, fill_val,  List.set_cons_zero, List.set_cons_succ]
          exact rfl
        case o0g4 => exact fun _ _ _ _ => opE_move (v := .pointer (some ⟨p, 0, none⟩)) _ rfl rfl rfl
        case o1g4 => exact fun _ _ hw _ => opE_value (v := .pointer (some ⟨g1, 1, none⟩)) rfl (run_fld 32 _ 1 rfl _ _ rfl _ (by kernel_rfl))
        case o2g4 => exact fun _ _ hw _ => opE_value (v := .int .i64 oq.i) rfl (run_ldc 2 _ rfl g1 1 rfl 32 _ (hw.has kg1 (by simp)) (na2 _) _ rfl)
        case o3g4 =>
          intro ptrs x9 hw hE
          have G := (Gro.refl _).drew.trans hw
          exact opX_call (.val (.bool false)) rfl _ 13 Try.call13 rfl rfl _ rfl [.pointer (some ⟨p, 0, none⟩), .int .i64 oq.i] rfl ((came_no _ p w.heap.size ro rc q k c (HP.gro G) (by omega) (by omega) oq.i (by omega)).mono fun e w' ⟨he, G2⟩ => ⟨_, he, .of G2, rfl⟩)
        case o4g4 => exact fun _ _ _ _ => opE_move (v := .pointer (some ⟨r, 0, none⟩)) _ rfl rfl rfl
        case o5g4 => exact fun _ _ hw _ => opE_value (v := .pointer (some ⟨g1, 1, none⟩)) rfl (run_fld 32 _ 1 rfl _ _ rfl _ (by kernel_rfl))
        case o6g4 => exact fun _ _ hw _ => opE_value (v := .int .i64 oq.i) rfl (run_ldc 2 _ rfl g1 1 rfl 32 _ (hw.has kg1 (by simp)) (na2 _) _ rfl)
        intro ptrs w9 GS hxE
        simp only [List.drop_succ_cons, List.drop_zero]
        clear hxE
        replace GS := (GroS.refl _ _).drew.trans GS
        have G0 : Gro _ _ := ⟨GS.os, GS.tape, GS.output, GS.size, fun k hk => GS.old k hk (by simp)⟩
        clear GS
        replace kg1 := G0.has kg1
        replace HP := HP.gro G0
        replace HR := HR.gro G0
        replace GG := GG.trans G0
        clear G0
        refine s_callv 100 rfl rfl _ 14 Try.call14 rfl rfl _ rfl [.pointer (some ⟨r, 0, none⟩), .int .i64 oq.i] rfl (rcame_no _ r w.heap.size so sc u k c HR (by omega) (by omega) (by omega) oq.i (by omega)) ?_
        intro w10 G
        replace kg1 := G.has kg1
        replace HP := HP.gro G
        replace HR := HR.gro G
        replace GG := GG.trans G
        clear G
        refine nr ?_; intro U h; simp only [z0, z1] at h; subst h
        have hqu2 := hqu
        have hkq2 := hkq
        have huj2 : u.length ≤ j + 1 := by omega
        have hcj2 : c ≤ j + 1 := by omega
        refine s_val 101 rfl rfl (.bool false) (run_neB 4 _ _ _ rfl false false rfl rfl Try.underlying4 false (decide_eq_true rfl) _) ?_
        refine nr ?_; intro U h; simp only [z0, z1] at h; subst h
        refine wpList_nil ?_
        refine then_n ?_
        refine wp_cond_false rfl ?_
        refine wp_skip ?_
        refine blk_n ?_
        refine then_n ?_
        refine wp_seq ?_
        refine wp_region_lit ?_
        refine s_val 103 rfl rfl (.pointer (some ⟨p, 0, none⟩)) (rfl) ?_
        refine nr ?_; intro U h; simp only [z0, z1] at h; subst h
        have HP0 := HP
        have HR0 := HR
        have GG0 := GG
        have GX := Gro.refl w10
        have hwx := GG0.size
        refine s_callx 104 rfl rfl _ 15 Try.call15 rfl rfl _ rfl [.pointer (some ⟨p, 0, none⟩)] rfl (waits_any _ p w.heap.size ro rc q (k) (c) HP (by omega) (by omega)) (fun _ _ ⟨_, _, he, _⟩ => ⟨_, he⟩) ?_
        rintro v w11 ⟨gl, rr, he, G, hr, HL⟩
        cases he
        have hrl : rr.length = q.length := by have := congrArg List.length hr; simpa using this
        have hzs : ∀ z ∈ rr, z.2.length ≤ 140737488355000 := fun z hz => by have h1 : z.2 ∈ q.map (·.l) := hr ▸ List.mem_map_of_mem hz; obtain ⟨x, hx, e⟩ := List.mem_map.1 h1; rw [← e]; exact HP0.sm x hx
        replace HP := HP.gro G
        replace HR := HR.gro G
        replace GX := GX.gro G
        replace GG := GG.trans G
        clear G
        refine nr ?_; intro U h; simp only [z0, z1] at h; subst h
        refine s_val 102 rfl rfl (.tuple #[.int .i64 ((k + 1 : Nat) : Int), .slice (some ⟨gl, 0, none⟩) rr.length rr.length]) (rfl) ?_
        refine nr ?_; intro U h; simp only [z0, z1] at h; subst h
        refine s_val 105 rfl rfl (.int .i64 ((k + 1 : Nat) : Int)) (rfl) ?_
        refine nr ?_; intro U h; simp only [z0, z1] at h; subst h
        refine s_val 106 rfl rfl (.slice (some ⟨gl, 0, none⟩) rr.length rr.length) (rfl) ?_
        refine nr ?_; intro U h; simp only [z0, z1] at h; subst h
        refine s_val 11 rfl rfl (.int .i64 ((k + 1 : Nat) : Int)) (rfl) ?_
        refine nr ?_; intro U h; simp only [z0, z1] at h; subst h
        refine s_val 12 rfl rfl (.slice (some ⟨gl, 0, none⟩) rr.length rr.length) (rfl) ?_
        refine nr ?_; intro U h; simp only [z0, z1] at h; subst h
        refine wpList_nil ?_
        refine then_n ?_
        refine wp_seq ?_
        refine wp_region_lit ?_
        refine s_val 108 rfl rfl (.pointer (some ⟨r, 0, none⟩)) (rfl) ?_
        refine nr ?_; intro U h; simp only [z0, z1] at h; subst h
        refine s_callv 109 rfl rfl _ 16 Try.call16 rfl rfl _ rfl [.pointer (some ⟨r, 0, none⟩)] rfl (rwaits_any _ r w.heap.size so sc u (k) (c) HR (by omega) (by omega) (by omega)) ?_
        intro w12 G
        replace HP := HP.gro G
        replace HR := HR.gro G
        replace GX := GX.gro G
        replace HL := HL.gro G
        replace GG := GG.trans G
        clear G
        refine nr ?_; intro U h; simp only [z0, z1] at h; subst h
        refine s_val 107 rfl rfl (.tuple #[.int .i64 ((k + 1 : Nat) : Int), .slice (if sc = k then so else so.map (·.add ((k) * 1))) ((u.drop (k)).length) (sc - (k))]) (rfl) ?_
        refine nr ?_; intro U h; simp only [z0, z1] at h; subst h
        refine s_val 110 rfl rfl (.int .i64 ((k + 1 : Nat) : Int)) (rfl) ?_
        refine nr ?_; intro U h; simp only [z0, z1] at h; subst h
        refine s_val 111 rfl rfl (.slice (if sc = k then so else so.map (·.add ((k) * 1))) ((u.drop (k)).length) (sc - (k))) (rfl) ?_
        refine nr ?_; intro U h; simp only [z0, z1] at h; subst h
        refine s_val 13 rfl rfl (.int .i64 ((k + 1 : Nat) : Int)) (rfl) ?_
        refine nr ?_; intro U h; simp only [z0, z1] at h; subst h
        refine s_val 14 rfl rfl (.slice (if sc = k then so else so.map (·.add ((k) * 1))) ((u.drop (k)).length) (sc - (k))) (rfl) ?_
        refine nr ?_; intro U h; simp only [z0, z1] at h; subst h
        refine wpList_nil ?_
        refine then_n ?_
        refine wp_seq ?_
        refine wp_seq ?_
        have kr := HR.box
        refine wp_region_exA (A := ?Ax5) 16 [(0, 112), (1, 113), (2, 114), (3, 115), (4, 116), (5, 117), (6, 118), (7, 119), (8, 120), (9, 121), (10, 122), (11, 123), (12, 124), (13, 125), (14, 126), (15, 127)] [.val (.int .i64 ((k + 1 : Nat) : Int)), .val (.int .i64 ((k + 1 : Nat) : Int)), .val (.bool false), .val (.bool false), .val (.slice (some ⟨gl, 0, none⟩) rr.length rr.length), .val (.slice (if sc = k then so else so.map (·.add ((k) * 1))) ((u.drop (k)).length) (sc - (k))), .val (.bool true), .val (.bool false), .val (.bool false), .val (.bool false), .val (.pointer (some ⟨p, 0, none⟩)), .val (.int .i64 ((c : Nat) : Int)), .val (.pointer (some ⟨r, 0, none⟩)), .val (.pointer (some ⟨r, 0, none⟩)), .val (.pointer (some ⟨r, 2, none⟩)), .val (.int .i64 ((c : Nat) : Int))] follows (by kernel_rfl) rfl ?hAx5 (opsA_cons ?o0x5 (opsA_cons ?o1x5 (opsA_cons ?o2x5 (opsA_cons ?o3x5 (opsA_cons ?o4x5 (opsA_cons ?o5x5 (opsA_cons ?o6x5 (opsA_cons ?o7x5 (opsA_cons ?o8x5 (opsA_cons ?o9x5 (opsA_cons ?o10x5 (opsA_cons ?o11x5 (opsA_cons ?o12x5 (opsA_cons ?o13x5 (opsA_cons ?o14x5 (opsA_cons ?o15x5 opsA_nil)))))))))))))))) ?restx5
        case hAx5 =>
          intro ptrs
          simp only [full, foldSlots, filledE, postE, List.foldl_cons, List.foldl_nil, List.getD_cons_zero, List.getD_cons_succ, fill_val, List.set_cons_zero, List.set_cons_succ]
          exact rfl
        case o0x5 => exact fun _ _ _ _ => opE_move (v := .int .i64 ((k + 1 : Nat) : Int)) _ rfl rfl rfl
        case o1x5 => exact fun _ _ _ _ => opE_move (v := .int .i64 ((k + 1 : Nat) : Int)) _ rfl rfl rfl
        case o2x5 => exact fun _ _ hw _ => opE_value (v := .bool false) rfl (run_neq_k 2 .i64 _ _ _ rfl Try.underlying2 ((k + 1 : Nat) : Int) ((k + 1 : Nat) : Int) rfl rfl false (decide_eq_true rfl) _)
        case o3x5 => exact fun _ _ _ _ => opE_move (v := .bool false) _ rfl rfl rfl
        case o4x5 => exact fun _ _ _ _ => opE_move (v := .slice (some ⟨gl, 0, none⟩) rr.length rr.length) _ rfl rfl rfl
        case o5x5 => exact fun _ _ _ _ => opE_move (v := .slice (if sc = k then so else so.map (·.add ((k) * 1))) ((u.drop (k)).length) (sc - (k))) _ rfl rfl rfl
        case o6x5 => exact fun _ _ hw _ => opE_call (.val (.bool true)) rfl _ 17 Try.call17 rfl rfl _ rfl [.slice (some ⟨gl, 0, none⟩) rr.length rr.length, .slice (if sc = k then so else so.map (·.add ((k) * 1))) ((u.drop (k)).length) (sc - (k))] rfl ((sameAll_t _ (some ⟨gl, 0, none⟩) rr.length _ (HL.gro ((Gro.refl _).drew.trans hw)).lc _ _ _ ((HR.gro ((Gro.refl _).drew.trans hw)).lcd (k) (by omega)) rr.length _ (by simp) (by simp) (by omega) (hr.trans hqu2)).mono fun e w' ⟨he, hg⟩ => ⟨_, he, hg, rfl⟩)
        case o7x5 => exact fun _ _ hw _ => opE_value (v := .bool false) rfl (run_nt _ _ rfl true rfl)
        case o8x5 => exact fun _ _ _ _ => opE_pick (v := .bool false) _ _ _ rfl rfl false rfl rfl
        case o9x5 => exact fun _ _ _ _ => opE_move (v := .bool false) _ rfl rfl rfl
        case o10x5 => exact fun _ _ _ _ => opE_move (v := .pointer (some ⟨p, 0, none⟩)) _ rfl rfl rfl
        case o11x5 => exact fun _ _ hw _ => opE_call (.val (.int .i64 ((c : Nat) : Int))) rfl _ 18 Try.call18 rfl rfl _ rfl [.pointer (some ⟨p, 0, none⟩)] rfl ((got_any _ p w.heap.size ro rc q (k) (c) (HP.gro ((Gro.refl _).drew.trans hw)) (by omega) (by omega)).mono fun e w' ⟨he, hg⟩ => ⟨_, he, hg, rfl⟩)
        case o12x5 => exact fun _ _ _ _ => opE_move (v := .pointer (some ⟨r, 0, none⟩)) _ rfl rfl rfl
        case o13x5 => exact fun _ _ hw _ => opE_value (v := .pointer (some ⟨r, 0, none⟩)) rfl (run_nc _ rfl _ rfl)
        case o14x5 => exact fun _ _ hw _ => opE_value (v := .pointer (some ⟨r, 2, none⟩)) rfl (run_fld 28 _ 2 rfl _ _ rfl _ (by kernel_rfl))
        case o15x5 => exact fun _ _ hw _ => opE_value (v := .int .i64 ((c : Nat) : Int)) rfl (run_ldc 2 _ rfl r 2 rfl 28 _ (hw.has kr) (na2 _) _ rfl)
        intro ptrs w13 GD hxE
        simp only [List.drop_succ_cons, List.drop_zero]
        replace GX := GX.gro ((Gro.refl _).drew.trans GD)
        replace HL := HL.gro ((Gro.refl _).drew.trans GD)
        replace GG := GG.drew.trans GD
        clear kr HP HR
        have HV := HL.av
        clear HL
        clear GD
        refine s_gval 128 rfl rfl (.bool false) (run_neq_k 2 .i64 _ _ _ rfl Try.underlying2 ((c : Nat) : Int) ((c : Nat) : Int) rfl rfl false (decide_eq_true rfl) _) ?_
        refine nr ?_; intro U h; simp only [z0, z1] at h; subst h
        refine s_val 129 rfl rfl (.bool false) (rfl) ?_
        refine nr ?_; intro U h; simp only [z0, z1] at h; subst h
        refine wpList_nil ?_
        refine then_n ?_
        refine wp_cond_false rfl ?_
        refine wp_skip ?_
        refine then_n ?_
        refine wp_seq ?_
        refine wp_region_lit ?_
        refine s_val 130 rfl rfl (.slice (some ⟨gl, 0, none⟩) rr.length rr.length) (rfl) ?_
        refine nr ?_; intro U h; simp only [z0, z1] at h; subst h
        refine s_val 131 rfl rfl (.int .i64 ((rr.length : Nat) : Int)) (run_len Try.underlying26 _ rfl _ _ _ rfl _) ?_
        refine nr ?_; intro U h; simp only [z0, z1] at h; subst h
        refine s_val 132 rfl rfl (.int .i64 0) (rfl) ?_
        refine nr ?_; intro U h; simp only [z0, z1] at h; subst h
        refine wpList_nil ?_
        refine then_n ?_
        refine wp_block ?_
        have hrr : rr.length ≤ 1000 := by omega
        refine wp_loopN (fun mz az wv => ∃ (e3 : Nat) (us2 : Nat → Value), mz = rr.length - e3 ∧ az = ⟨[.slice ao os.length cap, undef, us1 0, .pointer (some ⟨p, 0, none⟩), .pointer (some ⟨r, 0, none⟩), .int .i64 ((j : Nat) : Int), .pointer (some ⟨g1, 0, none⟩), us1 3, us1 4, us1 5, us1 6, .int .i64 ((k + 1 : Nat) : Int), .slice (some ⟨gl, 0, none⟩) rr.length rr.length, .int .i64 ((k + 1 : Nat) : Int), .slice (if sc = k then so else so.map (·.add ((k) * 1))) ((u.drop (k)).length) (sc - (k)), undef, us2 0, us2 1, .pointer (some ⟨p, 0, none⟩), .agg (c28 Sl.nil 0 0), .pointer (some ⟨r, 0, none⟩), .pointer (some ⟨p, 0, none⟩), .bool false, .bool false, .bool true, .bool false, .bool false, .slice ao os.length cap, .int .i64 ((os.length : Nat) : Int), .int .i64 ((j : Nat) : Int), .bool true, .int .i64 ((j : Nat) : Int), .pointer (some (ad.add (j * 3))), .agg (c32 oq.k oq.i ⟨oq.ao, oq.l.length, oq.cap⟩), .int .i64 ((j : Nat) : Int), .bool false, .pointer (some ⟨g1, 2, none⟩), .slice oq.ao oq.l.length oq.cap, .pointer (some ⟨g1, 2, none⟩), .slice oq.ao oq.l.length oq.cap, .int .i64 ((oq.l.length : Nat) : Int), .int .i64 ((lb.length : Nat) : Int), .slice oq.ao lb.length oq.cap, .pointer (some ⟨g1, 2, none⟩), .pointer (some ⟨g1, 0, none⟩), .int .i64 oq.k, .bool false, .bool false, us1 31, us1 32, us1 33, us1 34, us1 35, us1 36, us1 37, us1 38, us1 39, us1 40, us1 41, us1 42, us1 43, us1 44, us1 45, us1 46, us1 47, us1 48, us1 49, us1 50, us1 51, us1 52, us1 53, us1 54, us1 55, us1 56, us1 57, us1 58, us1 59, us1 60, us1 61, us1 62, .bool false, .bool false, us1 65, us1 66, us1 67, us1 68, us1 69, us1 70, us1 71, us1 72, us1 73, .bool true, .bool true, .pointer (some ⟨p, 0, none⟩), .pointer (some ⟨g1, 1, none⟩), .int .i64 oq.i, .bool false, .pointer (some ⟨r, 0, none⟩), .pointer (some ⟨g1, 1, none⟩), .int .i64 oq.i, .bool false, .bool false, .tuple #[.int .i64 ((k + 1 : Nat) : Int), .slice (some ⟨gl, 0, none⟩) rr.length rr.length], .pointer (some ⟨p, 0, none⟩), .tuple #[.int .i64 ((k + 1 : Nat) : Int), .slice (some ⟨gl, 0, none⟩) rr.length rr.length], .int .i64 ((k + 1 : Nat) : Int), .slice (some ⟨gl, 0, none⟩) rr.length rr.length, .tuple #[.int .i64 ((k + 1 : Nat) : Int), .slice (if sc = k then so else so.map (·.add ((k) * 1))) ((u.drop (k)).length) (sc - (k))], .pointer (some ⟨r, 0, none⟩), .tuple #[.int .i64 ((k + 1 : Nat) : Int), .slice (if sc = k then so else so.map (·.add ((k) * 1))) ((u.drop (k)).length) (sc - (k))], .int .i64 ((k + 1 : Nat) : Int), .slice (if sc = k then so else so.map (·.add ((k) * 1))) ((u.drop (k)).length) (sc - (k)), .int .i64 ((k + 1 : Nat) : Int), .int .i64 ((k + 1 : Nat) : Int), .bool false, .bool false, .slice (some ⟨gl, 0, none⟩) rr.length rr.length, .slice (if sc = k then so else so.map (·.add ((k) * 1))) ((u.drop (k)).length) (sc - (k)), .bool true, .bool false, .bool false, .bool false, .pointer (some ⟨p, 0, none⟩), .int .i64 ((c : Nat) : Int), .pointer (some ⟨r, 0, none⟩), .pointer (some ⟨r, 0, none⟩), .pointer (some ⟨r, 2, none⟩), .int .i64 ((c : Nat) : Int), .bool false, .bool false, .slice (some ⟨gl, 0, none⟩) rr.length rr.length, .int .i64 ((rr.length : Nat) : Int), .int .i64 ((e3 : Nat) : Int), us2 2, us2 3, us2 4, us2 5, us2 6, us2 7, us2 8, us2 9, us2 10, us2 11, us2 12, us2 13, us2 14, us2 15, us2 16, us2 17, us1 132].toArray, []⟩ ∧ e3 ≤ rr.length ∧ Gro w wv ∧ Gro w10 wv ∧ AV wv w10.heap.size gl rr) ?_ _ ⟨0, (fun kz => ([us1 11, us1 12, us1 116, us1 117, us1 118, us1 119, us1 120, us1 121, us1 122, us1 123, us1 124, us1 125, us1 126, us1 127, us1 128, us1 129, us1 130, us1 131] : List Value).getD kz undef), rfl, rfl, Nat.zero_le _, GG, GX, HV⟩
        clear GG GX HV
        rintro mz az wv ⟨e3, us2, rfl, rfl, he3, GG, GX, HV⟩
        refine wp_seq ?_
        refine wp_region_lit ?_
        obtain ⟨p6, hp6⟩ : ∃ p, decide (((e3 : Nat) : Int) < ((rr.length : Nat) : Int)) = p := ⟨_, rfl⟩
        refine s_val 133 rfl rfl (.bool p6) (run_lssT 3 _ _ _ rfl ((e3 : Nat) : Int) ((rr.length : Nat) : Int) rfl rfl p6 hp6 _) ?_
        refine nr ?_; intro U h; simp only [z0, z1] at h; subst h
        cases p6
        · have HP := HP0.gro GX
          have HR := HR0.gro GX
          refine wpList_nil ?_
          refine then_n ?_
          refine wp_seq ?_
          refine wp_cond_false rfl ?_
          refine wp_exit ?_
          refine then_x ?_
          refine then_x ?_
          refine blk_x ?_
          refine blk_n ?_
          refine then_n ?_
          refine wp_region_lit ?_
          refine s_val 149 rfl rfl (.int .i64 ((j + 1 : Nat) : Int)) (run_addI 3 _ _ _ rfl ((j : Nat) : Int) 1 ((j + 1 : Nat) : Int) rfl rfl (by omega) (by omega) (by omega) _) ?_
          refine nr ?_; intro U h; simp only [z0, z1] at h; subst h
          refine s_val 29 rfl rfl (.int .i64 ((j + 1 : Nat) : Int)) (rfl) ?_
          refine nr ?_; intro U h; simp only [z0, z1] at h; subst h
          refine wpList_nil ?_
          refine then_n ?_
          exact ⟨_, (by omega : os.length - (j + 1) < os.length - j), j + 1, ro, rc, q, so, sc, u, k, c, (fun kz => ([us1 0, .int .i64 ((j : Nat) : Int), .pointer (some ⟨g1, 0, none⟩), us1 3, us1 4, us1 5, us1 6, .int .i64 ((k + 1 : Nat) : Int), .slice (some ⟨gl, 0, none⟩) rr.length rr.length, .int .i64 ((k + 1 : Nat) : Int), .slice (if sc = k then so else so.map (·.add ((k) * 1))) ((u.drop (k)).length) (sc - (k)), us2 0, us2 1, .bool true, .int .i64 ((j : Nat) : Int), .pointer (some (ad.add (j * 3))), .agg (c32 oq.k oq.i ⟨oq.ao, oq.l.length, oq.cap⟩), .int .i64 ((j : Nat) : Int), .bool false, .pointer (some ⟨g1, 2, none⟩), .slice oq.ao oq.l.length oq.cap, .pointer (some ⟨g1, 2, none⟩), .slice oq.ao oq.l.length oq.cap, .int .i64 ((oq.l.length : Nat) : Int), .int .i64 ((lb.length : Nat) : Int), .slice oq.ao lb.length oq.cap, .pointer (some ⟨g1, 2, none⟩), .pointer (some ⟨g1, 0, none⟩), .int .i64 oq.k, .bool false, .bool false, us1 31, us1 32, us1 33, us1 34, us1 35, us1 36, us1 37, us1 38, us1 39, us1 40, us1 41, us1 42, us1 43, us1 44, us1 45, us1 46, us1 47, us1 48, us1 49, us1 50, us1 51, us1 52, us1 53, us1 54, us1 55, us1 56, us1 57, us1 58, us1 59, us1 60, us1 61, us1 62, .bool false, .bool false, us1 65, us1 66, us1 67, us1 68, us1 69, us1 70, us1 71, us1 72, us1 73, .bool true, .bool true, .pointer (some ⟨p, 0, none⟩), .pointer (some ⟨g1, 1, none⟩), .int .i64 oq.i, .bool false, .pointer (some ⟨r, 0, none⟩), .pointer (some ⟨g1, 1, none⟩), .int .i64 oq.i, .bool false, .bool false, .tuple #[.int .i64 ((k + 1 : Nat) : Int), .slice (some ⟨gl, 0, none⟩) rr.length rr.length], .pointer (some ⟨p, 0, none⟩), .tuple #[.int .i64 ((k + 1 : Nat) : Int), .slice (some ⟨gl, 0, none⟩) rr.length rr.length], .int .i64 ((k + 1 : Nat) : Int), .slice (some ⟨gl, 0, none⟩) rr.length rr.length, .tuple #[.int .i64 ((k + 1 : Nat) : Int), .slice (if sc = k then so else so.map (·.add ((k) * 1))) ((u.drop (k)).length) (sc - (k))], .pointer (some ⟨r, 0, none⟩), .tuple #[.int .i64 ((k + 1 : Nat) : Int), .slice (if sc = k then so else so.map (·.add ((k) * 1))) ((u.drop (k)).length) (sc - (k))], .int .i64 ((k + 1 : Nat) : Int), .slice (if sc = k then so else so.map (·.add ((k) * 1))) ((u.drop (k)).length) (sc - (k)), .int .i64 ((k + 1 : Nat) : Int), .int .i64 ((k + 1 : Nat) : Int), .bool false, .bool false, .slice (some ⟨gl, 0, none⟩) rr.length rr.length, .slice (if sc = k then so else so.map (·.add ((k) * 1))) ((u.drop (k)).length) (sc - (k)), .bool true, .bool false, .bool false, .bool false, .pointer (some ⟨p, 0, none⟩), .int .i64 ((c : Nat) : Int), .pointer (some ⟨r, 0, none⟩), .pointer (some ⟨r, 0, none⟩), .pointer (some ⟨r, 2, none⟩), .int .i64 ((c : Nat) : Int), .bool false, .bool false, .slice (some ⟨gl, 0, none⟩) rr.length rr.length, .int .i64 ((rr.length : Nat) : Int), .int .i64 ((e3 : Nat) : Int), .bool false, us2 3, us2 4, us2 5, us2 6, us2 7, us2 8, us2 9, us2 10, us2 11, us2 12, us2 13, us2 14, us2 15, us2 16, us2 17, .int .i64 ((j + 1 : Nat) : Int)] : List Value).getD kz undef), rfl, rfl, hjn, (by omega), hkq2, huj2, hcj2, hqu2, hdis, GG, HP, HR⟩
        have he3n : e3 < rr.length := by have := of_decide_eq_true hp6; omega
        obtain ⟨zr, hzr⟩ : ∃ x, rr[e3]? = some x := ⟨_, List.getElem?_eq_getElem he3n⟩
        have hzm := List.mem_of_getElem? hzr
        refine wpList_nil ?_
        refine then_n ?_
        refine wp_seq ?_
        refine wp_cond_true rfl ?_
        refine wp_skip ?_
        refine then_n ?_
        refine wp_seq ?_
        refine wp_block ?_
        refine wp_seq ?_
        refine wp_region_lit ?_
        refine s_val 134 rfl rfl (.pointer (some ⟨gl, e3, none⟩)) (run_idxg _ _ rfl gl rr.length rr.length e3 rfl rfl he3n _) ?_
        refine nr ?_; intro U h; simp only [z0, z1] at h; subst h
        refine s_val 135 rfl rfl (.slice (some ⟨zr.1, 0, none⟩) zr.2.length zr.2.length) (run_ld24 _ rfl _ rfl _ _ (by exact HV.at hzr)) ?_
        refine nr ?_; intro U h; simp only [z0, z1] at h; subst h
        refine s_val 16 rfl rfl (.slice (some ⟨zr.1, 0, none⟩) zr.2.length zr.2.length) (rfl) ?_
        refine nr ?_; intro U h; simp only [z0, z1] at h; subst h
        refine wpList_nil ?_
        refine then_n ?_
        refine wp_seq ?_
        refine wp_region_lit ?_
        refine s_val 136 rfl rfl (.slice (some ⟨zr.1, 0, none⟩) zr.2.length zr.2.length) (rfl) ?_
        refine nr ?_; intro U h; simp only [z0, z1] at h; subst h
        refine s_val 137 rfl rfl (.int .i64 ((zr.2.length : Nat) : Int)) (run_len Try.underlying30 _ rfl _ _ _ rfl _) ?_
        refine nr ?_; intro U h; simp only [z0, z1] at h; subst h
        refine s_val 138 rfl rfl (.int .i64 0) (rfl) ?_
        refine nr ?_; intro U h; simp only [z0, z1] at h; subst h
        refine wpList_nil ?_
        refine then_n ?_
        refine wp_block ?_
        have hz9 := hzs zr hzm
        refine wp_loopN (fun mz az wv => ∃ (e2 : Nat) (us3 : Nat → Value), mz = zr.2.length - e2 ∧ az = ⟨[.slice ao os.length cap, undef, us1 0, .pointer (some ⟨p, 0, none⟩), .pointer (some ⟨r, 0, none⟩), .int .i64 ((j : Nat) : Int), .pointer (some ⟨g1, 0, none⟩), us1 3, us1 4, us1 5, us1 6, .int .i64 ((k + 1 : Nat) : Int), .slice (some ⟨gl, 0, none⟩) rr.length rr.length, .int .i64 ((k + 1 : Nat) : Int), .slice (if sc = k then so else so.map (·.add ((k) * 1))) ((u.drop (k)).length) (sc - (k)), undef, .slice (some ⟨zr.1, 0, none⟩) zr.2.length zr.2.length, us3 0, .pointer (some ⟨p, 0, none⟩), .agg (c28 Sl.nil 0 0), .pointer (some ⟨r, 0, none⟩), .pointer (some ⟨p, 0, none⟩), .bool false, .bool false, .bool true, .bool false, .bool false, .slice ao os.length cap, .int .i64 ((os.length : Nat) : Int), .int .i64 ((j : Nat) : Int), .bool true, .int .i64 ((j : Nat) : Int), .pointer (some (ad.add (j * 3))), .agg (c32 oq.k oq.i ⟨oq.ao, oq.l.length, oq.cap⟩), .int .i64 ((j : Nat) : Int), .bool false, .pointer (some ⟨g1, 2, none⟩), .slice oq.ao oq.l.length oq.cap, .pointer (some ⟨g1, 2, none⟩), .slice oq.ao oq.l.length oq.cap, .int .i64 ((oq.l.length : Nat) : Int), .int .i64 ((lb.length : Nat) : Int), .slice oq.ao lb.length oq.cap, .pointer (some ⟨g1, 2, none⟩), .pointer (some ⟨g1, 0, none⟩), .int .i64 oq.k, .bool false, .bool false, us1 31, us1 32, us1 33, us1 34, us1 35, us1 36, us1 37, us1 38, us1 39, us1 40, us1 41, us1 42, us1 43, us1 44, us1 45, us1 46, us1 47, us1 48, us1 49, us1 50, us1 51, us1 52, us1 53, us1 54, us1 55, us1 56, us1 57, us1 58, us1 59, us1 60, us1 61, us1 62, .bool false, .bool false, us1 65, us1 66, us1 67, us1 68, us1 69, us1 70, us1 71, us1 72, us1 73, .bool true, .bool true, .pointer (some ⟨p, 0, none⟩), .pointer (some ⟨g1, 1, none⟩), .int .i64 oq.i, .bool false, .pointer (some ⟨r, 0, none⟩), .pointer (some ⟨g1, 1, none⟩), .int .i64 oq.i, .bool false, .bool false, .tuple #[.int .i64 ((k + 1 : Nat) : Int), .slice (some ⟨gl, 0, none⟩) rr.length rr.length], .pointer (some ⟨p, 0, none⟩), .tuple #[.int .i64 ((k + 1 : Nat) : Int), .slice (some ⟨gl, 0, none⟩) rr.length rr.length], .int .i64 ((k + 1 : Nat) : Int), .slice (some ⟨gl, 0, none⟩) rr.length rr.length, .tuple #[.int .i64 ((k + 1 : Nat) : Int), .slice (if sc = k then so else so.map (·.add ((k) * 1))) ((u.drop (k)).length) (sc - (k))], .pointer (some ⟨r, 0, none⟩), .tuple #[.int .i64 ((k + 1 : Nat) : Int), .slice (if sc = k then so else so.map (·.add ((k) * 1))) ((u.drop (k)).length) (sc - (k))], .int .i64 ((k + 1 : Nat) : Int), .slice (if sc = k then so else so.map (·.add ((k) * 1))) ((u.drop (k)).length) (sc - (k)), .int .i64 ((k + 1 : Nat) : Int), .int .i64 ((k + 1 : Nat) : Int), .bool false, .bool false, .slice (some ⟨gl, 0, none⟩) rr.length rr.length, .slice (if sc = k then so else so.map (·.add ((k) * 1))) ((u.drop (k)).length) (sc - (k)), .bool true, .bool false, .bool false, .bool false, .pointer (some ⟨p, 0, none⟩), .int .i64 ((c : Nat) : Int), .pointer (some ⟨r, 0, none⟩), .pointer (some ⟨r, 0, none⟩), .pointer (some ⟨r, 2, none⟩), .int .i64 ((c : Nat) : Int), .bool false, .bool false, .slice (some ⟨gl, 0, none⟩) rr.length rr.length, .int .i64 ((rr.length : Nat) : Int), .int .i64 ((e3 : Nat) : Int), .bool true, .pointer (some ⟨gl, e3, none⟩), .slice (some ⟨zr.1, 0, none⟩) zr.2.length zr.2.length, .slice (some ⟨zr.1, 0, none⟩) zr.2.length zr.2.length, .int .i64 ((zr.2.length : Nat) : Int), .int .i64 ((e2 : Nat) : Int), us3 1, us3 2, us3 3, us3 4, us3 5, us3 6, us3 7, us3 8, us3 9, us2 17, us1 132].toArray, []⟩ ∧ e2 ≤ zr.2.length ∧ Gro w wv ∧ Gro w10 wv ∧ AV wv w10.heap.size gl rr) ?_ _ ⟨0, (fun kz => ([us2 1, us2 8, us2 9, us2 10, us2 11, us2 12, us2 13, us2 14, us2 15, us2 16] : List Value).getD kz undef), rfl, rfl, Nat.zero_le _, GG, GX, HV⟩
        clear GG GX HV
        rintro mz az wv ⟨e2, us3, rfl, rfl, he2, GG, GX, HV⟩
        refine wp_seq ?_
        refine wp_region_lit ?_
        obtain ⟨p7, hp7⟩ : ∃ p, decide (((e2 : Nat) : Int) < ((zr.2.length : Nat) : Int)) = p := ⟨_, rfl⟩
        refine s_val 139 rfl rfl (.bool p7) (run_lssT 3 _ _ _ rfl ((e2 : Nat) : Int) ((zr.2.length : Nat) : Int) rfl rfl p7 hp7 _) ?_
        refine nr ?_; intro U h; simp only [z0, z1] at h; subst h
        cases p7
        · refine wpList_nil ?_
          refine then_n ?_
          refine wp_seq ?_
          refine wp_cond_false rfl ?_
          refine wp_exit ?_
          refine then_x ?_
          refine then_x ?_
          refine blk_x ?_
          refine blk_n ?_
          refine then_n ?_
          refine wp_region_lit ?_
          refine s_val 148 rfl rfl (.int .i64 ((e3 + 1 : Nat) : Int)) (run_addI 3 _ _ _ rfl ((e3 : Nat) : Int) 1 ((e3 + 1 : Nat) : Int) rfl rfl (by omega) (by omega) (by omega) _) ?_
          refine nr ?_; intro U h; simp only [z0, z1] at h; subst h
          refine s_val 132 rfl rfl (.int .i64 ((e3 + 1 : Nat) : Int)) (rfl) ?_
          refine nr ?_; intro U h; simp only [z0, z1] at h; subst h
          refine wpList_nil ?_
          refine then_n ?_
          exact ⟨_, (by omega : rr.length - (e3 + 1) < rr.length - e3), e3 + 1, (fun kz => ([.slice (some ⟨zr.1, 0, none⟩) zr.2.length zr.2.length, us3 0, .bool true, .pointer (some ⟨gl, e3, none⟩), .slice (some ⟨zr.1, 0, none⟩) zr.2.length zr.2.length, .slice (some ⟨zr.1, 0, none⟩) zr.2.length zr.2.length, .int .i64 ((zr.2.length : Nat) : Int), .int .i64 ((e2 : Nat) : Int), .bool false, us3 2, us3 3, us3 4, us3 5, us3 6, us3 7, us3 8, us3 9, .int .i64 ((e3 + 1 : Nat) : Int)] : List Value).getD kz undef), rfl, rfl, he3n, GG, GX, HV⟩
        have he2n : e2 < zr.2.length := by have := of_decide_eq_true hp7; omega
        obtain ⟨hz0, l1, hl1, kz, hb1⟩ := HV.fr zr hzm
        refine wpList_nil ?_
        refine then_n ?_
        refine wp_seq ?_
        refine wp_cond_true rfl ?_
        refine wp_skip ?_
        refine then_n ?_
        refine wp_seq ?_
        refine wp_block ?_
        refine wp_seq ?_
        refine wp_region_lit ?_
        refine s_val 140 rfl rfl (.int .i64 ((e2 : Nat) : Int)) (rfl) ?_
        refine nr ?_; intro U h; simp only [z0, z1] at h; subst h
        refine s_val 17 rfl rfl (.int .i64 ((e2 : Nat) : Int)) (rfl) ?_
        refine nr ?_; intro U h; simp only [z0, z1] at h; subst h
        refine wpList_nil ?_
        refine then_n ?_
        refine wp_region_lit ?_
        refine s_val 141 rfl rfl (.slice (some ⟨zr.1, 0, none⟩) zr.2.length zr.2.length) (rfl) ?_
        refine nr ?_; intro U h; simp only [z0, z1] at h; subst h
        refine s_val 142 rfl rfl (.int .i64 ((e2 : Nat) : Int)) (rfl) ?_
        refine nr ?_; intro U h; simp only [z0, z1] at h; subst h
        refine s_val 143 rfl rfl (.pointer (some ⟨zr.1, e2, none⟩)) (bat _ _ rfl zr.1 zr.2.length zr.2.length e2 rfl rfl he2n _) ?_
        refine nr ?_; intro U h; simp only [z0, z1] at h; subst h
        refine s_val 144 rfl rfl (.int .u8 ((l1.getD e2 0 : Nat) : Int)) (run_ld bT _ rfl ⟨zr.1, e2, none⟩ rfl _ _ (bvc kz (by omega))) ?_
        refine nr ?_; intro U h; simp only [z0, z1] at h; subst h
        refine s_val 145 rfl rfl (.int .u8 ((inc8 (l1.getD e2 0) : Nat) : Int)) (run_inc8 _ _ _ rfl (l1.getD e2 0) rfl rfl _) ?_
        refine nr ?_; intro U h; simp only [z0, z1] at h; subst h
        refine s_val 146 rfl rfl (.pointer (some ⟨zr.1, e2, none⟩)) (bat _ _ rfl zr.1 zr.2.length zr.2.length e2 rfl rfl he2n _) ?_
        refine nr ?_; intro U h; simp only [z0, z1] at h; subst h
        refine s_store rfl rfl 5 _ _ rfl zr.1 e2 rfl (.int .u8 ((inc8 (l1.getD e2 0) : Nat) : Int)) rfl 5 _ kz #[.int .u8 ((inc8 (l1.getD e2 0) : Nat) : Int)] rfl si5 (by rw [bv_size]; simp only [List.size_toArray, List.length_cons, List.length_nil]; omega) (one1 _) _ (bv_set l1 e2 _ (by omega)) ?_
        intro w14 St
        replace GG := GG.store St (by omega)
        replace GX := GX.store St hz0
        replace HV := HV.st kz St (by simp) (set_byte hb1 _ _ (inc8_lt _))
        clear St kz
        refine wpList_nil ?_
        refine blk_n ?_
        refine then_n ?_
        refine wp_region_lit ?_
        refine s_val 147 rfl rfl (.int .i64 ((e2 + 1 : Nat) : Int)) (run_addI 3 _ _ _ rfl ((e2 : Nat) : Int) 1 ((e2 + 1 : Nat) : Int) rfl rfl (by omega) (by omega) (by omega) _) ?_
        refine nr ?_; intro U h; simp only [z0, z1] at h; subst h
        refine s_val 138 rfl rfl (.int .i64 ((e2 + 1 : Nat) : Int)) (rfl) ?_
        refine nr ?_; intro U h; simp only [z0, z1] at h; subst h
        refine wpList_nil ?_
        refine then_n ?_
        exact ⟨_, (by omega : zr.2.length - (e2 + 1) < zr.2.length - e2), e2 + 1, (fun kz => ([.int .i64 ((e2 : Nat) : Int), .bool true, .int .i64 ((e2 : Nat) : Int), .slice (some ⟨zr.1, 0, none⟩) zr.2.length zr.2.length, .int .i64 ((e2 : Nat) : Int), .pointer (some ⟨zr.1, e2, none⟩), .int .u8 ((l1.getD e2 0 : Nat) : Int), .int .u8 ((inc8 (l1.getD e2 0) : Nat) : Int), .pointer (some ⟨zr.1, e2, none⟩), .int .i64 ((e2 + 1 : Nat) : Int)] : List Value).getD kz undef), rfl, rfl, he2n, GG, GX, HV⟩
      refine s_val 80 rfl rfl (.bool true) (rfl) ?_
      refine nr ?_; intro U h; simp only [z0, z1] at h; subst h
      refine wpList_nil ?_
      refine then_n ?_
      refine wp_cond_true rfl ?_
      refine wp_seq ?_
      rcases (show oq.i ≤ (k : Int) ∨ ((k + q.length : Nat) : Int) < oq.i ∨ ∃ m : Nat, oq.i = ((k + m : Nat) : Int) ∧ 1 ≤ m ∧ m ≤ q.length by
        by_cases h1 : oq.i ≤ (k : Int)
        · exact .inl h1
        · by_cases h2 : ((k + q.length : Nat) : Int) < oq.i
          · exact .inr (.inl h2)
          · exact .inr (.inr ⟨(oq.i - k).toNat, by omega, by omega, by omega⟩)) with h3 | h3 | ⟨m, h3, hm1, hm2⟩
      · refine wp_region_pg (A := ?Ag6) ([] : List Nat) 7 [(0, 82), (1, 83), (2, 84), (3, 85), (4, 86), (5, 87), (6, 88)] [.val (.pointer (some ⟨p, 0, none⟩)), .val (.pointer (some ⟨g1, 1, none⟩)), .val (.int .i64 oq.i), .val (.int .i64 0), .val (.pointer (some ⟨r, 0, none⟩)), .val (.pointer (some ⟨g1, 1, none⟩)), .val (.int .i64 oq.i)] 3 follows (by kernel_rfl) rfl (by decide) (fun j hj hne v a b _ hb hp => match j, hj, hne, hp with | 0, _, _, hp => hp | 1, _, _, hp => hp | 2, _, _, hp => hp | 3, _, hne, _ => absurd rfl hne | 4, _, _, hp => hp | 5, _, _, hp => hp | 6, _, _, hp => hp | m + 7, hj, _, _ => absurd hj (by omega)) ?hAg6 (opsG_a (by decide) ?o0g6 (opsG_a (by decide) ?o1g6 (opsG_a (by decide) ?o2g6 (opsG_e ?o3g6 (opsG_a (by decide) ?o4g6 (opsG_a (by decide) ?o5g6 (opsG_a (by decide) ?o6g6 opsG_nil))))))) ?restg6
        case hAg6 =>
          intro ptrs
          simp only [full, foldSlots, filledE, postE, List.foldl_cons, List.foldl_nil, List.getD_cons_zero, List.getD_cons_succ, fill_val,  List.set_cons_zero, List.set_cons_succ]
          exact rfl
        case o0g6 => exact fun _ _ _ _ => opE_move (v := .pointer (some ⟨p, 0, none⟩)) _ rfl rfl rfl
        case o1g6 => exact fun _ _ hw _ => opE_value (v := .pointer (some ⟨g1, 1, none⟩)) rfl (run_fld 32 _ 1 rfl _ _ rfl _ (by kernel_rfl))
        case o2g6 => exact fun _ _ hw _ => opE_value (v := .int .i64 oq.i) rfl (run_ldc 2 _ rfl g1 1 rfl 32 _ (hw.has kg1 (by simp)) (na2 _) _ rfl)
        case o3g6 =>
          intro ptrs x9 hw hE
          have G := (Gro.refl _).drew.trans hw
          exact opX_call (.val (.int .i64 0)) rfl _ 11 Try.call11 rfl rfl _ rfl [.pointer (some ⟨p, 0, none⟩), .int .i64 oq.i] rfl ((acked_low _ p w.heap.size ro rc q k c (HP.gro G) (by omega) (by omega) oq.i (by omega)).mono fun e w' ⟨he, G2⟩ => ⟨_, he, .of G2, rfl⟩)
        case o4g6 => exact fun _ _ _ _ => opE_move (v := .pointer (some ⟨r, 0, none⟩)) _ rfl rfl rfl
        case o5g6 => exact fun _ _ hw _ => opE_value (v := .pointer (some ⟨g1, 1, none⟩)) rfl (run_fld 32 _ 1 rfl _ _ rfl _ (by kernel_rfl))
        case o6g6 => exact fun _ _ hw _ => opE_value (v := .int .i64 oq.i) rfl (run_ldc 2 _ rfl g1 1 rfl 32 _ (hw.has kg1 (by simp)) (na2 _) _ rfl)
        intro ptrs w9 GS hxE
        simp only [List.drop_succ_cons, List.drop_zero]
        clear hxE
        replace GS := (GroS.refl _ _).drew.trans GS
        have G0 : Gro _ _ := ⟨GS.os, GS.tape, GS.output, GS.size, fun k hk => GS.old k hk (by simp)⟩
        clear GS
        replace kg1 := G0.has kg1
        replace HP := HP.gro G0
        replace HR := HR.gro G0
        replace GG := GG.trans G0
        clear G0
        refine s_callv 89 rfl rfl _ 12 Try.call12 rfl rfl _ rfl [.pointer (some ⟨r, 0, none⟩), .int .i64 oq.i] rfl (racked_low _ r w.heap.size so sc u k c HR (by omega) (by omega) (by omega) oq.i (by omega)) ?_
        intro w10 G
        replace kg1 := G.has kg1
        replace HP := HP.gro G
        replace HR := HR.gro G
        replace GG := GG.trans G
        clear G
        refine nr ?_; intro U h; simp only [z0, z1] at h; subst h
        have hqu2 := hqu
        have hkq2 := hkq
        have huj2 : u.length ≤ j + 1 := by omega
        have hcj2 : c ≤ j + 1 := by omega
        refine s_val 90 rfl rfl (.bool false) (run_neq_k 3 .i64 _ _ _ rfl Try.underlying3 0 0 rfl rfl false (decide_eq_true rfl) _) ?_
        refine nr ?_; intro U h; simp only [z0, z1] at h; subst h
        refine wpList_nil ?_
        refine then_n ?_
        refine wp_cond_false rfl ?_
        refine wp_skip ?_
        refine blk_n ?_
        refine then_n ?_
        refine wp_seq ?_
        refine wp_region_lit ?_
        refine s_val 103 rfl rfl (.pointer (some ⟨p, 0, none⟩)) (rfl) ?_
        refine nr ?_; intro U h; simp only [z0, z1] at h; subst h
        have HP0 := HP
        have HR0 := HR
        have GG0 := GG
        have GX := Gro.refl w10
        have hwx := GG0.size
        refine s_callx 104 rfl rfl _ 15 Try.call15 rfl rfl _ rfl [.pointer (some ⟨p, 0, none⟩)] rfl (waits_any _ p w.heap.size ro rc q (k) (c) HP (by omega) (by omega)) (fun _ _ ⟨_, _, he, _⟩ => ⟨_, he⟩) ?_
        rintro v w11 ⟨gl, rr, he, G, hr, HL⟩
        cases he
        have hrl : rr.length = q.length := by have := congrArg List.length hr; simpa using this
        have hzs : ∀ z ∈ rr, z.2.length ≤ 140737488355000 := fun z hz => by have h1 : z.2 ∈ q.map (·.l) := hr ▸ List.mem_map_of_mem hz; obtain ⟨x, hx, e⟩ := List.mem_map.1 h1; rw [← e]; exact HP0.sm x hx
        replace HP := HP.gro G
        replace HR := HR.gro G
        replace GX := GX.gro G
        replace GG := GG.trans G
        clear G
        refine nr ?_; intro U h; simp only [z0, z1] at h; subst h
        refine s_val 102 rfl rfl (.tuple #[.int .i64 ((k + 1 : Nat) : Int), .slice (some ⟨gl, 0, none⟩) rr.length rr.length]) (rfl) ?_
        refine nr ?_; intro U h; simp only [z0, z1] at h; subst h
        refine s_val 105 rfl rfl (.int .i64 ((k + 1 : Nat) : Int)) (rfl) ?_
        refine nr ?_; intro U h; simp only [z0, z1] at h; subst h
        refine s_val 106 rfl rfl (.slice (some ⟨gl, 0, none⟩) rr.length rr.length) (rfl) ?_
        refine nr ?_; intro U h; simp only [z0, z1] at h; subst h
        refine s_val 11 rfl rfl (.int .i64 ((k + 1 : Nat) : Int)) (rfl) ?_
        refine nr ?_; intro U h; simp only [z0, z1] at h; subst h
        refine s_val 12 rfl rfl (.slice (some ⟨gl, 0, none⟩) rr.length rr.length) (rfl) ?_
        refine nr ?_; intro U h; simp only [z0, z1] at h; subst h
        refine wpList_nil ?_
        refine then_n ?_
        refine wp_seq ?_
        refine wp_region_lit ?_
        refine s_val 108 rfl rfl (.pointer (some ⟨r, 0, none⟩)) (rfl) ?_
        refine nr ?_; intro U h; simp only [z0, z1] at h; subst h
        refine s_callv 109 rfl rfl _ 16 Try.call16 rfl rfl _ rfl [.pointer (some ⟨r, 0, none⟩)] rfl (rwaits_any _ r w.heap.size so sc u (k) (c) HR (by omega) (by omega) (by omega)) ?_
        intro w12 G
        replace HP := HP.gro G
        replace HR := HR.gro G
        replace GX := GX.gro G
        replace HL := HL.gro G
        replace GG := GG.trans G
        clear G
        refine nr ?_; intro U h; simp only [z0, z1] at h; subst h
        refine s_val 107 rfl rfl (.tuple #[.int .i64 ((k + 1 : Nat) : Int), .slice (if sc = k then so else so.map (·.add ((k) * 1))) ((u.drop (k)).length) (sc - (k))]) (rfl) ?_
        refine nr ?_; intro U h; simp only [z0, z1] at h; subst h
        refine s_val 110 rfl rfl (.int .i64 ((k + 1 : Nat) : Int)) (rfl) ?_
        refine nr ?_; intro U h; simp only [z0, z1] at h; subst h
        refine s_val 111 rfl rfl (.slice (if sc = k then so else so.map (·.add ((k) * 1))) ((u.drop (k)).length) (sc - (k))) (rfl) ?_
        refine nr ?_; intro U h; simp only [z0, z1] at h; subst h
        refine s_val 13 rfl rfl (.int .i64 ((k + 1 : Nat) : Int)) (rfl) ?_
        refine nr ?_; intro U h; simp only [z0, z1] at h; subst h
        refine s_val 14 rfl rfl (.slice (if sc = k then so else so.map (·.add ((k) * 1))) ((u.drop (k)).length) (sc - (k))) (rfl) ?_
        refine nr ?_; intro U h; simp only [z0, z1] at h; subst h
        refine wpList_nil ?_
        refine then_n ?_
        refine wp_seq ?_
        refine wp_seq ?_
        have kr := HR.box
        refine wp_region_exA (A := ?Ax7) 16 [(0, 112), (1, 113), (2, 114), (3, 115), (4, 116), (5, 117), (6, 118), (7, 119), (8, 120), (9, 121), (10, 122), (11, 123), (12, 124), (13, 125), (14, 126), (15, 127)] [.val (.int .i64 ((k + 1 : Nat) : Int)), .val (.int .i64 ((k + 1 : Nat) : Int)), .val (.bool false), .val (.bool false), .val (.slice (some ⟨gl, 0, none⟩) rr.length rr.length), .val (.slice (if sc = k then so else so.map (·.add ((k) * 1))) ((u.drop (k)).length) (sc - (k))), .val (.bool true), .val (.bool false), .val (.bool false), .val (.bool false), .val (.pointer (some ⟨p, 0, none⟩)), .val (.int .i64 ((c : Nat) : Int)), .val (.pointer (some ⟨r, 0, none⟩)), .val (.pointer (some ⟨r, 0, none⟩)), .val (.pointer (some ⟨r, 2, none⟩)), .val (.int .i64 ((c : Nat) : Int))] follows (by kernel_rfl) rfl ?hAx7 (opsA_cons ?o0x7 (opsA_cons ?o1x7 (opsA_cons ?o2x7 (opsA_cons ?o3x7 (opsA_cons ?o4x7 (opsA_cons ?o5x7 (opsA_cons ?o6x7 (opsA_cons ?o7x7 (opsA_cons ?o8x7 (opsA_cons ?o9x7 (opsA_cons ?o10x7 (opsA_cons ?o11x7 (opsA_cons ?o12x7 (opsA_cons ?o13x7 (opsA_cons ?o14x7 (opsA_cons ?o15x7 opsA_nil)))))))))))))))) ?restx7
        case hAx7 =>
          intro ptrs
          simp only [full, foldSlots, filledE, postE, List.foldl_cons, List.foldl_nil, List.getD_cons_zero, List.getD_cons_succ, fill_val, List.set_cons_zero, List.set_cons_succ]
          exact rfl
        case o0x7 => exact fun _ _ _ _ => opE_move (v := .int .i64 ((k + 1 : Nat) : Int)) _ rfl rfl rfl
        case o1x7 => exact fun _ _ _ _ => opE_move (v := .int .i64 ((k + 1 : Nat) : Int)) _ rfl rfl rfl
        case o2x7 => exact fun _ _ hw _ => opE_value (v := .bool false) rfl (run_neq_k 2 .i64 _ _ _ rfl Try.underlying2 ((k + 1 : Nat) : Int) ((k + 1 : Nat) : Int) rfl rfl false (decide_eq_true rfl) _)
        case o3x7 => exact fun _ _ _ _ => opE_move (v := .bool false) _ rfl rfl rfl
        case o4x7 => exact fun _ _ _ _ => opE_move (v := .slice (some ⟨gl, 0, none⟩) rr.length rr.length) _ rfl rfl rfl
        case o5x7 => exact fun _ _ _ _ => opE_move (v := .slice (if sc = k then so else so.map (·.add ((k) * 1))) ((u.drop (k)).length) (sc - (k))) _ rfl rfl rfl
        case o6x7 => exact fun _ _ hw _ => opE_call (.val (.bool true)) rfl _ 17 Try.call17 rfl rfl _ rfl [.slice (some ⟨gl, 0, none⟩) rr.length rr.length, .slice (if sc = k then so else so.map (·.add ((k) * 1))) ((u.drop (k)).length) (sc - (k))] rfl ((sameAll_t _ (some ⟨gl, 0, none⟩) rr.length _ (HL.gro ((Gro.refl _).drew.trans hw)).lc _ _ _ ((HR.gro ((Gro.refl _).drew.trans hw)).lcd (k) (by omega)) rr.length _ (by simp) (by simp) (by omega) (hr.trans hqu2)).mono fun e w' ⟨he, hg⟩ => ⟨_, he, hg, rfl⟩)
        case o7x7 => exact fun _ _ hw _ => opE_value (v := .bool false) rfl (run_nt _ _ rfl true rfl)
        case o8x7 => exact fun _ _ _ _ => opE_pick (v := .bool false) _ _ _ rfl rfl false rfl rfl
        case o9x7 => exact fun _ _ _ _ => opE_move (v := .bool false) _ rfl rfl rfl
        case o10x7 => exact fun _ _ _ _ => opE_move (v := .pointer (some ⟨p, 0, none⟩)) _ rfl rfl rfl
        case o11x7 => exact fun _ _ hw _ => opE_call (.val (.int .i64 ((c : Nat) : Int))) rfl _ 18 Try.call18 rfl rfl _ rfl [.pointer (some ⟨p, 0, none⟩)] rfl ((got_any _ p w.heap.size ro rc q (k) (c) (HP.gro ((Gro.refl _).drew.trans hw)) (by omega) (by omega)).mono fun e w' ⟨he, hg⟩ => ⟨_, he, hg, rfl⟩)
        case o12x7 => exact fun _ _ _ _ => opE_move (v := .pointer (some ⟨r, 0, none⟩)) _ rfl rfl rfl
        case o13x7 => exact fun _ _ hw _ => opE_value (v := .pointer (some ⟨r, 0, none⟩)) rfl (run_nc _ rfl _ rfl)
        case o14x7 => exact fun _ _ hw _ => opE_value (v := .pointer (some ⟨r, 2, none⟩)) rfl (run_fld 28 _ 2 rfl _ _ rfl _ (by kernel_rfl))
        case o15x7 => exact fun _ _ hw _ => opE_value (v := .int .i64 ((c : Nat) : Int)) rfl (run_ldc 2 _ rfl r 2 rfl 28 _ (hw.has kr) (na2 _) _ rfl)
        intro ptrs w13 GD hxE
        simp only [List.drop_succ_cons, List.drop_zero]
        replace GX := GX.gro ((Gro.refl _).drew.trans GD)
        replace HL := HL.gro ((Gro.refl _).drew.trans GD)
        replace GG := GG.drew.trans GD
        clear kr HP HR
        have HV := HL.av
        clear HL
        clear GD
        refine s_gval 128 rfl rfl (.bool false) (run_neq_k 2 .i64 _ _ _ rfl Try.underlying2 ((c : Nat) : Int) ((c : Nat) : Int) rfl rfl false (decide_eq_true rfl) _) ?_
        refine nr ?_; intro U h; simp only [z0, z1] at h; subst h
        refine s_val 129 rfl rfl (.bool false) (rfl) ?_
        refine nr ?_; intro U h; simp only [z0, z1] at h; subst h
        refine wpList_nil ?_
        refine then_n ?_
        refine wp_cond_false rfl ?_
        refine wp_skip ?_
        refine then_n ?_
        refine wp_seq ?_
        refine wp_region_lit ?_
        refine s_val 130 rfl rfl (.slice (some ⟨gl, 0, none⟩) rr.length rr.length) (rfl) ?_
        refine nr ?_; intro U h; simp only [z0, z1] at h; subst h
        refine s_val 131 rfl rfl (.int .i64 ((rr.length : Nat) : Int)) (run_len Try.underlying26 _ rfl _ _ _ rfl _) ?_
        refine nr ?_; intro U h; simp only [z0, z1] at h; subst h
        refine s_val 132 rfl rfl (.int .i64 0) (rfl) ?_
        refine nr ?_; intro U h; simp only [z0, z1] at h; subst h
        refine wpList_nil ?_
        refine then_n ?_
        refine wp_block ?_
        have hrr : rr.length ≤ 1000 := by omega
        refine wp_loopN (fun mz az wv => ∃ (e3 : Nat) (us2 : Nat → Value), mz = rr.length - e3 ∧ az = ⟨[.slice ao os.length cap, undef, us1 0, .pointer (some ⟨p, 0, none⟩), .pointer (some ⟨r, 0, none⟩), .int .i64 ((j : Nat) : Int), .pointer (some ⟨g1, 0, none⟩), us1 3, us1 4, us1 5, us1 6, .int .i64 ((k + 1 : Nat) : Int), .slice (some ⟨gl, 0, none⟩) rr.length rr.length, .int .i64 ((k + 1 : Nat) : Int), .slice (if sc = k then so else so.map (·.add ((k) * 1))) ((u.drop (k)).length) (sc - (k)), undef, us2 0, us2 1, .pointer (some ⟨p, 0, none⟩), .agg (c28 Sl.nil 0 0), .pointer (some ⟨r, 0, none⟩), .pointer (some ⟨p, 0, none⟩), .bool false, .bool false, .bool true, .bool false, .bool false, .slice ao os.length cap, .int .i64 ((os.length : Nat) : Int), .int .i64 ((j : Nat) : Int), .bool true, .int .i64 ((j : Nat) : Int), .pointer (some (ad.add (j * 3))), .agg (c32 oq.k oq.i ⟨oq.ao, oq.l.length, oq.cap⟩), .int .i64 ((j : Nat) : Int), .bool false, .pointer (some ⟨g1, 2, none⟩), .slice oq.ao oq.l.length oq.cap, .pointer (some ⟨g1, 2, none⟩), .slice oq.ao oq.l.length oq.cap, .int .i64 ((oq.l.length : Nat) : Int), .int .i64 ((lb.length : Nat) : Int), .slice oq.ao lb.length oq.cap, .pointer (some ⟨g1, 2, none⟩), .pointer (some ⟨g1, 0, none⟩), .int .i64 oq.k, .bool false, .bool false, us1 31, us1 32, us1 33, us1 34, us1 35, us1 36, us1 37, us1 38, us1 39, us1 40, us1 41, us1 42, us1 43, us1 44, us1 45, us1 46, us1 47, us1 48, us1 49, us1 50, us1 51, us1 52, us1 53, us1 54, us1 55, us1 56, us1 57, us1 58, us1 59, us1 60, us1 61, us1 62, .bool true, .bool true, .pointer (some ⟨p, 0, none⟩), .pointer (some ⟨g1, 1, none⟩), .int .i64 oq.i, .int .i64 0, .pointer (some ⟨r, 0, none⟩), .pointer (some ⟨g1, 1, none⟩), .int .i64 oq.i, .int .i64 0, .bool false, us1 74, us1 75, us1 76, us1 77, us1 78, us1 79, us1 80, us1 81, us1 82, us1 83, us1 84, .tuple #[.int .i64 ((k + 1 : Nat) : Int), .slice (some ⟨gl, 0, none⟩) rr.length rr.length], .pointer (some ⟨p, 0, none⟩), .tuple #[.int .i64 ((k + 1 : Nat) : Int), .slice (some ⟨gl, 0, none⟩) rr.length rr.length], .int .i64 ((k + 1 : Nat) : Int), .slice (some ⟨gl, 0, none⟩) rr.length rr.length, .tuple #[.int .i64 ((k + 1 : Nat) : Int), .slice (if sc = k then so else so.map (·.add ((k) * 1))) ((u.drop (k)).length) (sc - (k))], .pointer (some ⟨r, 0, none⟩), .tuple #[.int .i64 ((k + 1 : Nat) : Int), .slice (if sc = k then so else so.map (·.add ((k) * 1))) ((u.drop (k)).length) (sc - (k))], .int .i64 ((k + 1 : Nat) : Int), .slice (if sc = k then so else so.map (·.add ((k) * 1))) ((u.drop (k)).length) (sc - (k)), .int .i64 ((k + 1 : Nat) : Int), .int .i64 ((k + 1 : Nat) : Int), .bool false, .bool false, .slice (some ⟨gl, 0, none⟩) rr.length rr.length, .slice (if sc = k then so else so.map (·.add ((k) * 1))) ((u.drop (k)).length) (sc - (k)), .bool true, .bool false, .bool false, .bool false, .pointer (some ⟨p, 0, none⟩), .int .i64 ((c : Nat) : Int), .pointer (some ⟨r, 0, none⟩), .pointer (some ⟨r, 0, none⟩), .pointer (some ⟨r, 2, none⟩), .int .i64 ((c : Nat) : Int), .bool false, .bool false, .slice (some ⟨gl, 0, none⟩) rr.length rr.length, .int .i64 ((rr.length : Nat) : Int), .int .i64 ((e3 : Nat) : Int), us2 2, us2 3, us2 4, us2 5, us2 6, us2 7, us2 8, us2 9, us2 10, us2 11, us2 12, us2 13, us2 14, us2 15, us2 16, us2 17, us1 132].toArray, []⟩ ∧ e3 ≤ rr.length ∧ Gro w wv ∧ Gro w10 wv ∧ AV wv w10.heap.size gl rr) ?_ _ ⟨0, (fun kz => ([us1 11, us1 12, us1 116, us1 117, us1 118, us1 119, us1 120, us1 121, us1 122, us1 123, us1 124, us1 125, us1 126, us1 127, us1 128, us1 129, us1 130, us1 131] : List Value).getD kz undef), rfl, rfl, Nat.zero_le _, GG, GX, HV⟩
        clear GG GX HV
        rintro mz az wv ⟨e3, us2, rfl, rfl, he3, GG, GX, HV⟩
        refine wp_seq ?_
        refine wp_region_lit ?_
        obtain ⟨p5, hp5⟩ : ∃ p, decide (((e3 : Nat) : Int) < ((rr.length : Nat) : Int)) = p := ⟨_, rfl⟩
        refine s_val 133 rfl rfl (.bool p5) (run_lssT 3 _ _ _ rfl ((e3 : Nat) : Int) ((rr.length : Nat) : Int) rfl rfl p5 hp5 _) ?_
        refine nr ?_; intro U h; simp only [z0, z1] at h; subst h
        cases p5
        · have HP := HP0.gro GX
          have HR := HR0.gro GX
          refine wpList_nil ?_
          refine then_n ?_
          refine wp_seq ?_
          refine wp_cond_false rfl ?_
          refine wp_exit ?_
          refine then_x ?_
          refine then_x ?_
          refine blk_x ?_
          refine blk_n ?_
          refine then_n ?_
          refine wp_region_lit ?_
          refine s_val 149 rfl rfl (.int .i64 ((j + 1 : Nat) : Int)) (run_addI 3 _ _ _ rfl ((j : Nat) : Int) 1 ((j + 1 : Nat) : Int) rfl rfl (by omega) (by omega) (by omega) _) ?_
          refine nr ?_; intro U h; simp only [z0, z1] at h; subst h
          refine s_val 29 rfl rfl (.int .i64 ((j + 1 : Nat) : Int)) (rfl) ?_
          refine nr ?_; intro U h; simp only [z0, z1] at h; subst h
          refine wpList_nil ?_
          refine then_n ?_
          exact ⟨_, (by omega : os.length - (j + 1) < os.length - j), j + 1, ro, rc, q, so, sc, u, k, c, (fun kz => ([us1 0, .int .i64 ((j : Nat) : Int), .pointer (some ⟨g1, 0, none⟩), us1 3, us1 4, us1 5, us1 6, .int .i64 ((k + 1 : Nat) : Int), .slice (some ⟨gl, 0, none⟩) rr.length rr.length, .int .i64 ((k + 1 : Nat) : Int), .slice (if sc = k then so else so.map (·.add ((k) * 1))) ((u.drop (k)).length) (sc - (k)), us2 0, us2 1, .bool true, .int .i64 ((j : Nat) : Int), .pointer (some (ad.add (j * 3))), .agg (c32 oq.k oq.i ⟨oq.ao, oq.l.length, oq.cap⟩), .int .i64 ((j : Nat) : Int), .bool false, .pointer (some ⟨g1, 2, none⟩), .slice oq.ao oq.l.length oq.cap, .pointer (some ⟨g1, 2, none⟩), .slice oq.ao oq.l.length oq.cap, .int .i64 ((oq.l.length : Nat) : Int), .int .i64 ((lb.length : Nat) : Int), .slice oq.ao lb.length oq.cap, .pointer (some ⟨g1, 2, none⟩), .pointer (some ⟨g1, 0, none⟩), .int .i64 oq.k, .bool false, .bool false, us1 31, us1 32, us1 33, us1 34, us1 35, us1 36, us1 37, us1 38, us1 39, us1 40, us1 41, us1 42, us1 43, us1 44, us1 45, us1 46, us1 47, us1 48, us1 49, us1 50, us1 51, us1 52, us1 53, us1 54, us1 55, us1 56, us1 57, us1 58, us1 59, us1 60, us1 61, us1 62, .bool true, .bool true, .pointer (some ⟨p, 0, none⟩), .pointer (some ⟨g1, 1, none⟩), .int .i64 oq.i, .int .i64 0, .pointer (some ⟨r, 0, none⟩), .pointer (some ⟨g1, 1, none⟩), .int .i64 oq.i, .int .i64 0, .bool false, us1 74, us1 75, us1 76, us1 77, us1 78, us1 79, us1 80, us1 81, us1 82, us1 83, us1 84, .tuple #[.int .i64 ((k + 1 : Nat) : Int), .slice (some ⟨gl, 0, none⟩) rr.length rr.length], .pointer (some ⟨p, 0, none⟩), .tuple #[.int .i64 ((k + 1 : Nat) : Int), .slice (some ⟨gl, 0, none⟩) rr.length rr.length], .int .i64 ((k + 1 : Nat) : Int), .slice (some ⟨gl, 0, none⟩) rr.length rr.length, .tuple #[.int .i64 ((k + 1 : Nat) : Int), .slice (if sc = k then so else so.map (·.add ((k) * 1))) ((u.drop (k)).length) (sc - (k))], .pointer (some ⟨r, 0, none⟩), .tuple #[.int .i64 ((k + 1 : Nat) : Int), .slice (if sc = k then so else so.map (·.add ((k) * 1))) ((u.drop (k)).length) (sc - (k))], .int .i64 ((k + 1 : Nat) : Int), .slice (if sc = k then so else so.map (·.add ((k) * 1))) ((u.drop (k)).length) (sc - (k)), .int .i64 ((k + 1 : Nat) : Int), .int .i64 ((k + 1 : Nat) : Int), .bool false, .bool false, .slice (some ⟨gl, 0, none⟩) rr.length rr.length, .slice (if sc = k then so else so.map (·.add ((k) * 1))) ((u.drop (k)).length) (sc - (k)), .bool true, .bool false, .bool false, .bool false, .pointer (some ⟨p, 0, none⟩), .int .i64 ((c : Nat) : Int), .pointer (some ⟨r, 0, none⟩), .pointer (some ⟨r, 0, none⟩), .pointer (some ⟨r, 2, none⟩), .int .i64 ((c : Nat) : Int), .bool false, .bool false, .slice (some ⟨gl, 0, none⟩) rr.length rr.length, .int .i64 ((rr.length : Nat) : Int), .int .i64 ((e3 : Nat) : Int), .bool false, us2 3, us2 4, us2 5, us2 6, us2 7, us2 8, us2 9, us2 10, us2 11, us2 12, us2 13, us2 14, us2 15, us2 16, us2 17, .int .i64 ((j + 1 : Nat) : Int)] : List Value).getD kz undef), rfl, rfl, hjn, (by omega), hkq2, huj2, hcj2, hqu2, hdis, GG, HP, HR⟩
        have he3n : e3 < rr.length := by have := of_decide_eq_true hp5; omega
        obtain ⟨zr, hzr⟩ : ∃ x, rr[e3]? = some x := ⟨_, List.getElem?_eq_getElem he3n⟩
        have hzm := List.mem_of_getElem? hzr
        refine wpList_nil ?_
        refine then_n ?_
        refine wp_seq ?_
        refine wp_cond_true rfl ?_
        refine wp_skip ?_
        refine then_n ?_
        refine wp_seq ?_
        refine wp_block ?_
        refine wp_seq ?_
        refine wp_region_lit ?_
        refine s_val 134 rfl rfl (.pointer (some ⟨gl, e3, none⟩)) (run_idxg _ _ rfl gl rr.length rr.length e3 rfl rfl he3n _) ?_
        refine nr ?_; intro U h; simp only [z0, z1] at h; subst h
        refine s_val 135 rfl rfl (.slice (some ⟨zr.1, 0, none⟩) zr.2.length zr.2.length) (run_ld24 _ rfl _ rfl _ _ (by exact HV.at hzr)) ?_
        refine nr ?_; intro U h; simp only [z0, z1] at h; subst h
        refine s_val 16 rfl rfl (.slice (some ⟨zr.1, 0, none⟩) zr.2.length zr.2.length) (rfl) ?_
        refine nr ?_; intro U h; simp only [z0, z1] at h; subst h
        refine wpList_nil ?_
        refine then_n ?_
        refine wp_seq ?_
        refine wp_region_lit ?_
        refine s_val 136 rfl rfl (.slice (some ⟨zr.1, 0, none⟩) zr.2.length zr.2.length) (rfl) ?_
        refine nr ?_; intro U h; simp only [z0, z1] at h; subst h
        refine s_val 137 rfl rfl (.int .i64 ((zr.2.length : Nat) : Int)) (run_len Try.underlying30 _ rfl _ _ _ rfl _) ?_
        refine nr ?_; intro U h; simp only [z0, z1] at h; subst h
        refine s_val 138 rfl rfl (.int .i64 0) (rfl) ?_
        refine nr ?_; intro U h; simp only [z0, z1] at h; subst h
        refine wpList_nil ?_
        refine then_n ?_
        refine wp_block ?_
        have hz9 := hzs zr hzm
        refine wp_loopN (fun mz az wv => ∃ (e2 : Nat) (us3 : Nat → Value), mz = zr.2.length - e2 ∧ az = ⟨[.slice ao os.length cap, undef, us1 0, .pointer (some ⟨p, 0, none⟩), .pointer (some ⟨r, 0, none⟩), .int .i64 ((j : Nat) : Int), .pointer (some ⟨g1, 0, none⟩), us1 3, us1 4, us1 5, us1 6, .int .i64 ((k + 1 : Nat) : Int), .slice (some ⟨gl, 0, none⟩) rr.length rr.length, .int .i64 ((k + 1 : Nat) : Int), .slice (if sc = k then so else so.map (·.add ((k) * 1))) ((u.drop (k)).length) (sc - (k)), undef, .slice (some ⟨zr.1, 0, none⟩) zr.2.length zr.2.length, us3 0, .pointer (some ⟨p, 0, none⟩), .agg (c28 Sl.nil 0 0), .pointer (some ⟨r, 0, none⟩), .pointer (some ⟨p, 0, none⟩), .bool false, .bool false, .bool true, .bool false, .bool false, .slice ao os.length cap, .int .i64 ((os.length : Nat) : Int), .int .i64 ((j : Nat) : Int), .bool true, .int .i64 ((j : Nat) : Int), .pointer (some (ad.add (j * 3))), .agg (c32 oq.k oq.i ⟨oq.ao, oq.l.length, oq.cap⟩), .int .i64 ((j : Nat) : Int), .bool false, .pointer (some ⟨g1, 2, none⟩), .slice oq.ao oq.l.length oq.cap, .pointer (some ⟨g1, 2, none⟩), .slice oq.ao oq.l.length oq.cap, .int .i64 ((oq.l.length : Nat) : Int), .int .i64 ((lb.length : Nat) : Int), .slice oq.ao lb.length oq.cap, .pointer (some ⟨g1, 2, none⟩), .pointer (some ⟨g1, 0, none⟩), .int .i64 oq.k, .bool false, .bool false, us1 31, us1 32, us1 33, us1 34, us1 35, us1 36, us1 37, us1 38, us1 39, us1 40, us1 41, us1 42, us1 43, us1 44, us1 45, us1 46, us1 47, us1 48, us1 49, us1 50, us1 51, us1 52, us1 53, us1 54, us1 55, us1 56, us1 57, us1 58, us1 59, us1 60, us1 61, us1 62, .bool true, .bool true, .pointer (some ⟨p, 0, none⟩), .pointer (some ⟨g1, 1, none⟩), .int .i64 oq.i, .int .i64 0, .pointer (some ⟨r, 0, none⟩), .pointer (some ⟨g1, 1, none⟩), .int .i64 oq.i, .int .i64 0, .bool false, us1 74, us1 75, us1 76, us1 77, us1 78, us1 79, us1 80, us1 81, us1 82, us1 83, us1 84, .tuple #[.int .i64 ((k + 1 : Nat) : Int), .slice (some ⟨gl, 0, none⟩) rr.length rr.length], .pointer (some ⟨p, 0, none⟩), .tuple #[.int .i64 ((k + 1 : Nat) : Int), .slice (some ⟨gl, 0, none⟩) rr.length rr.length], .int .i64 ((k + 1 : Nat) : Int), .slice (some ⟨gl, 0, none⟩) rr.length rr.length, .tuple #[.int .i64 ((k + 1 : Nat) : Int), .slice (if sc = k then so else so.map (·.add ((k) * 1))) ((u.drop (k)).length) (sc - (k))], .pointer (some ⟨r, 0, none⟩), .tuple #[.int .i64 ((k + 1 : Nat) : Int), .slice (if sc = k then so else so.map (·.add ((k) * 1))) ((u.drop (k)).length) (sc - (k))], .int .i64 ((k + 1 : Nat) : Int), .slice (if sc = k then so else so.map (·.add ((k) * 1))) ((u.drop (k)).length) (sc - (k)), .int .i64 ((k + 1 : Nat) : Int), .int .i64 ((k + 1 : Nat) : Int), .bool false, .bool false, .slice (some ⟨gl, 0, none⟩) rr.length rr.length, .slice (if sc = k then so else so.map (·.add ((k) * 1))) ((u.drop (k)).length) (sc - (k)), .bool true, .bool false, .bool false, .bool false, .pointer (some ⟨p, 0, none⟩), .int .i64 ((c : Nat) : Int), .pointer (some ⟨r, 0, none⟩), .pointer (some ⟨r, 0, none⟩), .pointer (some ⟨r, 2, none⟩), .int .i64 ((c : Nat) : Int), .bool false, .bool false, .slice (some ⟨gl, 0, none⟩) rr.length rr.length, .int .i64 ((rr.length : Nat) : Int), .int .i64 ((e3 : Nat) : Int), .bool true, .pointer (some ⟨gl, e3, none⟩), .slice (some ⟨zr.1, 0, none⟩) zr.2.length zr.2.length, .slice (some ⟨zr.1, 0, none⟩) zr.2.length zr.2.length, .int .i64 ((zr.2.length : Nat) : Int), .int .i64 ((e2 : Nat) : Int), us3 1, us3 2, us3 3, us3 4, us3 5, us3 6, us3 7, us3 8, us3 9, us2 17, us1 132].toArray, []⟩ ∧ e2 ≤ zr.2.length ∧ Gro w wv ∧ Gro w10 wv ∧ AV wv w10.heap.size gl rr) ?_ _ ⟨0, (fun kz => ([us2 1, us2 8, us2 9, us2 10, us2 11, us2 12, us2 13, us2 14, us2 15, us2 16] : List Value).getD kz undef), rfl, rfl, Nat.zero_le _, GG, GX, HV⟩
        clear GG GX HV
        rintro mz az wv ⟨e2, us3, rfl, rfl, he2, GG, GX, HV⟩
        refine wp_seq ?_
        refine wp_region_lit ?_
        obtain ⟨p6, hp6⟩ : ∃ p, decide (((e2 : Nat) : Int) < ((zr.2.length : Nat) : Int)) = p := ⟨_, rfl⟩
        refine s_val 139 rfl rfl (.bool p6) (run_lssT 3 _ _ _ rfl ((e2 : Nat) : Int) ((zr.2.length : Nat) : Int) rfl rfl p6 hp6 _) ?_
        refine nr ?_; intro U h; simp only [z0, z1] at h; subst h
        cases p6
        · refine wpList_nil ?_
          refine then_n ?_
          refine wp_seq ?_
          refine wp_cond_false rfl ?_
          refine wp_exit ?_
          refine then_x ?_
          refine then_x ?_
          refine blk_x ?_
          refine blk_n ?_
          refine then_n ?_
          refine wp_region_lit ?_
          refine s_val 148 rfl rfl (.int .i64 ((e3 + 1 : Nat) : Int)) (run_addI 3 _ _ _ rfl ((e3 : Nat) : Int) 1 ((e3 + 1 : Nat) : Int) rfl rfl (by omega) (by omega) (by omega) _) ?_
          refine nr ?_; intro U h; simp only [z0, z1] at h; subst h
          refine s_val 132 rfl rfl (.int .i64 ((e3 + 1 : Nat) : Int)) (rfl) ?_
          refine nr ?_; intro U h; simp only [z0, z1] at h; subst h
          refine wpList_nil ?_
          refine then_n ?_
          exact ⟨_, (by omega : rr.length - (e3 + 1) < rr.length - e3), e3 + 1, (fun kz => ([.slice (some ⟨zr.1, 0, none⟩) zr.2.length zr.2.length, us3 0, .bool true, .pointer (some ⟨gl, e3, none⟩), .slice (some ⟨zr.1, 0, none⟩) zr.2.length zr.2.length, .slice (some ⟨zr.1, 0, none⟩) zr.2.length zr.2.length, .int .i64 ((zr.2.length : Nat) : Int), .int .i64 ((e2 : Nat) : Int), .bool false, us3 2, us3 3, us3 4, us3 5, us3 6, us3 7, us3 8, us3 9, .int .i64 ((e3 + 1 : Nat) : Int)] : List Value).getD kz undef), rfl, rfl, he3n, GG, GX, HV⟩
        have he2n : e2 < zr.2.length := by have := of_decide_eq_true hp6; omega
        obtain ⟨hz0, l1, hl1, kz, hb1⟩ := HV.fr zr hzm
        refine wpList_nil ?_
        refine then_n ?_
        refine wp_seq ?_
        refine wp_cond_true rfl ?_
        refine wp_skip ?_
        refine then_n ?_
        refine wp_seq ?_
        refine wp_block ?_
        refine wp_seq ?_
        refine wp_region_lit ?_
        refine s_val 140 rfl rfl (.int .i64 ((e2 : Nat) : Int)) (rfl) ?_
        refine nr ?_; intro U h; simp only [z0, z1] at h; subst h
        refine s_val 17 rfl rfl (.int .i64 ((e2 : Nat) : Int)) (rfl) ?_
        refine nr ?_; intro U h; simp only [z0, z1] at h; subst h
        refine wpList_nil ?_
        refine then_n ?_
        refine wp_region_lit ?_
        refine s_val 141 rfl rfl (.slice (some ⟨zr.1, 0, none⟩) zr.2.length zr.2.length) (rfl) ?_
        refine nr ?_; intro U h; simp only [z0, z1] at h; subst h
        refine s_val 142 rfl rfl (.int .i64 ((e2 : Nat) : Int)) (rfl) ?_
        refine nr ?_; intro U h; simp only [z0, z1] at h; subst h
        refine s_val 143 rfl rfl (.pointer (some ⟨zr.1, e2, none⟩)) (bat _ _ rfl zr.1 zr.2.length zr.2.length e2 rfl rfl he2n _) ?_
        refine nr ?_; intro U h; simp only [z0, z1] at h; subst h
        refine s_val 144 rfl rfl (.int .u8 ((l1.getD e2 0 : Nat) : Int)) (run_ld bT _ rfl ⟨zr.1, e2, none⟩ rfl _ _ (bvc kz (by omega))) ?_
        refine nr ?_; intro U h; simp only [z0, z1] at h; subst h
        refine s_val 145 rfl rfl (.int .u8 ((inc8 (l1.getD e2 0) : Nat) : Int)) (run_inc8 _ _ _ rfl (l1.getD e2 0) rfl rfl _) ?_
        refine nr ?_; intro U h; simp only [z0, z1] at h; subst h
        refine s_val 146 rfl rfl (.pointer (some ⟨zr.1, e2, none⟩)) (bat _ _ rfl zr.1 zr.2.length zr.2.length e2 rfl rfl he2n _) ?_
        refine nr ?_; intro U h; simp only [z0, z1] at h; subst h
        refine s_store rfl rfl 5 _ _ rfl zr.1 e2 rfl (.int .u8 ((inc8 (l1.getD e2 0) : Nat) : Int)) rfl 5 _ kz #[.int .u8 ((inc8 (l1.getD e2 0) : Nat) : Int)] rfl si5 (by rw [bv_size]; simp only [List.size_toArray, List.length_cons, List.length_nil]; omega) (one1 _) _ (bv_set l1 e2 _ (by omega)) ?_
        intro w14 St
        replace GG := GG.store St (by omega)
        replace GX := GX.store St hz0
        replace HV := HV.st kz St (by simp) (set_byte hb1 _ _ (inc8_lt _))
        clear St kz
        refine wpList_nil ?_
        refine blk_n ?_
        refine then_n ?_
        refine wp_region_lit ?_
        refine s_val 147 rfl rfl (.int .i64 ((e2 + 1 : Nat) : Int)) (run_addI 3 _ _ _ rfl ((e2 : Nat) : Int) 1 ((e2 + 1 : Nat) : Int) rfl rfl (by omega) (by omega) (by omega) _) ?_
        refine nr ?_; intro U h; simp only [z0, z1] at h; subst h
        refine s_val 138 rfl rfl (.int .i64 ((e2 + 1 : Nat) : Int)) (rfl) ?_
        refine nr ?_; intro U h; simp only [z0, z1] at h; subst h
        refine wpList_nil ?_
        refine then_n ?_
        exact ⟨_, (by omega : zr.2.length - (e2 + 1) < zr.2.length - e2), e2 + 1, (fun kz => ([.int .i64 ((e2 : Nat) : Int), .bool true, .int .i64 ((e2 : Nat) : Int), .slice (some ⟨zr.1, 0, none⟩) zr.2.length zr.2.length, .int .i64 ((e2 : Nat) : Int), .pointer (some ⟨zr.1, e2, none⟩), .int .u8 ((l1.getD e2 0 : Nat) : Int), .int .u8 ((inc8 (l1.getD e2 0) : Nat) : Int), .pointer (some ⟨zr.1, e2, none⟩), .int .i64 ((e2 + 1 : Nat) : Int)] : List Value).getD kz undef), rfl, rfl, he2n, GG, GX, HV⟩
      · refine wp_region_pg (A := ?Ag8) ([] : List Nat) 7 [(0, 82), (1, 83), (2, 84), (3, 85), (4, 86), (5, 87), (6, 88)] [.val (.pointer (some ⟨p, 0, none⟩)), .val (.pointer (some ⟨g1, 1, none⟩)), .val (.int .i64 oq.i), .val (.int .i64 0), .val (.pointer (some ⟨r, 0, none⟩)), .val (.pointer (some ⟨g1, 1, none⟩)), .val (.int .i64 oq.i)] 3 follows (by kernel_rfl) rfl (by decide) (fun j hj hne v a b _ hb hp => match j, hj, hne, hp with | 0, _, _, hp => hp | 1, _, _, hp => hp | 2, _, _, hp => hp | 3, _, hne, _ => absurd rfl hne | 4, _, _, hp => hp | 5, _, _, hp => hp | 6, _, _, hp => hp | m + 7, hj, _, _ => absurd hj (by omega)) ?hAg8 (opsG_a (by decide) ?o0g8 (opsG_a (by decide) ?o1g8 (opsG_a (by decide) ?o2g8 (opsG_e ?o3g8 (opsG_a (by decide) ?o4g8 (opsG_a (by decide) ?o5g8 (opsG_a (by decide) ?o6g8 opsG_nil))))))) ?restg8
        case hAg8 =>
          intro ptrs
          simp only [full, foldSlots, filledE, postE, List.foldl_cons, List.foldl_nil, List.getD_cons_zero, List.getD_cons_succ, fill_val,  List.set_cons_zero, List.set_cons_succ]
          exact rfl
        case o0g8 => exact fun _ _ _ _ => opE_move (v := .pointer (some ⟨p, 0, none⟩)) _ rfl rfl rfl
        case o1g8 => exact fun _ _ hw _ => opE_value (v := .pointer (some ⟨g1, 1, none⟩)) rfl (run_fld 32 _ 1 rfl _ _ rfl _ (by kernel_rfl))
        case o2g8 => exact fun _ _ hw _ => opE_value (v := .int .i64 oq.i) rfl (run_ldc 2 _ rfl g1 1 rfl 32 _ (hw.has kg1 (by simp)) (na2 _) _ rfl)
        case o3g8 =>
          intro ptrs x9 hw hE
          have G := (Gro.refl _).drew.trans hw
          exact opX_call (.val (.int .i64 0)) rfl _ 11 Try.call11 rfl rfl _ rfl [.pointer (some ⟨p, 0, none⟩), .int .i64 oq.i] rfl ((acked_high _ p w.heap.size ro rc q k c (HP.gro G) (by omega) (by omega) oq.i (by omega)).mono fun e w' ⟨he, G2⟩ => ⟨_, he, .of G2, rfl⟩)
        case o4g8 => exact fun _ _ _ _ => opE_move (v := .pointer (some ⟨r, 0, none⟩)) _ rfl rfl rfl
        case o5g8 => exact fun _ _ hw _ => opE_value (v := .pointer (some ⟨g1, 1, none⟩)) rfl (run_fld 32 _ 1 rfl _ _ rfl _ (by kernel_rfl))
        case o6g8 => exact fun _ _ hw _ => opE_value (v := .int .i64 oq.i) rfl (run_ldc 2 _ rfl g1 1 rfl 32 _ (hw.has kg1 (by simp)) (na2 _) _ rfl)
        intro ptrs w9 GS hxE
        simp only [List.drop_succ_cons, List.drop_zero]
        clear hxE
        replace GS := (GroS.refl _ _).drew.trans GS
        have G0 : Gro _ _ := ⟨GS.os, GS.tape, GS.output, GS.size, fun k hk => GS.old k hk (by simp)⟩
        clear GS
        replace kg1 := G0.has kg1
        replace HP := HP.gro G0
        replace HR := HR.gro G0
        replace GG := GG.trans G0
        clear G0
        refine s_callv 89 rfl rfl _ 12 Try.call12 rfl rfl _ rfl [.pointer (some ⟨r, 0, none⟩), .int .i64 oq.i] rfl (racked_high _ r w.heap.size so sc u k c HR (by omega) (by omega) (by omega) oq.i (by omega)) ?_
        intro w10 G
        replace kg1 := G.has kg1
        replace HP := HP.gro G
        replace HR := HR.gro G
        replace GG := GG.trans G
        clear G
        refine nr ?_; intro U h; simp only [z0, z1] at h; subst h
        have hqu2 := hqu
        have hkq2 := hkq
        have huj2 : u.length ≤ j + 1 := by omega
        have hcj2 : c ≤ j + 1 := by omega
        refine s_val 90 rfl rfl (.bool false) (run_neq_k 3 .i64 _ _ _ rfl Try.underlying3 0 0 rfl rfl false (decide_eq_true rfl) _) ?_
        refine nr ?_; intro U h; simp only [z0, z1] at h; subst h
        refine wpList_nil ?_
        refine then_n ?_
        refine wp_cond_false rfl ?_
        refine wp_skip ?_
        refine blk_n ?_
        refine then_n ?_
        refine wp_seq ?_
        refine wp_region_lit ?_
        refine s_val 103 rfl rfl (.pointer (some ⟨p, 0, none⟩)) (rfl) ?_
        refine nr ?_; intro U h; simp only [z0, z1] at h; subst h
        have HP0 := HP
        have HR0 := HR
        have GG0 := GG
        have GX := Gro.refl w10
        have hwx := GG0.size
        refine s_callx 104 rfl rfl _ 15 Try.call15 rfl rfl _ rfl [.pointer (some ⟨p, 0, none⟩)] rfl (waits_any _ p w.heap.size ro rc q (k) (c) HP (by omega) (by omega)) (fun _ _ ⟨_, _, he, _⟩ => ⟨_, he⟩) ?_
        rintro v w11 ⟨gl, rr, he, G, hr, HL⟩
        cases he
        have hrl : rr.length = q.length := by have := congrArg List.length hr; simpa using this
        have hzs : ∀ z ∈ rr, z.2.length ≤ 140737488355000 := fun z hz => by have h1 : z.2 ∈ q.map (·.l) := hr ▸ List.mem_map_of_mem hz; obtain ⟨x, hx, e⟩ := List.mem_map.1 h1; rw [← e]; exact HP0.sm x hx
        replace HP := HP.gro G
        replace HR := HR.gro G
        replace GX := GX.gro G
        replace GG := GG.trans G
        clear G
        refine nr ?_; intro U h; simp only [z0, z1] at h; subst h
        refine s_val 102 rfl rfl (.tuple #[.int .i64 ((k + 1 : Nat) : Int), .slice (some ⟨gl, 0, none⟩) rr.length rr.length]) (rfl) ?_
        refine nr ?_; intro U h; simp only [z0, z1] at h; subst h
        refine s_val 105 rfl rfl (.int .i64 ((k + 1 : Nat) : Int)) (rfl) ?_
        refine nr ?_; intro U h; simp only [z0, z1] at h; subst h
        refine s_val 106 rfl rfl (.slice (some ⟨gl, 0, none⟩) rr.length rr.length) (rfl) ?_
        refine nr ?_; intro U h; simp only [z0, z1] at h; subst h
        refine s_val 11 rfl rfl (.int .i64 ((k + 1 : Nat) : Int)) (rfl) ?_
        refine nr ?_; intro U h; simp only [z0, z1] at h; subst h
        refine s_val 12 rfl rfl (.slice (some ⟨gl, 0, none⟩) rr.length rr.length) (rfl) ?_
        refine nr ?_; intro U h; simp only [z0, z1] at h; subst h
        refine wpList_nil ?_
        refine then_n ?_
        refine wp_seq ?_
        refine wp_region_lit ?_
        refine s_val 108 rfl rfl (.pointer (some ⟨r, 0, none⟩)) (rfl) ?_
        refine nr ?_; intro U h; simp only [z0, z1] at h; subst h
        refine s_callv 109 rfl rfl _ 16 Try.call16 rfl rfl _ rfl [.pointer (some ⟨r, 0, none⟩)] rfl (rwaits_any _ r w.heap.size so sc u (k) (c) HR (by omega) (by omega) (by omega)) ?_
        intro w12 G
        replace HP := HP.gro G
        replace HR := HR.gro G
        replace GX := GX.gro G
        replace HL := HL.gro G
        replace GG := GG.trans G
        clear G
        refine nr ?_; intro U h; simp only [z0, z1] at h; subst h
        refine s_val 107 rfl rfl (.tuple #[.int .i64 ((k + 1 : Nat) : Int), .slice (if sc = k then so else so.map (·.add ((k) * 1))) ((u.drop (k)).length) (sc - (k))]) (rfl) ?_
        refine nr ?_; intro U h; simp only [z0, z1] at h; subst h
        refine s_val 110 rfl rfl (.int .i64 ((k + 1 : Nat) : Int)) (rfl) ?_
        refine nr ?_; intro U h; simp only [z0, z1] at h; subst h
        refine s_val 111 rfl rfl (.slice (if sc = k then so else so.map (·.add ((k) * 1))) ((u.drop (k)).length) (sc - (k))) (rfl) ?_
        refine nr ?_; intro U h; simp only [z0, z1] at h; subst h
        refine s_val 13 rfl rfl (.int .i64 ((k + 1 : Nat) : Int)) (rfl) ?_
        refine nr ?_; intro U h; simp only [z0, z1] at h; subst h
        refine s_val 14 rfl rfl (.slice (if sc = k then so else so.map (·.add ((k) * 1))) ((u.drop (k)).length) (sc - (k))) (rfl) ?_
        refine nr ?_; intro U h; simp only [z0, z1] at h; subst h
        refine wpList_nil ?_
        refine then_n ?_
        refine wp_seq ?_
        refine wp_seq ?_
        have kr := HR.box
        refine wp_region_exA (A := ?Ax9) 16 [(0, 112), (1, 113), (2, 114), (3, 115), (4, 116), (5, 117), (6, 118), (7, 119), (8, 120), (9, 121), (10, 122), (11, 123), (12, 124), (13, 125), (14, 126), (15, 127)] [.val (.int .i64 ((k + 1 : Nat) : Int)), .val (.int .i64 ((k + 1 : Nat) : Int)), .val (.bool false), .val (.bool false), .val (.slice (some ⟨gl, 0, none⟩) rr.length rr.length), .val (.slice (if sc = k then so else so.map (·.add ((k) * 1))) ((u.drop (k)).length) (sc - (k))), .val (.bool true), .val (.bool false), .val (.bool false), .val (.bool false), .val (.pointer (some ⟨p, 0, none⟩)), .val (.int .i64 ((c : Nat) : Int)), .val (.pointer (some ⟨r, 0, none⟩)), .val (.pointer (some ⟨r, 0, none⟩)), .val (.pointer (some ⟨r, 2, none⟩)), .val (.int .i64 ((c : Nat) : Int))] follows (by kernel_rfl) rfl ?hAx9 (opsA_cons ?o0x9 (opsA_cons ?o1x9 (opsA_cons ?o2x9 (opsA_cons ?o3x9 (opsA_cons ?o4x9 (opsA_cons ?o5x9 (opsA_cons ?o6x9 (opsA_cons ?o7x9 (opsA_cons ?o8x9 (opsA_cons ?o9x9 (opsA_cons ?o10x9 (opsA_cons ?o11x9 (opsA_cons ?o12x9 (opsA_cons ?o13x9 (opsA_cons ?o14x9 (opsA_cons ?o15x9 opsA_nil)))))))))))))))) ?restx9
        case hAx9 =>
          intro ptrs
          simp only [full, foldSlots, filledE, postE, List.foldl_cons, List.foldl_nil, List.getD_cons_zero, List.getD_cons_succ, fill_val, List.set_cons_zero, List.set_cons_succ]
          exact rfl
        case o0x9 => exact fun _ _ _ _ => opE_move (v := .int .i64 ((k + 1 : Nat) : Int)) _ rfl rfl rfl
        case o1x9 => exact fun _ _ _ _ => opE_move (v := .int .i64 ((k + 1 : Nat) : Int)) _ rfl rfl rfl
        case o2x9 => exact fun _ _ hw _ => opE_value (v := .bool false) rfl (run_neq_k 2 .i64 _ _ _ rfl Try.underlying2 ((k + 1 : Nat) : Int) ((k + 1 : Nat) : Int) rfl rfl false (decide_eq_true rfl) _)
        case o3x9 => exact fun _ _ _ _ => opE_move (v := .bool false) _ rfl rfl rfl
        case o4x9 => exact fun _ _ _ _ => opE_move (v := .slice (some ⟨gl, 0, none⟩) rr.length rr.length) _ rfl rfl rfl
        case o5x9 => exact fun _ _ _ _ => opE_move (v := .slice (if sc = k then so else so.map (·.add ((k) * 1))) ((u.drop (k)).length) (sc - (k))) _ rfl rfl rfl
        case o6x9 => exact fun _ _ hw _ => opE_call (.val (.bool true)) rfl _ 17 Try.call17 rfl rfl _ rfl [.slice (some ⟨gl, 0, none⟩) rr.length rr.length, .slice (if sc = k then so else so.map (·.add ((k) * 1))) ((u.drop (k)).length) (sc - (k))] rfl ((sameAll_t _ (some ⟨gl, 0, none⟩) rr.length _ (HL.gro ((Gro.refl _).drew.trans hw)).lc _ _ _ ((HR.gro ((Gro.refl _).drew.trans hw)).lcd (k) (by omega)) rr.length _ (by simp) (by simp) (by omega) (hr.trans hqu2)).mono fun e w' ⟨he, hg⟩ => ⟨_, he, hg, rfl⟩)
        case o7x9 => exact fun _ _ hw _ => opE_value (v := .bool false) rfl (run_nt _ _ rfl true rfl)
        case o8x9 => exact fun _ _ _ _ => opE_pick (v := .bool false) _ _ _ rfl rfl false rfl rfl
        case o9x9 => exact fun _ _ _ _ => opE_move (v := .bool false) _ rfl rfl rfl
        case o10x9 => exact fun _ _ _ _ => opE_move (v := .pointer (some ⟨p, 0, none⟩)) _ rfl rfl rfl
        case o11x9 => exact fun _ _ hw _ => opE_call (.val (.int .i64 ((c : Nat) : Int))) rfl _ 18 Try.call18 rfl rfl _ rfl [.pointer (some ⟨p, 0, none⟩)] rfl ((got_any _ p w.heap.size ro rc q (k) (c) (HP.gro ((Gro.refl _).drew.trans hw)) (by omega) (by omega)).mono fun e w' ⟨he, hg⟩ => ⟨_, he, hg, rfl⟩)
        case o12x9 => exact fun _ _ _ _ => opE_move (v := .pointer (some ⟨r, 0, none⟩)) _ rfl rfl rfl
        case o13x9 => exact fun _ _ hw _ => opE_value (v := .pointer (some ⟨r, 0, none⟩)) rfl (run_nc _ rfl _ rfl)
        case o14x9 => exact fun _ _ hw _ => opE_value (v := .pointer (some ⟨r, 2, none⟩)) rfl (run_fld 28 _ 2 rfl _ _ rfl _ (by kernel_rfl))
        case o15x9 => exact fun _ _ hw _ => opE_value (v := .int .i64 ((c : Nat) : Int)) rfl (run_ldc 2 _ rfl r 2 rfl 28 _ (hw.has kr) (na2 _) _ rfl)
        intro ptrs w13 GD hxE
        simp only [List.drop_succ_cons, List.drop_zero]
        replace GX := GX.gro ((Gro.refl _).drew.trans GD)
        replace HL := HL.gro ((Gro.refl _).drew.trans GD)
        replace GG := GG.drew.trans GD
        clear kr HP HR
        have HV := HL.av
        clear HL
        clear GD
        refine s_gval 128 rfl rfl (.bool false) (run_neq_k 2 .i64 _ _ _ rfl Try.underlying2 ((c : Nat) : Int) ((c : Nat) : Int) rfl rfl false (decide_eq_true rfl) _) ?_
        refine nr ?_; intro U h; simp only [z0, z1] at h; subst h
        refine s_val 129 rfl rfl (.bool false) (rfl) ?_
        refine nr ?_; intro U h; simp only [z0, z1] at h; subst h
        refine wpList_nil ?_
        refine then_n ?_
        refine wp_cond_false rfl ?_
        refine wp_skip ?_
        refine then_n ?_
        refine wp_seq ?_
        refine wp_region_lit ?_
        refine s_val 130 rfl rfl (.slice (some ⟨gl, 0, none⟩) rr.length rr.length) (rfl) ?_
        refine nr ?_; intro U h; simp only [z0, z1] at h; subst h
        refine s_val 131 rfl rfl (.int .i64 ((rr.length : Nat) : Int)) (run_len Try.underlying26 _ rfl _ _ _ rfl _) ?_
        refine nr ?_; intro U h; simp only [z0, z1] at h; subst h
        refine s_val 132 rfl rfl (.int .i64 0) (rfl) ?_
        refine nr ?_; intro U h; simp only [z0, z1] at h; subst h
        refine wpList_nil ?_
        refine then_n ?_
        refine wp_block ?_
        have hrr : rr.length ≤ 1000 := by omega
        refine wp_loopN (fun mz az wv => ∃ (e3 : Nat) (us2 : Nat → Value), mz = rr.length - e3 ∧ az = ⟨[.slice ao os.length cap, undef, us1 0, .pointer (some ⟨p, 0, none⟩), .pointer (some ⟨r, 0, none⟩), .int .i64 ((j : Nat) : Int), .pointer (some ⟨g1, 0, none⟩), us1 3, us1 4, us1 5, us1 6, .int .i64 ((k + 1 : Nat) : Int), .slice (some ⟨gl, 0, none⟩) rr.length rr.length, .int .i64 ((k + 1 : Nat) : Int), .slice (if sc = k then so else so.map (·.add ((k) * 1))) ((u.drop (k)).length) (sc - (k)), undef, us2 0, us2 1, .pointer (some ⟨p, 0, none⟩), .agg (c28 Sl.nil 0 0), .pointer (some ⟨r, 0, none⟩), .pointer (some ⟨p, 0, none⟩), .bool false, .bool false, .bool true, .bool false, .bool false, .slice ao os.length cap, .int .i64 ((os.length : Nat) : Int), .int .i64 ((j : Nat) : Int), .bool true, .int .i64 ((j : Nat) : Int), .pointer (some (ad.add (j * 3))), .agg (c32 oq.k oq.i ⟨oq.ao, oq.l.length, oq.cap⟩), .int .i64 ((j : Nat) : Int), .bool false, .pointer (some ⟨g1, 2, none⟩), .slice oq.ao oq.l.length oq.cap, .pointer (some ⟨g1, 2, none⟩), .slice oq.ao oq.l.length oq.cap, .int .i64 ((oq.l.length : Nat) : Int), .int .i64 ((lb.length : Nat) : Int), .slice oq.ao lb.length oq.cap, .pointer (some ⟨g1, 2, none⟩), .pointer (some ⟨g1, 0, none⟩), .int .i64 oq.k, .bool false, .bool false, us1 31, us1 32, us1 33, us1 34, us1 35, us1 36, us1 37, us1 38, us1 39, us1 40, us1 41, us1 42, us1 43, us1 44, us1 45, us1 46, us1 47, us1 48, us1 49, us1 50, us1 51, us1 52, us1 53, us1 54, us1 55, us1 56, us1 57, us1 58, us1 59, us1 60, us1 61, us1 62, .bool true, .bool true, .pointer (some ⟨p, 0, none⟩), .pointer (some ⟨g1, 1, none⟩), .int .i64 oq.i, .int .i64 0, .pointer (some ⟨r, 0, none⟩), .pointer (some ⟨g1, 1, none⟩), .int .i64 oq.i, .int .i64 0, .bool false, us1 74, us1 75, us1 76, us1 77, us1 78, us1 79, us1 80, us1 81, us1 82, us1 83, us1 84, .tuple #[.int .i64 ((k + 1 : Nat) : Int), .slice (some ⟨gl, 0, none⟩) rr.length rr.length], .pointer (some ⟨p, 0, none⟩), .tuple #[.int .i64 ((k + 1 : Nat) : Int), .slice (some ⟨gl, 0, none⟩) rr.length rr.length], .int .i64 ((k + 1 : Nat) : Int), .slice (some ⟨gl, 0, none⟩) rr.length rr.length, .tuple #[.int .i64 ((k + 1 : Nat) : Int), .slice (if sc = k then so else so.map (·.add ((k) * 1))) ((u.drop (k)).length) (sc - (k))], .pointer (some ⟨r, 0, none⟩), .tuple #[.int .i64 ((k + 1 : Nat) : Int), .slice (if sc = k then so else so.map (·.add ((k) * 1))) ((u.drop (k)).length) (sc - (k))], .int .i64 ((k + 1 : Nat) : Int), .slice (if sc = k then so else so.map (·.add ((k) * 1))) ((u.drop (k)).length) (sc - (k)), .int .i64 ((k + 1 : Nat) : Int), .int .i64 ((k + 1 : Nat) : Int), .bool false, .bool false, .slice (some ⟨gl, 0, none⟩) rr.length rr.length, .slice (if sc = k then so else so.map (·.add ((k) * 1))) ((u.drop (k)).length) (sc - (k)), .bool true, .bool false, .bool false, .bool false, .pointer (some ⟨p, 0, none⟩), .int .i64 ((c : Nat) : Int), .pointer (some ⟨r, 0, none⟩), .pointer (some ⟨r, 0, none⟩), .pointer (some ⟨r, 2, none⟩), .int .i64 ((c : Nat) : Int), .bool false, .bool false, .slice (some ⟨gl, 0, none⟩) rr.length rr.length, .int .i64 ((rr.length : Nat) : Int), .int .i64 ((e3 : Nat) : Int), us2 2, us2 3, us2 4, us2 5, us2 6, us2 7, us2 8, us2 9, us2 10, us2 11, us2 12, us2 13, us2 14, us2 15, us2 16, us2 17, us1 132].toArray, []⟩ ∧ e3 ≤ rr.length ∧ Gro w wv ∧ Gro w10 wv ∧ AV wv w10.heap.size gl rr) ?_ _ ⟨0, (fun kz => ([us1 11, us1 12, us1 116, us1 117, us1 118, us1 119, us1 120, us1 121, us1 122, us1 123, us1 124, us1 125, us1 126, us1 127, us1 128, us1 129, us1 130, us1 131] : List Value).getD kz undef), rfl, rfl, Nat.zero_le _, GG, GX, HV⟩
        clear GG GX HV
        rintro mz az wv ⟨e3, us2, rfl, rfl, he3, GG, GX, HV⟩
        refine wp_seq ?_
        refine wp_region_lit ?_
        obtain ⟨p5, hp5⟩ : ∃ p, decide (((e3 : Nat) : Int) < ((rr.length : Nat) : Int)) = p := ⟨_, rfl⟩
        refine s_val 133 rfl rfl (.bool p5) (run_lssT 3 _ _ _ rfl ((e3 : Nat) : Int) ((rr.length : Nat) : Int) rfl rfl p5 hp5 _) ?_
        refine nr ?_; intro U h; simp only [z0, z1] at h; subst h
        cases p5
        · have HP := HP0.gro GX
          have HR := HR0.gro GX
          refine wpList_nil ?_
          refine then_n ?_
          refine wp_seq ?_
          refine wp_cond_false rfl ?_
          refine wp_exit ?_
          refine then_x ?_
          refine then_x ?_
          refine blk_x ?_
          refine blk_n ?_
          refine then_n ?_
          refine wp_region_lit ?_
          refine s_val 149 rfl rfl (.int .i64 ((j + 1 : Nat) : Int)) (run_addI 3 _ _ _ rfl ((j : Nat) : Int) 1 ((j + 1 : Nat) : Int) rfl rfl (by omega) (by omega) (by omega) _) ?_
          refine nr ?_; intro U h; simp only [z0, z1] at h; subst h
          refine s_val 29 rfl rfl (.int .i64 ((j + 1 : Nat) : Int)) (rfl) ?_
          refine nr ?_; intro U h; simp only [z0, z1] at h; subst h
          refine wpList_nil ?_
          refine then_n ?_
          exact ⟨_, (by omega : os.length - (j + 1) < os.length - j), j + 1, ro, rc, q, so, sc, u, k, c, (fun kz => ([us1 0, .int .i64 ((j : Nat) : Int), .pointer (some ⟨g1, 0, none⟩), us1 3, us1 4, us1 5, us1 6, .int .i64 ((k + 1 : Nat) : Int), .slice (some ⟨gl, 0, none⟩) rr.length rr.length, .int .i64 ((k + 1 : Nat) : Int), .slice (if sc = k then so else so.map (·.add ((k) * 1))) ((u.drop (k)).length) (sc - (k)), us2 0, us2 1, .bool true, .int .i64 ((j : Nat) : Int), .pointer (some (ad.add (j * 3))), .agg (c32 oq.k oq.i ⟨oq.ao, oq.l.length, oq.cap⟩), .int .i64 ((j : Nat) : Int), .bool false, .pointer (some ⟨g1, 2, none⟩), .slice oq.ao oq.l.length oq.cap, .pointer (some ⟨g1, 2, none⟩), .slice oq.ao oq.l.length oq.cap, .int .i64 ((oq.l.length : Nat) : Int), .int .i64 ((lb.length : Nat) : Int), .slice oq.ao lb.length oq.cap, .pointer (some ⟨g1, 2, none⟩), .pointer (some ⟨g1, 0, none⟩), .int .i64 oq.k, .bool false, .bool false, us1 31, us1 32, us1 33, us1 34, us1 35, us1 36, us1 37, us1 38, us1 39, us1 40, us1 41, us1 42, us1 43, us1 44, us1 45, us1 46, us1 47, us1 48, us1 49, us1 50, us1 51, us1 52, us1 53, us1 54, us1 55, us1 56, us1 57, us1 58, us1 59, us1 60, us1 61, us1 62, .bool true, .bool true, .pointer (some ⟨p, 0, none⟩), .pointer (some ⟨g1, 1, none⟩), .int .i64 oq.i, .int .i64 0, .pointer (some ⟨r, 0, none⟩), .pointer (some ⟨g1, 1, none⟩), .int .i64 oq.i, .int .i64 0, .bool false, us1 74, us1 75, us1 76, us1 77, us1 78, us1 79, us1 80, us1 81, us1 82, us1 83, us1 84, .tuple #[.int .i64 ((k + 1 : Nat) : Int), .slice (some ⟨gl, 0, none⟩) rr.length rr.length], .pointer (some ⟨p, 0, none⟩), .tuple #[.int .i64 ((k + 1 : Nat) : Int), .slice (some ⟨gl, 0, none⟩) rr.length rr.length], .int .i64 ((k + 1 : Nat) : Int), .slice (some ⟨gl, 0, none⟩) rr.length rr.length, .tuple #[.int .i64 ((k + 1 : Nat) : Int), .slice (if sc = k then so else so.map (·.add ((k) * 1))) ((u.drop (k)).length) (sc - (k))], .pointer (some ⟨r, 0, none⟩), .tuple #[.int .i64 ((k + 1 : Nat) : Int), .slice (if sc = k then so else so.map (·.add ((k) * 1))) ((u.drop (k)).length) (sc - (k))], .int .i64 ((k + 1 : Nat) : Int), .slice (if sc = k then so else so.map (·.add ((k) * 1))) ((u.drop (k)).length) (sc - (k)), .int .i64 ((k + 1 : Nat) : Int), .int .i64 ((k + 1 : Nat) : Int), .bool false, .bool false, .slice (some ⟨gl, 0, none⟩) rr.length rr.length, .slice (if sc = k then so else so.map (·.add ((k) * 1))) ((u.drop (k)).length) (sc - (k)), .bool true, .bool false, .bool false, .bool false, .pointer (some ⟨p, 0, none⟩), .int .i64 ((c : Nat) : Int), .pointer (some ⟨r, 0, none⟩), .pointer (some ⟨r, 0, none⟩), .pointer (some ⟨r, 2, none⟩), .int .i64 ((c : Nat) : Int), .bool false, .bool false, .slice (some ⟨gl, 0, none⟩) rr.length rr.length, .int .i64 ((rr.length : Nat) : Int), .int .i64 ((e3 : Nat) : Int), .bool false, us2 3, us2 4, us2 5, us2 6, us2 7, us2 8, us2 9, us2 10, us2 11, us2 12, us2 13, us2 14, us2 15, us2 16, us2 17, .int .i64 ((j + 1 : Nat) : Int)] : List Value).getD kz undef), rfl, rfl, hjn, (by omega), hkq2, huj2, hcj2, hqu2, hdis, GG, HP, HR⟩
        have he3n : e3 < rr.length := by have := of_decide_eq_true hp5; omega
        obtain ⟨zr, hzr⟩ : ∃ x, rr[e3]? = some x := ⟨_, List.getElem?_eq_getElem he3n⟩
        have hzm := List.mem_of_getElem? hzr
        refine wpList_nil ?_
        refine then_n ?_
        refine wp_seq ?_
        refine wp_cond_true rfl ?_
        refine wp_skip ?_
        refine then_n ?_
        refine wp_seq ?_
        refine wp_block ?_
        refine wp_seq ?_
        refine wp_region_lit ?_
        refine s_val 134 rfl rfl (.pointer (some ⟨gl, e3, none⟩)) (run_idxg _ _ rfl gl rr.length rr.length e3 rfl rfl he3n _) ?_
        refine nr ?_; intro U h; simp only [z0, z1] at h; subst h
        refine s_val 135 rfl rfl (.slice (some ⟨zr.1, 0, none⟩) zr.2.length zr.2.length) (run_ld24 _ rfl _ rfl _ _ (by exact HV.at hzr)) ?_
        refine nr ?_; intro U h; simp only [z0, z1] at h; subst h
        refine s_val 16 rfl rfl (.slice (some ⟨zr.1, 0, none⟩) zr.2.length zr.2.length) (rfl) ?_
        refine nr ?_; intro U h; simp only [z0, z1] at h; subst h
        refine wpList_nil ?_
        refine then_n ?_
        refine wp_seq ?_
        refine wp_region_lit ?_
        refine s_val 136 rfl rfl (.slice (some ⟨zr.1, 0, none⟩) zr.2.length zr.2.length) (rfl) ?_
        refine nr ?_; intro U h; simp only [z0, z1] at h; subst h
        refine s_val 137 rfl rfl (.int .i64 ((zr.2.length : Nat) : Int)) (run_len Try.underlying30 _ rfl _ _ _ rfl _) ?_
        refine nr ?_; intro U h; simp only [z0, z1] at h; subst h
        refine s_val 138 rfl rfl (.int .i64 0) (rfl) ?_
        refine nr ?_; intro U h; simp only [z0, z1] at h; subst h
        refine wpList_nil ?_
        refine then_n ?_
        refine wp_block ?_
        have hz9 := hzs zr hzm
        refine wp_loopN (fun mz az wv => ∃ (e2 : Nat) (us3 : Nat → Value), mz = zr.2.length - e2 ∧ az = ⟨[.slice ao os.length cap, undef, us1 0, .pointer (some ⟨p, 0, none⟩), .pointer (some ⟨r, 0, none⟩), .int .i64 ((j : Nat) : Int), .pointer (some ⟨g1, 0, none⟩), us1 3, us1 4, us1 5, us1 6, .int .i64 ((k + 1 : Nat) : Int), .slice (some ⟨gl, 0, none⟩) rr.length rr.length, .int .i64 ((k + 1 : Nat) : Int), .slice (if sc = k then so else so.map (·.add ((k) * 1))) ((u.drop (k)).length) (sc - (k)), undef, .slice (some ⟨zr.1, 0, none⟩) zr.2.length zr.2.length, us3 0, .pointer (some ⟨p, 0, none⟩), .agg (c28 Sl.nil 0 0), .pointer (some ⟨r, 0, none⟩), .pointer (some ⟨p, 0, none⟩), .bool false, .bool false, .bool true, .bool false, .bool false, .slice ao os.length cap, .int .i64 ((os.length : Nat) : Int), .int .i64 ((j : Nat) : Int), .bool true, .int .i64 ((j : Nat) : Int), .pointer (some (ad.add (j * 3))), .agg (c32 oq.k oq.i ⟨oq.ao, oq.l.length, oq.cap⟩), .int .i64 ((j : Nat) : Int), .bool false, .pointer (some ⟨g1, 2, none⟩), .slice oq.ao oq.l.length oq.cap, .pointer (some ⟨g1, 2, none⟩), .slice oq.ao oq.l.length oq.cap, .int .i64 ((oq.l.length : Nat) : Int), .int .i64 ((lb.length : Nat) : Int), .slice oq.ao lb.length oq.cap, .pointer (some ⟨g1, 2, none⟩), .pointer (some ⟨g1, 0, none⟩), .int .i64 oq.k, .bool false, .bool false, us1 31, us1 32, us1 33, us1 34, us1 35, us1 36, us1 37, us1 38, us1 39, us1 40, us1 41, us1 42, us1 43, us1 44, us1 45, us1 46, us1 47, us1 48, us1 49, us1 50, us1 51, us1 52, us1 53, us1 54, us1 55, us1 56, us1 57, us1 58, us1 59, us1 60, us1 61, us1 62, .bool true, .bool true, .pointer (some ⟨p, 0, none⟩), .pointer (some ⟨g1, 1, none⟩), .int .i64 oq.i, .int .i64 0, .pointer (some ⟨r, 0, none⟩), .pointer (some ⟨g1, 1, none⟩), .int .i64 oq.i, .int .i64 0, .bool false, us1 74, us1 75, us1 76, us1 77, us1 78, us1 79, us1 80, us1 81, us1 82, us1 83, us1 84, .tuple #[.int .i64 ((k + 1 : Nat) : Int), .slice (some ⟨gl, 0, none⟩) rr.length rr.length], .pointer (some ⟨p, 0, none⟩), .tuple #[.int .i64 ((k + 1 : Nat) : Int), .slice (some ⟨gl, 0, none⟩) rr.length rr.length], .int .i64 ((k + 1 : Nat) : Int), .slice (some ⟨gl, 0, none⟩) rr.length rr.length, .tuple #[.int .i64 ((k + 1 : Nat) : Int), .slice (if sc = k then so else so.map (·.add ((k) * 1))) ((u.drop (k)).length) (sc - (k))], .pointer (some ⟨r, 0, none⟩), .tuple #[.int .i64 ((k + 1 : Nat) : Int), .slice (if sc = k then so else so.map (·.add ((k) * 1))) ((u.drop (k)).length) (sc - (k))], .int .i64 ((k + 1 : Nat) : Int), .slice (if sc = k then so else so.map (·.add ((k) * 1))) ((u.drop (k)).length) (sc - (k)), .int .i64 ((k + 1 : Nat) : Int), .int .i64 ((k + 1 : Nat) : Int), .bool false, .bool false, .slice (some ⟨gl, 0, none⟩) rr.length rr.length, .slice (if sc = k then so else so.map (·.add ((k) * 1))) ((u.drop (k)).length) (sc - (k)), .bool true, .bool false, .bool false, .bool false, .pointer (some ⟨p, 0, none⟩), .int .i64 ((c : Nat) : Int), .pointer (some ⟨r, 0, none⟩), .pointer (some ⟨r, 0, none⟩), .pointer (some ⟨r, 2, none⟩), .int .i64 ((c : Nat) : Int), .bool false, .bool false, .slice (some ⟨gl, 0, none⟩) rr.length rr.length, .int .i64 ((rr.length : Nat) : Int), .int .i64 ((e3 : Nat) : Int), .bool true, .pointer (some ⟨gl, e3, none⟩), .slice (some ⟨zr.1, 0, none⟩) zr.2.length zr.2.length, .slice (some ⟨zr.1, 0, none⟩) zr.2.length zr.2.length, .int .i64 ((zr.2.length : Nat) : Int), .int .i64 ((e2 : Nat) : Int), us3 1, us3 2, us3 3, us3 4, us3 5, us3 6, us3 7, us3 8, us3 9, us2 17, us1 132].toArray, []⟩ ∧ e2 ≤ zr.2.length ∧ Gro w wv ∧ Gro w10 wv ∧ AV wv w10.heap.size gl rr) ?_ _ ⟨0, (fun kz => ([us2 1, us2 8, us2 9, us2 10, us2 11, us2 12, us2 13, us2 14, us2 15, us2 16] : List Value).getD kz undef), rfl, rfl, Nat.zero_le _, GG, GX, HV⟩
        clear GG GX HV
        rintro mz az wv ⟨e2, us3, rfl, rfl, he2, GG, GX, HV⟩
        refine wp_seq ?_
        refine wp_region_lit ?_
        obtain ⟨p6, hp6⟩ : ∃ p, decide (((e2 : Nat) : Int) < ((zr.2.length : Nat) : Int)) = p := ⟨_, rfl⟩
        refine s_val 139 rfl rfl (.bool p6) (run_lssT 3 _ _ _ rfl ((e2 : Nat) : Int) ((zr.2.length : Nat) : Int) rfl rfl p6 hp6 _) ?_
        refine nr ?_; intro U h; simp only [z0, z1] at h; subst h
        cases p6
        · refine wpList_nil ?_
          refine then_n ?_
          refine wp_seq ?_
          refine wp_cond_false rfl ?_
          refine wp_exit ?_
          refine then_x ?_
          refine then_x ?_
          refine blk_x ?_
          refine blk_n ?_
          refine then_n ?_
          refine wp_region_lit ?_
          refine s_val 148 rfl rfl (.int .i64 ((e3 + 1 : Nat) : Int)) (run_addI 3 _ _ _ rfl ((e3 : Nat) : Int) 1 ((e3 + 1 : Nat) : Int) rfl rfl (by omega) (by omega) (by omega) _) ?_
          refine nr ?_; intro U h; simp only [z0, z1] at h; subst h
          refine s_val 132 rfl rfl (.int .i64 ((e3 + 1 : Nat) : Int)) (rfl) ?_
          refine nr ?_; intro U h; simp only [z0, z1] at h; subst h
          refine wpList_nil ?_
          refine then_n ?_
          exact ⟨_, (by omega : rr.length - (e3 + 1) < rr.length - e3), e3 + 1, (fun kz => ([.slice (some ⟨zr.1, 0, none⟩) zr.2.length zr.2.length, us3 0, .bool true, .pointer (some ⟨gl, e3, none⟩), .slice (some ⟨zr.1, 0, none⟩) zr.2.length zr.2.length, .slice (some ⟨zr.1, 0, none⟩) zr.2.length zr.2.length, .int .i64 ((zr.2.length : Nat) : Int), .int .i64 ((e2 : Nat) : Int), .bool false, us3 2, us3 3, us3 4, us3 5, us3 6, us3 7, us3 8, us3 9, .int .i64 ((e3 + 1 : Nat) : Int)] : List Value).getD kz undef), rfl, rfl, he3n, GG, GX, HV⟩
        have he2n : e2 < zr.2.length := by have := of_decide_eq_true hp6; omega
        obtain ⟨hz0, l1, hl1, kz, hb1⟩ := HV.fr zr hzm
        refine wpList_nil ?_
        refine then_n ?_
        refine wp_seq ?_
        refine wp_cond_true rfl ?_
        refine wp_skip ?_
        refine then_n ?_
        refine wp_seq ?_
        refine wp_block ?_
        refine wp_seq ?_
        refine wp_region_lit ?_
        refine s_val 140 rfl rfl (.int .i64 ((e2 : Nat) : Int)) (rfl) ?_
        refine nr ?_; intro U h; simp only [z0, z1] at h; subst h
        refine s_val 17 rfl rfl (.int .i64 ((e2 : Nat) : Int)) (rfl) ?_
        refine nr ?_; intro U h; simp only [z0, z1] at h; subst h
        refine wpList_nil ?_
        refine then_n ?_
        refine wp_region_lit ?_
        refine s_val 141 rfl rfl (.slice (some ⟨zr.1, 0, none⟩) zr.2.length zr.2.length) (rfl) ?_
        refine nr ?_; intro U h; simp only [z0, z1] at h; subst h
        refine s_val 142 rfl rfl (.int .i64 ((e2 : Nat) : Int)) (rfl) ?_
        refine nr ?_; intro U h; simp only [z0, z1] at h; subst h
        refine s_val 143 rfl rfl (.pointer (some ⟨zr.1, e2, none⟩)) (bat _ _ rfl zr.1 zr.2.length zr.2.length e2 rfl rfl he2n _) ?_
        refine nr ?_; intro U h; simp only [z0, z1] at h; subst h
        refine s_val 144 rfl rfl (.int .u8 ((l1.getD e2 0 : Nat) : Int)) (run_ld bT _ rfl ⟨zr.1, e2, none⟩ rfl _ _ (bvc kz (by omega))) ?_
        refine nr ?_; intro U h; simp only [z0, z1] at h; subst h
        refine s_val 145 rfl rfl (.int .u8 ((inc8 (l1.getD e2 0) : Nat) : Int)) (run_inc8 _ _ _ rfl (l1.getD e2 0) rfl rfl _) ?_
        refine nr ?_; intro U h; simp only [z0, z1] at h; subst h
        refine s_val 146 rfl rfl (.pointer (some ⟨zr.1, e2, none⟩)) (bat _ _ rfl zr.1 zr.2.length zr.2.length e2 rfl rfl he2n _) ?_
        refine nr ?_; intro U h; simp only [z0, z1] at h; subst h
        refine s_store rfl rfl 5 _ _ rfl zr.1 e2 rfl (.int .u8 ((inc8 (l1.getD e2 0) : Nat) : Int)) rfl 5 _ kz #[.int .u8 ((inc8 (l1.getD e2 0) : Nat) : Int)] rfl si5 (by rw [bv_size]; simp only [List.size_toArray, List.length_cons, List.length_nil]; omega) (one1 _) _ (bv_set l1 e2 _ (by omega)) ?_
        intro w14 St
        replace GG := GG.store St (by omega)
        replace GX := GX.store St hz0
        replace HV := HV.st kz St (by simp) (set_byte hb1 _ _ (inc8_lt _))
        clear St kz
        refine wpList_nil ?_
        refine blk_n ?_
        refine then_n ?_
        refine wp_region_lit ?_
        refine s_val 147 rfl rfl (.int .i64 ((e2 + 1 : Nat) : Int)) (run_addI 3 _ _ _ rfl ((e2 : Nat) : Int) 1 ((e2 + 1 : Nat) : Int) rfl rfl (by omega) (by omega) (by omega) _) ?_
        refine nr ?_; intro U h; simp only [z0, z1] at h; subst h
        refine s_val 138 rfl rfl (.int .i64 ((e2 + 1 : Nat) : Int)) (rfl) ?_
        refine nr ?_; intro U h; simp only [z0, z1] at h; subst h
        refine wpList_nil ?_
        refine then_n ?_
        exact ⟨_, (by omega : zr.2.length - (e2 + 1) < zr.2.length - e2), e2 + 1, (fun kz => ([.int .i64 ((e2 : Nat) : Int), .bool true, .int .i64 ((e2 : Nat) : Int), .slice (some ⟨zr.1, 0, none⟩) zr.2.length zr.2.length, .int .i64 ((e2 : Nat) : Int), .pointer (some ⟨zr.1, e2, none⟩), .int .u8 ((l1.getD e2 0 : Nat) : Int), .int .u8 ((inc8 (l1.getD e2 0) : Nat) : Int), .pointer (some ⟨zr.1, e2, none⟩), .int .i64 ((e2 + 1 : Nat) : Int)] : List Value).getD kz undef), rfl, rfl, he2n, GG, GX, HV⟩
      rw [h3] at kg1
      obtain ⟨M, hM⟩ : ∃ M, w8.heap.size = M := ⟨_, rfl⟩
      have hdis0 := hdis
      refine wp_region_pg (A := ?Ag10) (p :: blk ro) 7 [(0, 82), (1, 83), (2, 84), (3, 85), (4, 86), (5, 87), (6, 88)] [.val (.pointer (some ⟨p, 0, none⟩)), .val (.pointer (some ⟨g1, 1, none⟩)), .val (.int .i64 ((k + m : Nat) : Int)), akE M p w.heap.size ro q k c m, .val (.pointer (some ⟨r, 0, none⟩)), .val (.pointer (some ⟨g1, 1, none⟩)), .val (.int .i64 ((k + m : Nat) : Int))] 3 follows (by kernel_rfl) rfl (by decide) (fun j hj hne v a b _ hb hp => match j, hj, hne, hp with | 0, _, _, hp => hp | 1, _, _, hp => hp | 2, _, _, hp => hp | 3, _, hne, _ => absurd rfl hne | 4, _, _, hp => hp | 5, _, _, hp => hp | 6, _, _, hp => hp | m + 7, hj, _, _ => absurd hj (by omega)) ?hAg10 (opsG_a (by decide) ?o0g10 (opsG_a (by decide) ?o1g10 (opsG_a (by decide) ?o2g10 (opsG_e ?o3g10 (opsG_a (by decide) ?o4g10 (opsG_a (by decide) ?o5g10 (opsG_a (by decide) ?o6g10 opsG_nil))))))) ?restg10
      case hAg10 =>
        intro ptrs
        simp only [full, foldSlots, filledE, postE, List.foldl_cons, List.foldl_nil, List.getD_cons_zero, List.getD_cons_succ, fill_val, fill_ak,  List.set_cons_zero, List.set_cons_succ]
        exact rfl
      case o0g10 => exact fun _ _ _ _ => opE_move (v := .pointer (some ⟨p, 0, none⟩)) _ rfl rfl rfl
      case o1g10 => exact fun _ _ hw _ => opE_value (v := .pointer (some ⟨g1, 1, none⟩)) rfl (run_fld 32 _ 1 rfl _ _ rfl _ (by kernel_rfl))
      case o2g10 => exact fun _ _ hw _ => opE_value (v := .int .i64 ((k + m : Nat) : Int)) rfl (run_ldc 2 _ rfl g1 1 rfl 32 _ (hw.has kg1 (HP.notT kg1 (by decide) (by decide))) (na2 _) _ rfl)
      case o3g10 =>
        intro ptrs x9 hw hE
        have G := (Gro.refl _).drew.trans hw
        exact opX_call (akE M p w.heap.size ro q k c m) rfl _ 11 Try.call11 rfl rfl _ rfl [.pointer (some ⟨p, 0, none⟩), .int .i64 ((k + m : Nat) : Int)] rfl ((acked_ok _ p w.heap.size ro rc q k c (HP.gro G) (by omega) (by omega) _ m hm1 hm2 rfl).mono fun e w' ⟨a, c, he, G2, HP2, hk⟩ => ⟨_, he, G2, rfl, a, c, HP2, hk.mono (by rw [← hM]; exact G.size)⟩)
      case o4g10 => exact fun _ _ _ _ => opE_move (v := .pointer (some ⟨r, 0, none⟩)) _ rfl rfl rfl
      case o5g10 => exact fun _ _ hw _ => opE_value (v := .pointer (some ⟨g1, 1, none⟩)) rfl (run_fld 32 _ 1 rfl _ _ rfl _ (by kernel_rfl))
      case o6g10 => exact fun _ _ hw _ => opE_value (v := .int .i64 ((k + m : Nat) : Int)) rfl (run_ldc 2 _ rfl g1 1 rfl 32 _ (hw.has kg1 (HP.notT kg1 (by decide) (by decide))) (na2 _) _ rfl)
      intro ptrs w9 GS hxE
      simp only [List.drop_succ_cons, List.drop_zero]
      obtain ⟨⟨hv, ao2, cap2, HP2, hkp⟩, _⟩ := hxE
      simp only [hv]
      replace GS := (GroS.refl _ _).drew.trans GS
      replace kg1 := GS.has kg1 (HP.notT kg1 (by decide) (by decide))
      replace hdis := dis_put HR.row hdis hkp (Nat.le_of_eq hM)
      replace HR := HR.other HP (by decide) GS hdis0
      replace GG := GS.gro GG HP.sb
      clear GS HP hkp hv hdis0
      have HP := HP2
      clear HP2
      refine s_callx 89 rfl rfl _ 12 Try.call12 rfl rfl _ rfl [.pointer (some ⟨r, 0, none⟩), .int .i64 ((k + m : Nat) : Int)] rfl (racked_ok _ r w.heap.size so sc u k c HR (by omega) (by omega) (by omega) m hm1 (by omega)) (fun _ _ ⟨he, _⟩ => ⟨_, he⟩) ?_
      rintro v w10 ⟨he, G, HR2⟩
      cases he
      replace kg1 := G.has kg1 (fun h => by cases List.mem_singleton.1 h; exact ne_type kg1 HR.box (by decide) rfl)
      replace HP := HP.other1 HR (by decide) G
      replace GG := G.gro GG (by simpa using br)
      clear G HR
      have HR := HR2
      clear HR2
      have hqu2 := map_ack hqu m
      have hkq2 : k + m + (q.drop m).length = u.length := by rw [List.length_drop]; omega
      have huj2 : u.length ≤ j + 1 := by omega
      have hcj2 : c ≤ j + 1 := by omega
      refine nr ?_; intro U h; simp only [z0, z1] at h; subst h
      refine s_val 90 rfl rfl (.bool false) (run_neq_k 3 .i64 _ _ _ rfl Try.underlying3 ((m : Nat) : Int) ((m : Nat) : Int) rfl rfl false (decide_eq_true rfl) _) ?_
      refine nr ?_; intro U h; simp only [z0, z1] at h; subst h
      refine wpList_nil ?_
      refine then_n ?_
      refine wp_cond_false rfl ?_
      refine wp_skip ?_
      refine blk_n ?_
      refine then_n ?_
      refine wp_seq ?_
      refine wp_region_lit ?_
      refine s_val 103 rfl rfl (.pointer (some ⟨p, 0, none⟩)) (rfl) ?_
      refine nr ?_; intro U h; simp only [z0, z1] at h; subst h
      have HP0 := HP
      have HR0 := HR
      have GG0 := GG
      have GX := Gro.refl w10
      have hwx := GG0.size
      refine s_callx 104 rfl rfl _ 15 Try.call15 rfl rfl _ rfl [.pointer (some ⟨p, 0, none⟩)] rfl (waits_any _ p w.heap.size ao2 cap2 (q.drop m) (k + m) (c) HP (by omega) (by omega)) (fun _ _ ⟨_, _, he, _⟩ => ⟨_, he⟩) ?_
      rintro v w11 ⟨gl, rr, he, G, hr, HL⟩
      cases he
      have hrl : rr.length = (q.drop m).length := by have := congrArg List.length hr; simpa using this
      have hzs : ∀ z ∈ rr, z.2.length ≤ 140737488355000 := fun z hz => by have h1 : z.2 ∈ (q.drop m).map (·.l) := hr ▸ List.mem_map_of_mem hz; obtain ⟨x, hx, e⟩ := List.mem_map.1 h1; rw [← e]; exact HP0.sm x hx
      replace HP := HP.gro G
      replace HR := HR.gro G
      replace GX := GX.gro G
      replace GG := GG.trans G
      clear G
      refine nr ?_; intro U h; simp only [z0, z1] at h; subst h
      refine s_val 102 rfl rfl (.tuple #[.int .i64 ((k + m + 1 : Nat) : Int), .slice (some ⟨gl, 0, none⟩) rr.length rr.length]) (rfl) ?_
      refine nr ?_; intro U h; simp only [z0, z1] at h; subst h
      refine s_val 105 rfl rfl (.int .i64 ((k + m + 1 : Nat) : Int)) (rfl) ?_
      refine nr ?_; intro U h; simp only [z0, z1] at h; subst h
      refine s_val 106 rfl rfl (.slice (some ⟨gl, 0, none⟩) rr.length rr.length) (rfl) ?_
      refine nr ?_; intro U h; simp only [z0, z1] at h; subst h
      refine s_val 11 rfl rfl (.int .i64 ((k + m + 1 : Nat) : Int)) (rfl) ?_
      refine nr ?_; intro U h; simp only [z0, z1] at h; subst h
      refine s_val 12 rfl rfl (.slice (some ⟨gl, 0, none⟩) rr.length rr.length) (rfl) ?_
      refine nr ?_; intro U h; simp only [z0, z1] at h; subst h
      refine wpList_nil ?_
      refine then_n ?_
      refine wp_seq ?_
      refine wp_region_lit ?_
      refine s_val 108 rfl rfl (.pointer (some ⟨r, 0, none⟩)) (rfl) ?_
      refine nr ?_; intro U h; simp only [z0, z1] at h; subst h
      refine s_callv 109 rfl rfl _ 16 Try.call16 rfl rfl _ rfl [.pointer (some ⟨r, 0, none⟩)] rfl (rwaits_any _ r w.heap.size so sc u (k + m) (c) HR (by omega) (by omega) (by omega)) ?_
      intro w12 G
      replace HP := HP.gro G
      replace HR := HR.gro G
      replace GX := GX.gro G
      replace HL := HL.gro G
      replace GG := GG.trans G
      clear G
      refine nr ?_; intro U h; simp only [z0, z1] at h; subst h
      refine s_val 107 rfl rfl (.tuple #[.int .i64 ((k + m + 1 : Nat) : Int), .slice (if sc = k + m then so else so.map (·.add ((k + m) * 1))) ((u.drop (k + m)).length) (sc - (k + m))]) (rfl) ?_
      refine nr ?_; intro U h; simp only [z0, z1] at h; subst h
      refine s_val 110 rfl rfl (.int .i64 ((k + m + 1 : Nat) : Int)) (rfl) ?_
      refine nr ?_; intro U h; simp only [z0, z1] at h; subst h
      refine s_val 111 rfl rfl (.slice (if sc = k + m then so else so.map (·.add ((k + m) * 1))) ((u.drop (k + m)).length) (sc - (k + m))) (rfl) ?_
      refine nr ?_; intro U h; simp only [z0, z1] at h; subst h
      refine s_val 13 rfl rfl (.int .i64 ((k + m + 1 : Nat) : Int)) (rfl) ?_
      refine nr ?_; intro U h; simp only [z0, z1] at h; subst h
      refine s_val 14 rfl rfl (.slice (if sc = k + m then so else so.map (·.add ((k + m) * 1))) ((u.drop (k + m)).length) (sc - (k + m))) (rfl) ?_
      refine nr ?_; intro U h; simp only [z0, z1] at h; subst h
      refine wpList_nil ?_
      refine then_n ?_
      refine wp_seq ?_
      refine wp_seq ?_
      have kr := HR.box
      refine wp_region_exA (A := ?Ax11) 16 [(0, 112), (1, 113), (2, 114), (3, 115), (4, 116), (5, 117), (6, 118), (7, 119), (8, 120), (9, 121), (10, 122), (11, 123), (12, 124), (13, 125), (14, 126), (15, 127)] [.val (.int .i64 ((k + m + 1 : Nat) : Int)), .val (.int .i64 ((k + m + 1 : Nat) : Int)), .val (.bool false), .val (.bool false), .val (.slice (some ⟨gl, 0, none⟩) rr.length rr.length), .val (.slice (if sc = k + m then so else so.map (·.add ((k + m) * 1))) ((u.drop (k + m)).length) (sc - (k + m))), .val (.bool true), .val (.bool false), .val (.bool false), .val (.bool false), .val (.pointer (some ⟨p, 0, none⟩)), .val (.int .i64 ((c : Nat) : Int)), .val (.pointer (some ⟨r, 0, none⟩)), .val (.pointer (some ⟨r, 0, none⟩)), .val (.pointer (some ⟨r, 2, none⟩)), .val (.int .i64 ((c : Nat) : Int))] follows (by kernel_rfl) rfl ?hAx11 (opsA_cons ?o0x11 (opsA_cons ?o1x11 (opsA_cons ?o2x11 (opsA_cons ?o3x11 (opsA_cons ?o4x11 (opsA_cons ?o5x11 (opsA_cons ?o6x11 (opsA_cons ?o7x11 (opsA_cons ?o8x11 (opsA_cons ?o9x11 (opsA_cons ?o10x11 (opsA_cons ?o11x11 (opsA_cons ?o12x11 (opsA_cons ?o13x11 (opsA_cons ?o14x11 (opsA_cons ?o15x11 opsA_nil)))))))))))))))) ?restx11
      case hAx11 =>
        intro ptrs
        simp only [full, foldSlots, filledE, postE, List.foldl_cons, List.foldl_nil, List.getD_cons_zero, List.getD_cons_succ, fill_val, List.set_cons_zero, List.set_cons_succ]
        exact rfl
      case o0x11 => exact fun _ _ _ _ => opE_move (v := .int .i64 ((k + m + 1 : Nat) : Int)) _ rfl rfl rfl
      case o1x11 => exact fun _ _ _ _ => opE_move (v := .int .i64 ((k + m + 1 : Nat) : Int)) _ rfl rfl rfl
      case o2x11 => exact fun _ _ hw _ => opE_value (v := .bool false) rfl (run_neq_k 2 .i64 _ _ _ rfl Try.underlying2 ((k + m + 1 : Nat) : Int) ((k + m + 1 : Nat) : Int) rfl rfl false (decide_eq_true rfl) _)
      case o3x11 => exact fun _ _ _ _ => opE_move (v := .bool false) _ rfl rfl rfl
      case o4x11 => exact fun _ _ _ _ => opE_move (v := .slice (some ⟨gl, 0, none⟩) rr.length rr.length) _ rfl rfl rfl
      case o5x11 => exact fun _ _ _ _ => opE_move (v := .slice (if sc = k + m then so else so.map (·.add ((k + m) * 1))) ((u.drop (k + m)).length) (sc - (k + m))) _ rfl rfl rfl
      case o6x11 => exact fun _ _ hw _ => opE_call (.val (.bool true)) rfl _ 17 Try.call17 rfl rfl _ rfl [.slice (some ⟨gl, 0, none⟩) rr.length rr.length, .slice (if sc = k + m then so else so.map (·.add ((k + m) * 1))) ((u.drop (k + m)).length) (sc - (k + m))] rfl ((sameAll_t _ (some ⟨gl, 0, none⟩) rr.length _ (HL.gro ((Gro.refl _).drew.trans hw)).lc _ _ _ ((HR.gro ((Gro.refl _).drew.trans hw)).lcd (k + m) (by omega)) rr.length _ (by simp) (by simp) (by omega) (hr.trans hqu2)).mono fun e w' ⟨he, hg⟩ => ⟨_, he, hg, rfl⟩)
      case o7x11 => exact fun _ _ hw _ => opE_value (v := .bool false) rfl (run_nt _ _ rfl true rfl)
      case o8x11 => exact fun _ _ _ _ => opE_pick (v := .bool false) _ _ _ rfl rfl false rfl rfl
      case o9x11 => exact fun _ _ _ _ => opE_move (v := .bool false) _ rfl rfl rfl
      case o10x11 => exact fun _ _ _ _ => opE_move (v := .pointer (some ⟨p, 0, none⟩)) _ rfl rfl rfl
      case o11x11 => exact fun _ _ hw _ => opE_call (.val (.int .i64 ((c : Nat) : Int))) rfl _ 18 Try.call18 rfl rfl _ rfl [.pointer (some ⟨p, 0, none⟩)] rfl ((got_any _ p w.heap.size ao2 cap2 (q.drop m) (k + m) (c) (HP.gro ((Gro.refl _).drew.trans hw)) (by omega) (by omega)).mono fun e w' ⟨he, hg⟩ => ⟨_, he, hg, rfl⟩)
      case o12x11 => exact fun _ _ _ _ => opE_move (v := .pointer (some ⟨r, 0, none⟩)) _ rfl rfl rfl
      case o13x11 => exact fun _ _ hw _ => opE_value (v := .pointer (some ⟨r, 0, none⟩)) rfl (run_nc _ rfl _ rfl)
      case o14x11 => exact fun _ _ hw _ => opE_value (v := .pointer (some ⟨r, 2, none⟩)) rfl (run_fld 28 _ 2 rfl _ _ rfl _ (by kernel_rfl))
      case o15x11 => exact fun _ _ hw _ => opE_value (v := .int .i64 ((c : Nat) : Int)) rfl (run_ldc 2 _ rfl r 2 rfl 28 _ (hw.has kr) (na2 _) _ rfl)
      intro ptrs w13 GD hxE
      simp only [List.drop_succ_cons, List.drop_zero]
      replace GX := GX.gro ((Gro.refl _).drew.trans GD)
      replace HL := HL.gro ((Gro.refl _).drew.trans GD)
      replace GG := GG.drew.trans GD
      clear kr HP HR
      have HV := HL.av
      clear HL
      clear GD
      refine s_gval 128 rfl rfl (.bool false) (run_neq_k 2 .i64 _ _ _ rfl Try.underlying2 ((c : Nat) : Int) ((c : Nat) : Int) rfl rfl false (decide_eq_true rfl) _) ?_
      refine nr ?_; intro U h; simp only [z0, z1] at h; subst h
      refine s_val 129 rfl rfl (.bool false) (rfl) ?_
      refine nr ?_; intro U h; simp only [z0, z1] at h; subst h
      refine wpList_nil ?_
      refine then_n ?_
      refine wp_cond_false rfl ?_
      refine wp_skip ?_
      refine then_n ?_
      refine wp_seq ?_
      refine wp_region_lit ?_
      refine s_val 130 rfl rfl (.slice (some ⟨gl, 0, none⟩) rr.length rr.length) (rfl) ?_
      refine nr ?_; intro U h; simp only [z0, z1] at h; subst h
      refine s_val 131 rfl rfl (.int .i64 ((rr.length : Nat) : Int)) (run_len Try.underlying26 _ rfl _ _ _ rfl _) ?_
      refine nr ?_; intro U h; simp only [z0, z1] at h; subst h
      refine s_val 132 rfl rfl (.int .i64 0) (rfl) ?_
      refine nr ?_; intro U h; simp only [z0, z1] at h; subst h
      refine wpList_nil ?_
      refine then_n ?_
      refine wp_block ?_
      have hrr : rr.length ≤ 1000 := by omega
      refine wp_loopN (fun mz az wv => ∃ (e3 : Nat) (us2 : Nat → Value), mz = rr.length - e3 ∧ az = ⟨[.slice ao os.length cap, undef, us1 0, .pointer (some ⟨p, 0, none⟩), .pointer (some ⟨r, 0, none⟩), .int .i64 ((j : Nat) : Int), .pointer (some ⟨g1, 0, none⟩), us1 3, us1 4, us1 5, us1 6, .int .i64 ((k + m + 1 : Nat) : Int), .slice (some ⟨gl, 0, none⟩) rr.length rr.length, .int .i64 ((k + m + 1 : Nat) : Int), .slice (if sc = k + m then so else so.map (·.add ((k + m) * 1))) ((u.drop (k + m)).length) (sc - (k + m)), undef, us2 0, us2 1, .pointer (some ⟨p, 0, none⟩), .agg (c28 Sl.nil 0 0), .pointer (some ⟨r, 0, none⟩), .pointer (some ⟨p, 0, none⟩), .bool false, .bool false, .bool true, .bool false, .bool false, .slice ao os.length cap, .int .i64 ((os.length : Nat) : Int), .int .i64 ((j : Nat) : Int), .bool true, .int .i64 ((j : Nat) : Int), .pointer (some (ad.add (j * 3))), .agg (c32 oq.k oq.i ⟨oq.ao, oq.l.length, oq.cap⟩), .int .i64 ((j : Nat) : Int), .bool false, .pointer (some ⟨g1, 2, none⟩), .slice oq.ao oq.l.length oq.cap, .pointer (some ⟨g1, 2, none⟩), .slice oq.ao oq.l.length oq.cap, .int .i64 ((oq.l.length : Nat) : Int), .int .i64 ((lb.length : Nat) : Int), .slice oq.ao lb.length oq.cap, .pointer (some ⟨g1, 2, none⟩), .pointer (some ⟨g1, 0, none⟩), .int .i64 oq.k, .bool false, .bool false, us1 31, us1 32, us1 33, us1 34, us1 35, us1 36, us1 37, us1 38, us1 39, us1 40, us1 41, us1 42, us1 43, us1 44, us1 45, us1 46, us1 47, us1 48, us1 49, us1 50, us1 51, us1 52, us1 53, us1 54, us1 55, us1 56, us1 57, us1 58, us1 59, us1 60, us1 61, us1 62, .bool true, .bool true, .pointer (some ⟨p, 0, none⟩), .pointer (some ⟨g1, 1, none⟩), .int .i64 ((k + m : Nat) : Int), .int .i64 ((m : Nat) : Int), .pointer (some ⟨r, 0, none⟩), .pointer (some ⟨g1, 1, none⟩), .int .i64 ((k + m : Nat) : Int), .int .i64 ((m : Nat) : Int), .bool false, us1 74, us1 75, us1 76, us1 77, us1 78, us1 79, us1 80, us1 81, us1 82, us1 83, us1 84, .tuple #[.int .i64 ((k + m + 1 : Nat) : Int), .slice (some ⟨gl, 0, none⟩) rr.length rr.length], .pointer (some ⟨p, 0, none⟩), .tuple #[.int .i64 ((k + m + 1 : Nat) : Int), .slice (some ⟨gl, 0, none⟩) rr.length rr.length], .int .i64 ((k + m + 1 : Nat) : Int), .slice (some ⟨gl, 0, none⟩) rr.length rr.length, .tuple #[.int .i64 ((k + m + 1 : Nat) : Int), .slice (if sc = k + m then so else so.map (·.add ((k + m) * 1))) ((u.drop (k + m)).length) (sc - (k + m))], .pointer (some ⟨r, 0, none⟩), .tuple #[.int .i64 ((k + m + 1 : Nat) : Int), .slice (if sc = k + m then so else so.map (·.add ((k + m) * 1))) ((u.drop (k + m)).length) (sc - (k + m))], .int .i64 ((k + m + 1 : Nat) : Int), .slice (if sc = k + m then so else so.map (·.add ((k + m) * 1))) ((u.drop (k + m)).length) (sc - (k + m)), .int .i64 ((k + m + 1 : Nat) : Int), .int .i64 ((k + m + 1 : Nat) : Int), .bool false, .bool false, .slice (some ⟨gl, 0, none⟩) rr.length rr.length, .slice (if sc = k + m then so else so.map (·.add ((k + m) * 1))) ((u.drop (k + m)).length) (sc - (k + m)), .bool true, .bool false, .bool false, .bool false, .pointer (some ⟨p, 0, none⟩), .int .i64 ((c : Nat) : Int), .pointer (some ⟨r, 0, none⟩), .pointer (some ⟨r, 0, none⟩), .pointer (some ⟨r, 2, none⟩), .int .i64 ((c : Nat) : Int), .bool false, .bool false, .slice (some ⟨gl, 0, none⟩) rr.length rr.length, .int .i64 ((rr.length : Nat) : Int), .int .i64 ((e3 : Nat) : Int), us2 2, us2 3, us2 4, us2 5, us2 6, us2 7, us2 8, us2 9, us2 10, us2 11, us2 12, us2 13, us2 14, us2 15, us2 16, us2 17, us1 132].toArray, []⟩ ∧ e3 ≤ rr.length ∧ Gro w wv ∧ Gro w10 wv ∧ AV wv w10.heap.size gl rr) ?_ _ ⟨0, (fun kz => ([us1 11, us1 12, us1 116, us1 117, us1 118, us1 119, us1 120, us1 121, us1 122, us1 123, us1 124, us1 125, us1 126, us1 127, us1 128, us1 129, us1 130, us1 131] : List Value).getD kz undef), rfl, rfl, Nat.zero_le _, GG, GX, HV⟩
      clear GG GX HV
      rintro mz az wv ⟨e3, us2, rfl, rfl, he3, GG, GX, HV⟩
      refine wp_seq ?_
      refine wp_region_lit ?_
      obtain ⟨p5, hp5⟩ : ∃ p, decide (((e3 : Nat) : Int) < ((rr.length : Nat) : Int)) = p := ⟨_, rfl⟩
      refine s_val 133 rfl rfl (.bool p5) (run_lssT 3 _ _ _ rfl ((e3 : Nat) : Int) ((rr.length : Nat) : Int) rfl rfl p5 hp5 _) ?_
      refine nr ?_; intro U h; simp only [z0, z1] at h; subst h
      cases p5
      · have HP := HP0.gro GX
        have HR := HR0.gro GX
        refine wpList_nil ?_
        refine then_n ?_
        refine wp_seq ?_
        refine wp_cond_false rfl ?_
        refine wp_exit ?_
        refine then_x ?_
        refine then_x ?_
        refine blk_x ?_
        refine blk_n ?_
        refine then_n ?_
        refine wp_region_lit ?_
        refine s_val 149 rfl rfl (.int .i64 ((j + 1 : Nat) : Int)) (run_addI 3 _ _ _ rfl ((j : Nat) : Int) 1 ((j + 1 : Nat) : Int) rfl rfl (by omega) (by omega) (by omega) _) ?_
        refine nr ?_; intro U h; simp only [z0, z1] at h; subst h
        refine s_val 29 rfl rfl (.int .i64 ((j + 1 : Nat) : Int)) (rfl) ?_
        refine nr ?_; intro U h; simp only [z0, z1] at h; subst h
        refine wpList_nil ?_
        refine then_n ?_
        exact ⟨_, (by omega : os.length - (j + 1) < os.length - j), j + 1, ao2, cap2, (q.drop m), so, sc, u, k + m, c, (fun kz => ([us1 0, .int .i64 ((j : Nat) : Int), .pointer (some ⟨g1, 0, none⟩), us1 3, us1 4, us1 5, us1 6, .int .i64 ((k + m + 1 : Nat) : Int), .slice (some ⟨gl, 0, none⟩) rr.length rr.length, .int .i64 ((k + m + 1 : Nat) : Int), .slice (if sc = k + m then so else so.map (·.add ((k + m) * 1))) ((u.drop (k + m)).length) (sc - (k + m)), us2 0, us2 1, .bool true, .int .i64 ((j : Nat) : Int), .pointer (some (ad.add (j * 3))), .agg (c32 oq.k oq.i ⟨oq.ao, oq.l.length, oq.cap⟩), .int .i64 ((j : Nat) : Int), .bool false, .pointer (some ⟨g1, 2, none⟩), .slice oq.ao oq.l.length oq.cap, .pointer (some ⟨g1, 2, none⟩), .slice oq.ao oq.l.length oq.cap, .int .i64 ((oq.l.length : Nat) : Int), .int .i64 ((lb.length : Nat) : Int), .slice oq.ao lb.length oq.cap, .pointer (some ⟨g1, 2, none⟩), .pointer (some ⟨g1, 0, none⟩), .int .i64 oq.k, .bool false, .bool false, us1 31, us1 32, us1 33, us1 34, us1 35, us1 36, us1 37, us1 38, us1 39, us1 40, us1 41, us1 42, us1 43, us1 44, us1 45, us1 46, us1 47, us1 48, us1 49, us1 50, us1 51, us1 52, us1 53, us1 54, us1 55, us1 56, us1 57, us1 58, us1 59, us1 60, us1 61, us1 62, .bool true, .bool true, .pointer (some ⟨p, 0, none⟩), .pointer (some ⟨g1, 1, none⟩), .int .i64 ((k + m : Nat) : Int), .int .i64 ((m : Nat) : Int), .pointer (some ⟨r, 0, none⟩), .pointer (some ⟨g1, 1, none⟩), .int .i64 ((k + m : Nat) : Int), .int .i64 ((m : Nat) : Int), .bool false, us1 74, us1 75, us1 76, us1 77, us1 78, us1 79, us1 80, us1 81, us1 82, us1 83, us1 84, .tuple #[.int .i64 ((k + m + 1 : Nat) : Int), .slice (some ⟨gl, 0, none⟩) rr.length rr.length], .pointer (some ⟨p, 0, none⟩), .tuple #[.int .i64 ((k + m + 1 : Nat) : Int), .slice (some ⟨gl, 0, none⟩) rr.length rr.length], .int .i64 ((k + m + 1 : Nat) : Int), .slice (some ⟨gl, 0, none⟩) rr.length rr.length, .tuple #[.int .i64 ((k + m + 1 : Nat) : Int), .slice (if sc = k + m then so else so.map (·.add ((k + m) * 1))) ((u.drop (k + m)).length) (sc - (k + m))], .pointer (some ⟨r, 0, none⟩), .tuple #[.int .i64 ((k + m + 1 : Nat) : Int), .slice (if sc = k + m then so else so.map (·.add ((k + m) * 1))) ((u.drop (k + m)).length) (sc - (k + m))], .int .i64 ((k + m + 1 : Nat) : Int), .slice (if sc = k + m then so else so.map (·.add ((k + m) * 1))) ((u.drop (k + m)).length) (sc - (k + m)), .int .i64 ((k + m + 1 : Nat) : Int), .int .i64 ((k + m + 1 : Nat) : Int), .bool false, .bool false, .slice (some ⟨gl, 0, none⟩) rr.length rr.length, .slice (if sc = k + m then so else so.map (·.add ((k + m) * 1))) ((u.drop (k + m)).length) (sc - (k + m)), .bool true, .bool false, .bool false, .bool false, .pointer (some ⟨p, 0, none⟩), .int .i64 ((c : Nat) : Int), .pointer (some ⟨r, 0, none⟩), .pointer (some ⟨r, 0, none⟩), .pointer (some ⟨r, 2, none⟩), .int .i64 ((c : Nat) : Int), .bool false, .bool false, .slice (some ⟨gl, 0, none⟩) rr.length rr.length, .int .i64 ((rr.length : Nat) : Int), .int .i64 ((e3 : Nat) : Int), .bool false, us2 3, us2 4, us2 5, us2 6, us2 7, us2 8, us2 9, us2 10, us2 11, us2 12, us2 13, us2 14, us2 15, us2 16, us2 17, .int .i64 ((j + 1 : Nat) : Int)] : List Value).getD kz undef), rfl, rfl, hjn, (by omega), hkq2, huj2, hcj2, hqu2, hdis, GG, HP, HR⟩
      have he3n : e3 < rr.length := by have := of_decide_eq_true hp5; omega
      obtain ⟨zr, hzr⟩ : ∃ x, rr[e3]? = some x := ⟨_, List.getElem?_eq_getElem he3n⟩
      have hzm := List.mem_of_getElem? hzr
      refine wpList_nil ?_
      refine then_n ?_
      refine wp_seq ?_
      refine wp_cond_true rfl ?_
      refine wp_skip ?_
      refine then_n ?_
      refine wp_seq ?_
      refine wp_block ?_
      refine wp_seq ?_
      refine wp_region_lit ?_
      refine s_val 134 rfl rfl (.pointer (some ⟨gl, e3, none⟩)) (run_idxg _ _ rfl gl rr.length rr.length e3 rfl rfl he3n _) ?_
      refine nr ?_; intro U h; simp only [z0, z1] at h; subst h
      refine s_val 135 rfl rfl (.slice (some ⟨zr.1, 0, none⟩) zr.2.length zr.2.length) (run_ld24 _ rfl _ rfl _ _ (by exact HV.at hzr)) ?_
      refine nr ?_; intro U h; simp only [z0, z1] at h; subst h
      refine s_val 16 rfl rfl (.slice (some ⟨zr.1, 0, none⟩) zr.2.length zr.2.length) (rfl) ?_
      refine nr ?_; intro U h; simp only [z0, z1] at h; subst h
      refine wpList_nil ?_
      refine then_n ?_
      refine wp_seq ?_
      refine wp_region_lit ?_
      refine s_val 136 rfl rfl (.slice (some ⟨zr.1, 0, none⟩) zr.2.length zr.2.length) (rfl) ?_
      refine nr ?_; intro U h; simp only [z0, z1] at h; subst h
      refine s_val 137 rfl rfl (.int .i64 ((zr.2.length : Nat) : Int)) (run_len Try.underlying30 _ rfl _ _ _ rfl _) ?_
      refine nr ?_; intro U h; simp only [z0, z1] at h; subst h
      refine s_val 138 rfl rfl (.int .i64 0) (rfl) ?_
      refine nr ?_; intro U h; simp only [z0, z1] at h; subst h
      refine wpList_nil ?_
      refine then_n ?_
      refine wp_block ?_
      have hz9 := hzs zr hzm
      refine wp_loopN (fun mz az wv => ∃ (e2 : Nat) (us3 : Nat → Value), mz = zr.2.length - e2 ∧ az = ⟨[.slice ao os.length cap, undef, us1 0, .pointer (some ⟨p, 0, none⟩), .pointer (some ⟨r, 0, none⟩), .int .i64 ((j : Nat) : Int), .pointer (some ⟨g1, 0, none⟩), us1 3, us1 4, us1 5, us1 6, .int .i64 ((k + m + 1 : Nat) : Int), .slice (some ⟨gl, 0, none⟩) rr.length rr.length, .int .i64 ((k + m + 1 : Nat) : Int), .slice (if sc = k + m then so else so.map (·.add ((k + m) * 1))) ((u.drop (k + m)).length) (sc - (k + m)), undef, .slice (some ⟨zr.1, 0, none⟩) zr.2.length zr.2.length, us3 0, .pointer (some ⟨p, 0, none⟩), .agg (c28 Sl.nil 0 0), .pointer (some ⟨r, 0, none⟩), .pointer (some ⟨p, 0, none⟩), .bool false, .bool false, .bool true, .bool false, .bool false, .slice ao os.length cap, .int .i64 ((os.length : Nat) : Int), .int .i64 ((j : Nat) : Int), .bool true, .int .i64 ((j : Nat) : Int), .pointer (some (ad.add (j * 3))), .agg (c32 oq.k oq.i ⟨oq.ao, oq.l.length, oq.cap⟩), .int .i64 ((j : Nat) : Int), .bool false, .pointer (some ⟨g1, 2, none⟩), .slice oq.ao oq.l.length oq.cap, .pointer (some ⟨g1, 2, none⟩), .slice oq.ao oq.l.length oq.cap, .int .i64 ((oq.l.length : Nat) : Int), .int .i64 ((lb.length : Nat) : Int), .slice oq.ao lb.length oq.cap, .pointer (some ⟨g1, 2, none⟩), .pointer (some ⟨g1, 0, none⟩), .int .i64 oq.k, .bool false, .bool false, us1 31, us1 32, us1 33, us1 34, us1 35, us1 36, us1 37, us1 38, us1 39, us1 40, us1 41, us1 42, us1 43, us1 44, us1 45, us1 46, us1 47, us1 48, us1 49, us1 50, us1 51, us1 52, us1 53, us1 54, us1 55, us1 56, us1 57, us1 58, us1 59, us1 60, us1 61, us1 62, .bool true, .bool true, .pointer (some ⟨p, 0, none⟩), .pointer (some ⟨g1, 1, none⟩), .int .i64 ((k + m : Nat) : Int), .int .i64 ((m : Nat) : Int), .pointer (some ⟨r, 0, none⟩), .pointer (some ⟨g1, 1, none⟩), .int .i64 ((k + m : Nat) : Int), .int .i64 ((m : Nat) : Int), .bool false, us1 74, us1 75, us1 76, us1 77, us1 78, us1 79, us1 80, us1 81, us1 82, us1 83, us1 84, .tuple #[.int .i64 ((k + m + 1 : Nat) : Int), .slice (some ⟨gl, 0, none⟩) rr.length rr.length], .pointer (some ⟨p, 0, none⟩), .tuple #[.int .i64 ((k + m + 1 : Nat) : Int), .slice (some ⟨gl, 0, none⟩) rr.length rr.length], .int .i64 ((k + m + 1 : Nat) : Int), .slice (some ⟨gl, 0, none⟩) rr.length rr.length, .tuple #[.int .i64 ((k + m + 1 : Nat) : Int), .slice (if sc = k + m then so else so.map (·.add ((k + m) * 1))) ((u.drop (k + m)).length) (sc - (k + m))], .pointer (some ⟨r, 0, none⟩), .tuple #[.int .i64 ((k + m + 1 : Nat) : Int), .slice (if sc = k + m then so else so.map (·.add ((k + m) * 1))) ((u.drop (k + m)).length) (sc - (k + m))], .int .i64 ((k + m + 1 : Nat) : Int), .slice (if sc = k + m then so else so.map (·.add ((k + m) * 1))) ((u.drop (k + m)).length) (sc - (k + m)), .int .i64 ((k + m + 1 : Nat) : Int), .int .i64 ((k + m + 1 : Nat) : Int), .bool false, .bool false, .slice (some ⟨gl, 0, none⟩) rr.length rr.length, .slice (if sc = k + m then so else so.map (·.add ((k + m) * 1))) ((u.drop (k + m)).length) (sc - (k + m)), .bool true, .bool false, .bool false, .bool false, .pointer (some ⟨p, 0, none⟩), .int .i64 ((c : Nat) : Int), .pointer (some ⟨r, 0, none⟩), .pointer (some ⟨r, 0, none⟩), .pointer (some ⟨r, 2, none⟩), .int .i64 ((c : Nat) : Int), .bool false, .bool false, .slice (some ⟨gl, 0, none⟩) rr.length rr.length, .int .i64 ((rr.length : Nat) : Int), .int .i64 ((e3 : Nat) : Int), .bool true, .pointer (some ⟨gl, e3, none⟩), .slice (some ⟨zr.1, 0, none⟩) zr.2.length zr.2.length, .slice (some ⟨zr.1, 0, none⟩) zr.2.length zr.2.length, .int .i64 ((zr.2.length : Nat) : Int), .int .i64 ((e2 : Nat) : Int), us3 1, us3 2, us3 3, us3 4, us3 5, us3 6, us3 7, us3 8, us3 9, us2 17, us1 132].toArray, []⟩ ∧ e2 ≤ zr.2.length ∧ Gro w wv ∧ Gro w10 wv ∧ AV wv w10.heap.size gl rr) ?_ _ ⟨0, (fun kz => ([us2 1, us2 8, us2 9, us2 10, us2 11, us2 12, us2 13, us2 14, us2 15, us2 16] : List Value).getD kz undef), rfl, rfl, Nat.zero_le _, GG, GX, HV⟩
      clear GG GX HV
      rintro mz az wv ⟨e2, us3, rfl, rfl, he2, GG, GX, HV⟩
      refine wp_seq ?_
      refine wp_region_lit ?_
      obtain ⟨p6, hp6⟩ : ∃ p, decide (((e2 : Nat) : Int) < ((zr.2.length : Nat) : Int)) = p := ⟨_, rfl⟩
      refine s_val 139 rfl rfl (.bool p6) (run_lssT 3 _ _ _ rfl ((e2 : Nat) : Int) ((zr.2.length : Nat) : Int) rfl rfl p6 hp6 _) ?_
      refine nr ?_; intro U h; simp only [z0, z1] at h; subst h
      cases p6
      · refine wpList_nil ?_
        refine then_n ?_
        refine wp_seq ?_
        refine wp_cond_false rfl ?_
        refine wp_exit ?_
        refine then_x ?_
        refine then_x ?_
        refine blk_x ?_
        refine blk_n ?_
        refine then_n ?_
        refine wp_region_lit ?_
        refine s_val 148 rfl rfl (.int .i64 ((e3 + 1 : Nat) : Int)) (run_addI 3 _ _ _ rfl ((e3 : Nat) : Int) 1 ((e3 + 1 : Nat) : Int) rfl rfl (by omega) (by omega) (by omega) _) ?_
        refine nr ?_; intro U h; simp only [z0, z1] at h; subst h
        refine s_val 132 rfl rfl (.int .i64 ((e3 + 1 : Nat) : Int)) (rfl) ?_
        refine nr ?_; intro U h; simp only [z0, z1] at h; subst h
        refine wpList_nil ?_
        refine then_n ?_
        exact ⟨_, (by omega : rr.length - (e3 + 1) < rr.length - e3), e3 + 1, (fun kz => ([.slice (some ⟨zr.1, 0, none⟩) zr.2.length zr.2.length, us3 0, .bool true, .pointer (some ⟨gl, e3, none⟩), .slice (some ⟨zr.1, 0, none⟩) zr.2.length zr.2.length, .slice (some ⟨zr.1, 0, none⟩) zr.2.length zr.2.length, .int .i64 ((zr.2.length : Nat) : Int), .int .i64 ((e2 : Nat) : Int), .bool false, us3 2, us3 3, us3 4, us3 5, us3 6, us3 7, us3 8, us3 9, .int .i64 ((e3 + 1 : Nat) : Int)] : List Value).getD kz undef), rfl, rfl, he3n, GG, GX, HV⟩
      have he2n : e2 < zr.2.length := by have := of_decide_eq_true hp6; omega
      obtain ⟨hz0, l1, hl1, kz, hb1⟩ := HV.fr zr hzm
      refine wpList_nil ?_
      refine then_n ?_
      refine wp_seq ?_
      refine wp_cond_true rfl ?_
      refine wp_skip ?_
      refine then_n ?_
      refine wp_seq ?_
      refine wp_block ?_
      refine wp_seq ?_
      refine wp_region_lit ?_
      refine s_val 140 rfl rfl (.int .i64 ((e2 : Nat) : Int)) (rfl) ?_
      refine nr ?_; intro U h; simp only [z0, z1] at h; subst h
      refine s_val 17 rfl rfl (.int .i64 ((e2 : Nat) : Int)) (rfl) ?_
      refine nr ?_; intro U h; simp only [z0, z1] at h; subst h
      refine wpList_nil ?_
      refine then_n ?_
      refine wp_region_lit ?_
      refine s_val 141 rfl rfl (.slice (some ⟨zr.1, 0, none⟩) zr.2.length zr.2.length) (rfl) ?_
      refine nr ?_; intro U h; simp only [z0, z1] at h; subst h
      refine s_val 142 rfl rfl (.int .i64 ((e2 : Nat) : Int)) (rfl) ?_
      refine nr ?_; intro U h; simp only [z0, z1] at h; subst h
      refine s_val 143 rfl rfl (.pointer (some ⟨zr.1, e2, none⟩)) (bat _ _ rfl zr.1 zr.2.length zr.2.length e2 rfl rfl he2n _) ?_
      refine nr ?_; intro U h; simp only [z0, z1] at h; subst h
      refine s_val 144 rfl rfl (.int .u8 ((l1.getD e2 0 : Nat) : Int)) (run_ld bT _ rfl ⟨zr.1, e2, none⟩ rfl _ _ (bvc kz (by omega))) ?_
      refine nr ?_; intro U h; simp only [z0, z1] at h; subst h
      refine s_val 145 rfl rfl (.int .u8 ((inc8 (l1.getD e2 0) : Nat) : Int)) (run_inc8 _ _ _ rfl (l1.getD e2 0) rfl rfl _) ?_
      refine nr ?_; intro U h; simp only [z0, z1] at h; subst h
      refine s_val 146 rfl rfl (.pointer (some ⟨zr.1, e2, none⟩)) (bat _ _ rfl zr.1 zr.2.length zr.2.length e2 rfl rfl he2n _) ?_
      refine nr ?_; intro U h; simp only [z0, z1] at h; subst h
      refine s_store rfl rfl 5 _ _ rfl zr.1 e2 rfl (.int .u8 ((inc8 (l1.getD e2 0) : Nat) : Int)) rfl 5 _ kz #[.int .u8 ((inc8 (l1.getD e2 0) : Nat) : Int)] rfl si5 (by rw [bv_size]; simp only [List.size_toArray, List.length_cons, List.length_nil]; omega) (one1 _) _ (bv_set l1 e2 _ (by omega)) ?_
      intro w14 St
      replace GG := GG.store St (by omega)
      replace GX := GX.store St hz0
      replace HV := HV.st kz St (by simp) (set_byte hb1 _ _ (inc8_lt _))
      clear St kz
      refine wpList_nil ?_
      refine blk_n ?_
      refine then_n ?_
      refine wp_region_lit ?_
      refine s_val 147 rfl rfl (.int .i64 ((e2 + 1 : Nat) : Int)) (run_addI 3 _ _ _ rfl ((e2 : Nat) : Int) 1 ((e2 + 1 : Nat) : Int) rfl rfl (by omega) (by omega) (by omega) _) ?_
      refine nr ?_; intro U h; simp only [z0, z1] at h; subst h
      refine s_val 138 rfl rfl (.int .i64 ((e2 + 1 : Nat) : Int)) (rfl) ?_
      refine nr ?_; intro U h; simp only [z0, z1] at h; subst h
      refine wpList_nil ?_
      refine then_n ?_
      exact ⟨_, (by omega : zr.2.length - (e2 + 1) < zr.2.length - e2), e2 + 1, (fun kz => ([.int .i64 ((e2 : Nat) : Int), .bool true, .int .i64 ((e2 : Nat) : Int), .slice (some ⟨zr.1, 0, none⟩) zr.2.length zr.2.length, .int .i64 ((e2 : Nat) : Int), .pointer (some ⟨zr.1, e2, none⟩), .int .u8 ((l1.getD e2 0 : Nat) : Int), .int .u8 ((inc8 (l1.getD e2 0) : Nat) : Int), .pointer (some ⟨zr.1, e2, none⟩), .int .i64 ((e2 + 1 : Nat) : Int)] : List Value).getD kz undef), rfl, rfl, he2n, GG, GX, HV⟩
    refine s_val 46 rfl rfl (.bool true) (rfl) ?_
    refine nr ?_; intro U h; simp only [z0, z1] at h; subst h
    refine wpList_nil ?_
    refine then_n ?_
    refine wp_cond_true rfl ?_
    refine wp_seq ?_
    refine wp_region_lit ?_
    have hM0 := HP.old (Nat.le_refl _)
    have hM1 := HR.old (Nat.le_refl _)
    refine s_bsl 48 rfl rfl 30 0 _ rfl [] rfl #[] 5 (by kernel_rfl) ?_
    intro w9 gb G1 egb kgb
    rw [egb] at hM0 hM1
    refine nr ?_; intro U h; simp only [z0, z1] at h; subst h
    refine s_val 49 rfl rfl (.pointer (some ⟨g1, 2, none⟩)) (run_fld 32 _ 2 rfl _ _ rfl _ (by kernel_rfl)) ?_
    refine nr ?_; intro U h; simp only [z0, z1] at h; subst h
    refine s_val 50 rfl rfl (.slice oq.ao lb.length oq.cap) (run_ldc 30 _ rfl g1 2 rfl 32 _ (G1.has kg1) (na30 _) _ rfl) ?_
    refine nr ?_; intro U h; simp only [z0, z1] at h; subst h
    have HO1 : OB _ 5 .u8 gb (some ⟨gb, 0, none⟩) 0 [] := OB.made kgb (Nat.le_refl _) (Nat.le_refl _) (Nat.zero_le _) rfl rfl (fun x hx => by cases hx)
    refine s_app bT 51 rfl rfl _ _ rfl rfl HO1 (l' := lb) rfl (ncl.gro (GG.trans G1)) (by simp only [List.length_nil]; omega) (by decide) (Nat.le_of_lt (lt_of_heap kgb)) ?_
    intro ao4 cap4 w10 HO2 BB
    rw [List.nil_append] at HO2
    simp only [List.nil_append]
    have G := below_gro G1 BB (Nat.le_of_eq egb)
    have bgb := size_base GG egb
    have HW := HO2.mono bgb
    have hW4 : ∀ ad, ao4 = some ad → gb ≤ ad.block := fun ad ha => (HO2.ge ad ha).1
    clear HO1 HO2 BB G1 egb kgb
    replace kg1 := G.has kg1
    replace HP := HP.gro G
    replace HR := HR.gro G
    replace GG := GG.trans G
    clear G
    refine nr ?_; intro U h; simp only [z0, z1] at h; subst h
    refine s_val 7 rfl rfl (.slice ao4 lb.length cap4) (rfl) ?_
    refine nr ?_; intro U h; simp only [z0, z1] at h; subst h
    refine wpList_nil ?_
    refine then_n ?_
    refine wp_seq ?_
    refine wp_region_lit ?_
    refine s_val 53 rfl rfl (.pointer (some ⟨p, 0, none⟩)) (rfl) ?_
    refine nr ?_; intro U h; simp only [z0, z1] at h; subst h
    refine s_val 54 rfl rfl (.slice ao4 lb.length cap4) (rfl) ?_
    refine nr ?_; intro U h; simp only [z0, z1] at h; subst h
    have hdis0 := hdis
    have hWM : ∀ ad, ao4 = some ad → ad.block < w10.heap.size := fun ad ha => (HW.ge ad ha).2
    refine s_callx 55 rfl rfl _ 9 Try.call9 rfl rfl _ rfl [.pointer (some ⟨p, 0, none⟩), .slice ao4 lb.length cap4] rfl (send_ok _ p w.heap.size ro rc q k c HP (by omega) (by omega) ao4 cap4 lb HW.nc (fun ad ha _ hm => HP.ob HW ad ha (List.mem_cons_of_mem _ hm)) (by omega)) (fun _ _ ⟨_, _, _, he, _⟩ => ⟨_, he⟩) ?_
    rintro v w11 ⟨ao2, cap2, y, he, hyl, G, HP2, HY, hkp⟩
    cases he
    replace kg1 := G.has kg1 (HP.notT kg1 (by decide) (by decide))
    replace hdis := dis_put HR.row hdis hkp (Nat.le_refl _)
    replace HR := HR.other HP (by decide) G hdis0
    replace HW := HW.gros G (HP.ob HW)
    replace GG := G.gro GG HP.sb
    clear G HP hkp hdis0
    have HP := HP2
    clear HP2
    have hF2 : ∀ x ∈ q ++ [y], ∀ a, x.ao = some a → ∀ ad, ao4 = some ad → a.block ≠ ad.block := fun x hx a ha ad h4 => by
      have h5 := hW4 ad h4
      rcases List.mem_append.1 hx with hx | hx
      · have := hM0 x hx a ha; omega
      · cases List.mem_singleton.1 hx; have h6 := (HY.ge a ha).1; have h7 := hWM ad h4; omega
    clear HY
    have hl2 : (q ++ [y]).length = q.length + 1 := by simp
    refine nr ?_; intro U h; simp only [z0, z1] at h; subst h
    refine s_val 52 rfl rfl (.tuple #[.int .i64 ((k + (q ++ [y]).length : Nat) : Int), .int .i64 0]) (rfl) ?_
    refine nr ?_; intro U h; simp only [z0, z1] at h; subst h
    refine s_val 56 rfl rfl (.int .i64 ((k + (q ++ [y]).length : Nat) : Int)) (rfl) ?_
    refine nr ?_; intro U h; simp only [z0, z1] at h; subst h
    refine s_val 57 rfl rfl (.int .i64 0) (rfl) ?_
    refine nr ?_; intro U h; simp only [z0, z1] at h; subst h
    refine s_val 8 rfl rfl (.int .i64 ((k + (q ++ [y]).length : Nat) : Int)) (rfl) ?_
    refine nr ?_; intro U h; simp only [z0, z1] at h; subst h
    refine s_val 9 rfl rfl (.int .i64 0) (rfl) ?_
    refine nr ?_; intro U h; simp only [z0, z1] at h; subst h
    refine wpList_nil ?_
    refine then_n ?_
    refine wp_seq ?_
    refine wp_seq ?_
    refine wp_region_opq ?_
    intro OPS hY
    have y6 := hY 6 64 rfl
    clear hY
    refine s_val 58 rfl rfl (.int .i64 ((k + (q ++ [y]).length : Nat) : Int)) (rfl) ?_
    refine nr ?_; intro U h; simp only [z0, z1] at h; subst h
    refine s_val 59 rfl rfl (.pointer (some ⟨r, 0, none⟩)) (rfl) ?_
    refine nr ?_; intro U h; simp only [z0, z1] at h; subst h
    refine s_val 60 rfl rfl (.pointer (some ⟨g1, 2, none⟩)) (run_fld 32 _ 2 rfl _ _ rfl _ (by kernel_rfl)) ?_
    refine nr ?_; intro U h; simp only [z0, z1] at h; subst h
    refine s_val 61 rfl rfl (.slice oq.ao lb.length oq.cap) (run_ldc 30 _ rfl g1 2 rfl 32 _ kg1 (na30 _) _ rfl) ?_
    refine nr ?_; intro U h; simp only [z0, z1] at h; subst h
    have hdis0 := hdis
    have hWN : ∀ ad, ao4 = some ad → ad.block < w11.heap.size := fun ad ha => (HW.ge ad ha).2
    refine s_callx 62 rfl rfl _ 10 Try.call10 rfl rfl _ rfl [.pointer (some ⟨r, 0, none⟩), .slice oq.ao lb.length oq.cap] rfl (rsend_ok _ r w.heap.size so sc u k c HR (by omega) (by omega) (by omega) oq.ao oq.cap lb (ncl.gro GG) (fun ad ha h0 hm => by have h1 := ncl.lt ad ha h0; have h2 := HR.row.base _ hm; omega) (by omega)) (fun _ _ ⟨_, _, _, he, _⟩ => ⟨_, he⟩) ?_
    rintro v w12 ⟨ao3, cap3, z, he, hzl, G, HR2, HZ, hkz⟩
    cases he
    replace kg1 := G.has kg1 (HR.notT kg1 (by decide) (by decide))
    replace hdis := dis_app HP.row hdis hkz (Nat.le_refl _)
    replace HP := HP.other HR (by decide) G (dis_sym hdis0)
    replace HW := HW.gros G (HR.ob HW)
    replace GG := G.gro GG HR.sb
    clear G HR hkz hdis0
    have HR := HR2
    clear HR2
    have hF3 : ∀ x ∈ u ++ [z], ∀ a, x.ao = some a → ∀ ad, ao4 = some ad → a.block ≠ ad.block := fun x hx a ha ad h4 => by
      have h5 := hW4 ad h4
      rcases List.mem_append.1 hx with hx | hx
      · have := hM1 x hx a ha; omega
      · cases List.mem_singleton.1 hx; have h6 := (HZ.ge a ha).1; have h7 := hWN ad h4; omega
    clear HZ
    have hl3 : (u ++ [z]).length = u.length + 1 := by simp
    have hqu2 := map_send hqu (by omega) (hyl.trans hzl.symm)
    have hkq2 : k + (q ++ [y]).length = (u ++ [z]).length := by omega
    have huj2 : (u ++ [z]).length ≤ j + 1 := by omega
    have hcj2 : c ≤ j + 1 := by omega
    refine nr ?_; intro U h; simp only [z0, z1] at h; subst h
    refine s_val 63 rfl rfl (.bool false) (run_neq_k 2 .i64 _ _ _ rfl Try.underlying2 ((k + (q ++ [y]).length : Nat) : Int) (((u ++ [z]).length : Nat) : Int) rfl rfl false (decide_eq_true (by omega)) _) ?_
    refine nr ?_; intro U h; simp only [z0, z1] at h; subst h
    refine s_val 64 rfl rfl (.bool false) (rfl) ?_
    refine nr ?_; intro U h; simp only [z0, z1] at h; subst h
    refine s_gvalY 65 rfl rfl y6 rfl (.int .i64 0) (rfl) ?_
    refine nr ?_; intro U h; simp only [z0, z1] at h; subst h
    refine s_gvalY 66 rfl rfl y6 rfl (.bool false) (run_neq_k 33 .i64 _ _ _ rfl Try.underlying33 _ _ rfl rfl false rfl _) ?_
    refine nr ?_; intro U h; simp only [z0, z1] at h; subst h
    refine s_val 67 rfl rfl (.bool false) (rfl) ?_
    refine nr ?_; intro U h; simp only [z0, z1] at h; subst h
    refine wpList_nil ?_
    refine then_n ?_
    refine wp_cond_false rfl ?_
    refine wp_skip ?_
    refine then_n ?_
    refine wp_seq ?_
    refine wp_region_lit ?_
    refine s_val 68 rfl rfl (.slice ao4 lb.length cap4) (rfl) ?_
    refine nr ?_; intro U h; simp only [z0, z1] at h; subst h
    refine s_val 69 rfl rfl (.int .i64 ((lb.length : Nat) : Int)) (run_len Try.underlying30 _ rfl _ _ _ rfl _) ?_
    refine nr ?_; intro U h; simp only [z0, z1] at h; subst h
    refine s_val 70 rfl rfl (.int .i64 0) (rfl) ?_
    refine nr ?_; intro U h; simp only [z0, z1] at h; subst h
    refine wpList_nil ?_
    refine then_n ?_
    refine wp_block ?_
    refine wp_loopN (fun mz az wv => ∃ (e1 : Nat) (l1 : List Nat) (us2 : Nat → Value), mz = lb.length - e1 ∧ az = ⟨[.slice ao os.length cap, undef, us1 0, .pointer (some ⟨p, 0, none⟩), .pointer (some ⟨r, 0, none⟩), .int .i64 ((j : Nat) : Int), .pointer (some ⟨g1, 0, none⟩), .slice ao4 lb.length cap4, .int .i64 ((k + (q ++ [y]).length : Nat) : Int), .int .i64 0, us2 0, us1 7, us1 8, us1 9, us1 10, undef, us1 11, us1 12, .pointer (some ⟨p, 0, none⟩), .agg (c28 Sl.nil 0 0), .pointer (some ⟨r, 0, none⟩), .pointer (some ⟨p, 0, none⟩), .bool false, .bool false, .bool true, .bool false, .bool false, .slice ao os.length cap, .int .i64 ((os.length : Nat) : Int), .int .i64 ((j : Nat) : Int), .bool true, .int .i64 ((j : Nat) : Int), .pointer (some (ad.add (j * 3))), .agg (c32 oq.k oq.i ⟨oq.ao, oq.l.length, oq.cap⟩), .int .i64 ((j : Nat) : Int), .bool false, .pointer (some ⟨g1, 2, none⟩), .slice oq.ao oq.l.length oq.cap, .pointer (some ⟨g1, 2, none⟩), .slice oq.ao oq.l.length oq.cap, .int .i64 ((oq.l.length : Nat) : Int), .int .i64 ((lb.length : Nat) : Int), .slice oq.ao lb.length oq.cap, .pointer (some ⟨g1, 2, none⟩), .pointer (some ⟨g1, 0, none⟩), .int .i64 oq.k, .bool true, .bool true, .slice (some ⟨gb, 0, none⟩) (([] : List Nat).length) 0, .pointer (some ⟨g1, 2, none⟩), .slice oq.ao lb.length oq.cap, .slice ao4 lb.length cap4, .tuple #[.int .i64 ((k + (q ++ [y]).length : Nat) : Int), .int .i64 0], .pointer (some ⟨p, 0, none⟩), .slice ao4 lb.length cap4, .tuple #[.int .i64 ((k + (q ++ [y]).length : Nat) : Int), .int .i64 0], .int .i64 ((k + (q ++ [y]).length : Nat) : Int), .int .i64 0, .int .i64 ((k + (q ++ [y]).length : Nat) : Int), .pointer (some ⟨r, 0, none⟩), .pointer (some ⟨g1, 2, none⟩), .slice oq.ao lb.length oq.cap, .int .i64 (((u ++ [z]).length : Nat) : Int), .bool false, .bool false, .int .i64 0, .bool false, .bool false, .slice ao4 lb.length cap4, .int .i64 ((lb.length : Nat) : Int), .int .i64 ((e1 : Nat) : Int), us2 1, us2 2, us2 3, us2 4, us2 5, us2 6, us2 7, us2 8, us2 9, us1 63, us1 64, us1 65, us1 66, us1 67, us1 68, us1 69, us1 70, us1 71, us1 72, us1 73, us1 74, us1 75, us1 76, us1 77, us1 78, us1 79, us1 80, us1 81, us1 82, us1 83, us1 84, us1 85, us1 86, us1 87, us1 88, us1 89, us1 90, us1 91, us1 92, us1 93, us1 94, us1 95, us1 96, us1 97, us1 98, us1 99, us1 100, us1 101, us1 102, us1 103, us1 104, us1 105, us1 106, us1 107, us1 108, us1 109, us1 110, us1 111, us1 112, us1 113, us1 114, us1 115, us1 116, us1 117, us1 118, us1 119, us1 120, us1 121, us1 122, us1 123, us1 124, us1 125, us1 126, us1 127, us1 128, us1 129, us1 130, us1 131, us1 132].toArray, []⟩ ∧ e1 ≤ lb.length ∧ l1.length = lb.length ∧ Gro w wv ∧ OB wv 5 .u8 w.heap.size ao4 cap4 l1 ∧ WX 57 (c57 ((k + (q ++ [y]).length : Nat) : Int) ⟨ao2, (q ++ [y]).length, cap2⟩ ((c : Nat) : Int)) wv p w.heap.size ao2 cap2 (q ++ [y]) ∧ WX 28 (c28 ⟨ao3, (u ++ [z]).length, cap3⟩ ((k : Nat) : Int) ((c : Nat) : Int)) wv r w.heap.size ao3 cap3 (u ++ [z])) ?_ _ ⟨0, lb, (fun kz => ([us1 6, us1 54, us1 55, us1 56, us1 57, us1 58, us1 59, us1 60, us1 61, us1 62] : List Value).getD kz undef), rfl, rfl, Nat.zero_le _, rfl, GG, HW, HP, HR⟩
    clear GG HP HR HW
    rintro mz az wv ⟨e1, l1, us2, rfl, rfl, he1, hl1, GG, HW, HP, HR⟩
    refine wp_seq ?_
    refine wp_region_lit ?_
    obtain ⟨p4, hp4⟩ : ∃ p, decide (((e1 : Nat) : Int) < ((lb.length : Nat) : Int)) = p := ⟨_, rfl⟩
    refine s_val 71 rfl rfl (.bool p4) (run_lssT 3 _ _ _ rfl ((e1 : Nat) : Int) ((lb.length : Nat) : Int) rfl rfl p4 hp4 _) ?_
    refine nr ?_; intro U h; simp only [z0, z1] at h; subst h
    cases p4
    · refine wpList_nil ?_
      refine then_n ?_
      refine wp_seq ?_
      refine wp_cond_false rfl ?_
      refine wp_exit ?_
      refine then_x ?_
      refine then_x ?_
      refine blk_x ?_
      refine blk_n ?_
      refine then_n ?_
      refine wp_seq ?_
      refine wp_region_lit ?_
      refine s_val 103 rfl rfl (.pointer (some ⟨p, 0, none⟩)) (rfl) ?_
      refine nr ?_; intro U h; simp only [z0, z1] at h; subst h
      obtain ⟨wx, hwx0⟩ : ∃ wx, wx = wv := ⟨_, rfl⟩
      subst hwx0
      have HP0 := HP
      have HR0 := HR
      have GG0 := GG
      have GX := Gro.refl wx
      have hwx := GG0.size
      refine s_callx 104 rfl rfl _ 15 Try.call15 rfl rfl _ rfl [.pointer (some ⟨p, 0, none⟩)] rfl (waits_any _ p w.heap.size ao2 cap2 (q ++ [y]) (k) (c) HP (by omega) (by omega)) (fun _ _ ⟨_, _, he, _⟩ => ⟨_, he⟩) ?_
      rintro v w13 ⟨gl, rr, he, G, hr, HL⟩
      cases he
      have hrl : rr.length = (q ++ [y]).length := by have := congrArg List.length hr; simpa using this
      have hzs : ∀ z ∈ rr, z.2.length ≤ 140737488355000 := fun z hz => by have h1 : z.2 ∈ (q ++ [y]).map (·.l) := hr ▸ List.mem_map_of_mem hz; obtain ⟨x, hx, e⟩ := List.mem_map.1 h1; rw [← e]; exact HP0.sm x hx
      replace HP := HP.gro G
      replace HR := HR.gro G
      replace GX := GX.gro G
      replace GG := GG.trans G
      clear G
      refine nr ?_; intro U h; simp only [z0, z1] at h; subst h
      refine s_val 102 rfl rfl (.tuple #[.int .i64 ((k + 1 : Nat) : Int), .slice (some ⟨gl, 0, none⟩) rr.length rr.length]) (rfl) ?_
      refine nr ?_; intro U h; simp only [z0, z1] at h; subst h
      refine s_val 105 rfl rfl (.int .i64 ((k + 1 : Nat) : Int)) (rfl) ?_
      refine nr ?_; intro U h; simp only [z0, z1] at h; subst h
      refine s_val 106 rfl rfl (.slice (some ⟨gl, 0, none⟩) rr.length rr.length) (rfl) ?_
      refine nr ?_; intro U h; simp only [z0, z1] at h; subst h
      refine s_val 11 rfl rfl (.int .i64 ((k + 1 : Nat) : Int)) (rfl) ?_
      refine nr ?_; intro U h; simp only [z0, z1] at h; subst h
      refine s_val 12 rfl rfl (.slice (some ⟨gl, 0, none⟩) rr.length rr.length) (rfl) ?_
      refine nr ?_; intro U h; simp only [z0, z1] at h; subst h
      refine wpList_nil ?_
      refine then_n ?_
      refine wp_seq ?_
      refine wp_region_lit ?_
      refine s_val 108 rfl rfl (.pointer (some ⟨r, 0, none⟩)) (rfl) ?_
      refine nr ?_; intro U h; simp only [z0, z1] at h; subst h
      refine s_callv 109 rfl rfl _ 16 Try.call16 rfl rfl _ rfl [.pointer (some ⟨r, 0, none⟩)] rfl (rwaits_any _ r w.heap.size ao3 cap3 (u ++ [z]) (k) (c) HR (by omega) (by omega) (by omega)) ?_
      intro w14 G
      replace HP := HP.gro G
      replace HR := HR.gro G
      replace GX := GX.gro G
      replace HL := HL.gro G
      replace GG := GG.trans G
      clear G
      refine nr ?_; intro U h; simp only [z0, z1] at h; subst h
      refine s_val 107 rfl rfl (.tuple #[.int .i64 ((k + 1 : Nat) : Int), .slice (if cap3 = k then ao3 else ao3.map (·.add ((k) * 1))) (((u ++ [z]).drop (k)).length) (cap3 - (k))]) (rfl) ?_
      refine nr ?_; intro U h; simp only [z0, z1] at h; subst h
      refine s_val 110 rfl rfl (.int .i64 ((k + 1 : Nat) : Int)) (rfl) ?_
      refine nr ?_; intro U h; simp only [z0, z1] at h; subst h
      refine s_val 111 rfl rfl (.slice (if cap3 = k then ao3 else ao3.map (·.add ((k) * 1))) (((u ++ [z]).drop (k)).length) (cap3 - (k))) (rfl) ?_
      refine nr ?_; intro U h; simp only [z0, z1] at h; subst h
      refine s_val 13 rfl rfl (.int .i64 ((k + 1 : Nat) : Int)) (rfl) ?_
      refine nr ?_; intro U h; simp only [z0, z1] at h; subst h
      refine s_val 14 rfl rfl (.slice (if cap3 = k then ao3 else ao3.map (·.add ((k) * 1))) (((u ++ [z]).drop (k)).length) (cap3 - (k))) (rfl) ?_
      refine nr ?_; intro U h; simp only [z0, z1] at h; subst h
      refine wpList_nil ?_
      refine then_n ?_
      refine wp_seq ?_
      refine wp_seq ?_
      have kr := HR.box
      refine wp_region_exA (A := ?Ax12) 16 [(0, 112), (1, 113), (2, 114), (3, 115), (4, 116), (5, 117), (6, 118), (7, 119), (8, 120), (9, 121), (10, 122), (11, 123), (12, 124), (13, 125), (14, 126), (15, 127)] [.val (.int .i64 ((k + 1 : Nat) : Int)), .val (.int .i64 ((k + 1 : Nat) : Int)), .val (.bool false), .val (.bool false), .val (.slice (some ⟨gl, 0, none⟩) rr.length rr.length), .val (.slice (if cap3 = k then ao3 else ao3.map (·.add ((k) * 1))) (((u ++ [z]).drop (k)).length) (cap3 - (k))), .val (.bool true), .val (.bool false), .val (.bool false), .val (.bool false), .val (.pointer (some ⟨p, 0, none⟩)), .val (.int .i64 ((c : Nat) : Int)), .val (.pointer (some ⟨r, 0, none⟩)), .val (.pointer (some ⟨r, 0, none⟩)), .val (.pointer (some ⟨r, 2, none⟩)), .val (.int .i64 ((c : Nat) : Int))] follows (by kernel_rfl) rfl ?hAx12 (opsA_cons ?o0x12 (opsA_cons ?o1x12 (opsA_cons ?o2x12 (opsA_cons ?o3x12 (opsA_cons ?o4x12 (opsA_cons ?o5x12 (opsA_cons ?o6x12 (opsA_cons ?o7x12 (opsA_cons ?o8x12 (opsA_cons ?o9x12 (opsA_cons ?o10x12 (opsA_cons ?o11x12 (opsA_cons ?o12x12 (opsA_cons ?o13x12 (opsA_cons ?o14x12 (opsA_cons ?o15x12 opsA_nil)))))))))))))))) ?restx12
      case hAx12 =>
        intro ptrs
        simp only [full, foldSlots, filledE, postE, List.foldl_cons, List.foldl_nil, List.getD_cons_zero, List.getD_cons_succ, fill_val, List.set_cons_zero, List.set_cons_succ]
        exact rfl
      case o0x12 => exact fun _ _ _ _ => opE_move (v := .int .i64 ((k + 1 : Nat) : Int)) _ rfl rfl rfl
      case o1x12 => exact fun _ _ _ _ => opE_move (v := .int .i64 ((k + 1 : Nat) : Int)) _ rfl rfl rfl
      case o2x12 => exact fun _ _ hw _ => opE_value (v := .bool false) rfl (run_neq_k 2 .i64 _ _ _ rfl Try.underlying2 ((k + 1 : Nat) : Int) ((k + 1 : Nat) : Int) rfl rfl false (decide_eq_true rfl) _)
      case o3x12 => exact fun _ _ _ _ => opE_move (v := .bool false) _ rfl rfl rfl
      case o4x12 => exact fun _ _ _ _ => opE_move (v := .slice (some ⟨gl, 0, none⟩) rr.length rr.length) _ rfl rfl rfl
      case o5x12 => exact fun _ _ _ _ => opE_move (v := .slice (if cap3 = k then ao3 else ao3.map (·.add ((k) * 1))) (((u ++ [z]).drop (k)).length) (cap3 - (k))) _ rfl rfl rfl
      case o6x12 => exact fun _ _ hw _ => opE_call (.val (.bool true)) rfl _ 17 Try.call17 rfl rfl _ rfl [.slice (some ⟨gl, 0, none⟩) rr.length rr.length, .slice (if cap3 = k then ao3 else ao3.map (·.add ((k) * 1))) (((u ++ [z]).drop (k)).length) (cap3 - (k))] rfl ((sameAll_t _ (some ⟨gl, 0, none⟩) rr.length _ (HL.gro ((Gro.refl _).drew.trans hw)).lc _ _ _ ((HR.gro ((Gro.refl _).drew.trans hw)).lcd (k) (by omega)) rr.length _ (by simp) (by simp) (by omega) (hr.trans hqu2)).mono fun e w' ⟨he, hg⟩ => ⟨_, he, hg, rfl⟩)
      case o7x12 => exact fun _ _ hw _ => opE_value (v := .bool false) rfl (run_nt _ _ rfl true rfl)
      case o8x12 => exact fun _ _ _ _ => opE_pick (v := .bool false) _ _ _ rfl rfl false rfl rfl
      case o9x12 => exact fun _ _ _ _ => opE_move (v := .bool false) _ rfl rfl rfl
      case o10x12 => exact fun _ _ _ _ => opE_move (v := .pointer (some ⟨p, 0, none⟩)) _ rfl rfl rfl
      case o11x12 => exact fun _ _ hw _ => opE_call (.val (.int .i64 ((c : Nat) : Int))) rfl _ 18 Try.call18 rfl rfl _ rfl [.pointer (some ⟨p, 0, none⟩)] rfl ((got_any _ p w.heap.size ao2 cap2 (q ++ [y]) (k) (c) (HP.gro ((Gro.refl _).drew.trans hw)) (by omega) (by omega)).mono fun e w' ⟨he, hg⟩ => ⟨_, he, hg, rfl⟩)
      case o12x12 => exact fun _ _ _ _ => opE_move (v := .pointer (some ⟨r, 0, none⟩)) _ rfl rfl rfl
      case o13x12 => exact fun _ _ hw _ => opE_value (v := .pointer (some ⟨r, 0, none⟩)) rfl (run_nc _ rfl _ rfl)
      case o14x12 => exact fun _ _ hw _ => opE_value (v := .pointer (some ⟨r, 2, none⟩)) rfl (run_fld 28 _ 2 rfl _ _ rfl _ (by kernel_rfl))
      case o15x12 => exact fun _ _ hw _ => opE_value (v := .int .i64 ((c : Nat) : Int)) rfl (run_ldc 2 _ rfl r 2 rfl 28 _ (hw.has kr) (na2 _) _ rfl)
      intro ptrs w15 GD hxE
      simp only [List.drop_succ_cons, List.drop_zero]
      replace GX := GX.gro ((Gro.refl _).drew.trans GD)
      replace HL := HL.gro ((Gro.refl _).drew.trans GD)
      replace GG := GG.drew.trans GD
      clear kr HP HR
      have HV := HL.av
      clear HL
      clear GD
      refine s_gval 128 rfl rfl (.bool false) (run_neq_k 2 .i64 _ _ _ rfl Try.underlying2 ((c : Nat) : Int) ((c : Nat) : Int) rfl rfl false (decide_eq_true rfl) _) ?_
      refine nr ?_; intro U h; simp only [z0, z1] at h; subst h
      refine s_val 129 rfl rfl (.bool false) (rfl) ?_
      refine nr ?_; intro U h; simp only [z0, z1] at h; subst h
      refine wpList_nil ?_
      refine then_n ?_
      refine wp_cond_false rfl ?_
      refine wp_skip ?_
      refine then_n ?_
      refine wp_seq ?_
      refine wp_region_lit ?_
      refine s_val 130 rfl rfl (.slice (some ⟨gl, 0, none⟩) rr.length rr.length) (rfl) ?_
      refine nr ?_; intro U h; simp only [z0, z1] at h; subst h
      refine s_val 131 rfl rfl (.int .i64 ((rr.length : Nat) : Int)) (run_len Try.underlying26 _ rfl _ _ _ rfl _) ?_
      refine nr ?_; intro U h; simp only [z0, z1] at h; subst h
      refine s_val 132 rfl rfl (.int .i64 0) (rfl) ?_
      refine nr ?_; intro U h; simp only [z0, z1] at h; subst h
      refine wpList_nil ?_
      refine then_n ?_
      refine wp_block ?_
      have hrr : rr.length ≤ 1000 := by omega
      refine wp_loopN (fun mz az wv => ∃ (e3 : Nat) (us3 : Nat → Value), mz = rr.length - e3 ∧ az = ⟨[.slice ao os.length cap, undef, us1 0, .pointer (some ⟨p, 0, none⟩), .pointer (some ⟨r, 0, none⟩), .int .i64 ((j : Nat) : Int), .pointer (some ⟨g1, 0, none⟩), .slice ao4 lb.length cap4, .int .i64 ((k + (q ++ [y]).length : Nat) : Int), .int .i64 0, us2 0, .int .i64 ((k + 1 : Nat) : Int), .slice (some ⟨gl, 0, none⟩) rr.length rr.length, .int .i64 ((k + 1 : Nat) : Int), .slice (if cap3 = k then ao3 else ao3.map (·.add ((k) * 1))) (((u ++ [z]).drop (k)).length) (cap3 - (k)), undef, us3 0, us3 1, .pointer (some ⟨p, 0, none⟩), .agg (c28 Sl.nil 0 0), .pointer (some ⟨r, 0, none⟩), .pointer (some ⟨p, 0, none⟩), .bool false, .bool false, .bool true, .bool false, .bool false, .slice ao os.length cap, .int .i64 ((os.length : Nat) : Int), .int .i64 ((j : Nat) : Int), .bool true, .int .i64 ((j : Nat) : Int), .pointer (some (ad.add (j * 3))), .agg (c32 oq.k oq.i ⟨oq.ao, oq.l.length, oq.cap⟩), .int .i64 ((j : Nat) : Int), .bool false, .pointer (some ⟨g1, 2, none⟩), .slice oq.ao oq.l.length oq.cap, .pointer (some ⟨g1, 2, none⟩), .slice oq.ao oq.l.length oq.cap, .int .i64 ((oq.l.length : Nat) : Int), .int .i64 ((lb.length : Nat) : Int), .slice oq.ao lb.length oq.cap, .pointer (some ⟨g1, 2, none⟩), .pointer (some ⟨g1, 0, none⟩), .int .i64 oq.k, .bool true, .bool true, .slice (some ⟨gb, 0, none⟩) (([] : List Nat).length) 0, .pointer (some ⟨g1, 2, none⟩), .slice oq.ao lb.length oq.cap, .slice ao4 lb.length cap4, .tuple #[.int .i64 ((k + (q ++ [y]).length : Nat) : Int), .int .i64 0], .pointer (some ⟨p, 0, none⟩), .slice ao4 lb.length cap4, .tuple #[.int .i64 ((k + (q ++ [y]).length : Nat) : Int), .int .i64 0], .int .i64 ((k + (q ++ [y]).length : Nat) : Int), .int .i64 0, .int .i64 ((k + (q ++ [y]).length : Nat) : Int), .pointer (some ⟨r, 0, none⟩), .pointer (some ⟨g1, 2, none⟩), .slice oq.ao lb.length oq.cap, .int .i64 (((u ++ [z]).length : Nat) : Int), .bool false, .bool false, .int .i64 0, .bool false, .bool false, .slice ao4 lb.length cap4, .int .i64 ((lb.length : Nat) : Int), .int .i64 ((e1 : Nat) : Int), .bool false, us2 2, us2 3, us2 4, us2 5, us2 6, us2 7, us2 8, us2 9, us1 63, us1 64, us1 65, us1 66, us1 67, us1 68, us1 69, us1 70, us1 71, us1 72, us1 73, us1 74, us1 75, us1 76, us1 77, us1 78, us1 79, us1 80, us1 81, us1 82, us1 83, us1 84, .tuple #[.int .i64 ((k + 1 : Nat) : Int), .slice (some ⟨gl, 0, none⟩) rr.length rr.length], .pointer (some ⟨p, 0, none⟩), .tuple #[.int .i64 ((k + 1 : Nat) : Int), .slice (some ⟨gl, 0, none⟩) rr.length rr.length], .int .i64 ((k + 1 : Nat) : Int), .slice (some ⟨gl, 0, none⟩) rr.length rr.length, .tuple #[.int .i64 ((k + 1 : Nat) : Int), .slice (if cap3 = k then ao3 else ao3.map (·.add ((k) * 1))) (((u ++ [z]).drop (k)).length) (cap3 - (k))], .pointer (some ⟨r, 0, none⟩), .tuple #[.int .i64 ((k + 1 : Nat) : Int), .slice (if cap3 = k then ao3 else ao3.map (·.add ((k) * 1))) (((u ++ [z]).drop (k)).length) (cap3 - (k))], .int .i64 ((k + 1 : Nat) : Int), .slice (if cap3 = k then ao3 else ao3.map (·.add ((k) * 1))) (((u ++ [z]).drop (k)).length) (cap3 - (k)), .int .i64 ((k + 1 : Nat) : Int), .int .i64 ((k + 1 : Nat) : Int), .bool false, .bool false, .slice (some ⟨gl, 0, none⟩) rr.length rr.length, .slice (if cap3 = k then ao3 else ao3.map (·.add ((k) * 1))) (((u ++ [z]).drop (k)).length) (cap3 - (k)), .bool true, .bool false, .bool false, .bool false, .pointer (some ⟨p, 0, none⟩), .int .i64 ((c : Nat) : Int), .pointer (some ⟨r, 0, none⟩), .pointer (some ⟨r, 0, none⟩), .pointer (some ⟨r, 2, none⟩), .int .i64 ((c : Nat) : Int), .bool false, .bool false, .slice (some ⟨gl, 0, none⟩) rr.length rr.length, .int .i64 ((rr.length : Nat) : Int), .int .i64 ((e3 : Nat) : Int), us3 2, us3 3, us3 4, us3 5, us3 6, us3 7, us3 8, us3 9, us3 10, us3 11, us3 12, us3 13, us3 14, us3 15, us3 16, us3 17, us1 132].toArray, []⟩ ∧ e3 ≤ rr.length ∧ Gro w wv ∧ Gro wx wv ∧ AV wv wx.heap.size gl rr) ?_ _ ⟨0, (fun kz => ([us1 11, us1 12, us1 116, us1 117, us1 118, us1 119, us1 120, us1 121, us1 122, us1 123, us1 124, us1 125, us1 126, us1 127, us1 128, us1 129, us1 130, us1 131] : List Value).getD kz undef), rfl, rfl, Nat.zero_le _, GG, GX, HV⟩
      clear GG GX HV
      rintro mz az wv ⟨e3, us3, rfl, rfl, he3, GG, GX, HV⟩
      refine wp_seq ?_
      refine wp_region_lit ?_
      obtain ⟨p5, hp5⟩ : ∃ p, decide (((e3 : Nat) : Int) < ((rr.length : Nat) : Int)) = p := ⟨_, rfl⟩
      refine s_val 133 rfl rfl (.bool p5) (run_lssT 3 _ _ _ rfl ((e3 : Nat) : Int) ((rr.length : Nat) : Int) rfl rfl p5 hp5 _) ?_
      refine nr ?_; intro U h; simp only [z0, z1] at h; subst h
      cases p5
      · have HP := HP0.gro GX
        have HR := HR0.gro GX
        refine wpList_nil ?_
        refine then_n ?_
        refine wp_seq ?_
        refine wp_cond_false rfl ?_
        refine wp_exit ?_
        refine then_x ?_
        refine then_x ?_
        refine blk_x ?_
        refine blk_n ?_
        refine then_n ?_
        refine wp_region_lit ?_
        refine s_val 149 rfl rfl (.int .i64 ((j + 1 : Nat) : Int)) (run_addI 3 _ _ _ rfl ((j : Nat) : Int) 1 ((j + 1 : Nat) : Int) rfl rfl (by omega) (by omega) (by omega) _) ?_
        refine nr ?_; intro U h; simp only [z0, z1] at h; subst h
        refine s_val 29 rfl rfl (.int .i64 ((j + 1 : Nat) : Int)) (rfl) ?_
        refine nr ?_; intro U h; simp only [z0, z1] at h; subst h
        refine wpList_nil ?_
        refine then_n ?_
        exact ⟨_, (by omega : os.length - (j + 1) < os.length - j), j + 1, ao2, cap2, (q ++ [y]), ao3, cap3, (u ++ [z]), k, c, (fun kz => ([us1 0, .int .i64 ((j : Nat) : Int), .pointer (some ⟨g1, 0, none⟩), .slice ao4 lb.length cap4, .int .i64 ((k + (q ++ [y]).length : Nat) : Int), .int .i64 0, us2 0, .int .i64 ((k + 1 : Nat) : Int), .slice (some ⟨gl, 0, none⟩) rr.length rr.length, .int .i64 ((k + 1 : Nat) : Int), .slice (if cap3 = k then ao3 else ao3.map (·.add ((k) * 1))) (((u ++ [z]).drop (k)).length) (cap3 - (k)), us3 0, us3 1, .bool true, .int .i64 ((j : Nat) : Int), .pointer (some (ad.add (j * 3))), .agg (c32 oq.k oq.i ⟨oq.ao, oq.l.length, oq.cap⟩), .int .i64 ((j : Nat) : Int), .bool false, .pointer (some ⟨g1, 2, none⟩), .slice oq.ao oq.l.length oq.cap, .pointer (some ⟨g1, 2, none⟩), .slice oq.ao oq.l.length oq.cap, .int .i64 ((oq.l.length : Nat) : Int), .int .i64 ((lb.length : Nat) : Int), .slice oq.ao lb.length oq.cap, .pointer (some ⟨g1, 2, none⟩), .pointer (some ⟨g1, 0, none⟩), .int .i64 oq.k, .bool true, .bool true, .slice (some ⟨gb, 0, none⟩) (([] : List Nat).length) 0, .pointer (some ⟨g1, 2, none⟩), .slice oq.ao lb.length oq.cap, .slice ao4 lb.length cap4, .tuple #[.int .i64 ((k + (q ++ [y]).length : Nat) : Int), .int .i64 0], .pointer (some ⟨p, 0, none⟩), .slice ao4 lb.length cap4, .tuple #[.int .i64 ((k + (q ++ [y]).length : Nat) : Int), .int .i64 0], .int .i64 ((k + (q ++ [y]).length : Nat) : Int), .int .i64 0, .int .i64 ((k + (q ++ [y]).length : Nat) : Int), .pointer (some ⟨r, 0, none⟩), .pointer (some ⟨g1, 2, none⟩), .slice oq.ao lb.length oq.cap, .int .i64 (((u ++ [z]).length : Nat) : Int), .bool false, .bool false, .int .i64 0, .bool false, .bool false, .slice ao4 lb.length cap4, .int .i64 ((lb.length : Nat) : Int), .int .i64 ((e1 : Nat) : Int), .bool false, us2 2, us2 3, us2 4, us2 5, us2 6, us2 7, us2 8, us2 9, us1 63, us1 64, us1 65, us1 66, us1 67, us1 68, us1 69, us1 70, us1 71, us1 72, us1 73, us1 74, us1 75, us1 76, us1 77, us1 78, us1 79, us1 80, us1 81, us1 82, us1 83, us1 84, .tuple #[.int .i64 ((k + 1 : Nat) : Int), .slice (some ⟨gl, 0, none⟩) rr.length rr.length], .pointer (some ⟨p, 0, none⟩), .tuple #[.int .i64 ((k + 1 : Nat) : Int), .slice (some ⟨gl, 0, none⟩) rr.length rr.length], .int .i64 ((k + 1 : Nat) : Int), .slice (some ⟨gl, 0, none⟩) rr.length rr.length, .tuple #[.int .i64 ((k + 1 : Nat) : Int), .slice (if cap3 = k then ao3 else ao3.map (·.add ((k) * 1))) (((u ++ [z]).drop (k)).length) (cap3 - (k))], .pointer (some ⟨r, 0, none⟩), .tuple #[.int .i64 ((k + 1 : Nat) : Int), .slice (if cap3 = k then ao3 else ao3.map (·.add ((k) * 1))) (((u ++ [z]).drop (k)).length) (cap3 - (k))], .int .i64 ((k + 1 : Nat) : Int), .slice (if cap3 = k then ao3 else ao3.map (·.add ((k) * 1))) (((u ++ [z]).drop (k)).length) (cap3 - (k)), .int .i64 ((k + 1 : Nat) : Int), .int .i64 ((k + 1 : Nat) : Int), .bool false, .bool false, .slice (some ⟨gl, 0, none⟩) rr.length rr.length, .slice (if cap3 = k then ao3 else ao3.map (·.add ((k) * 1))) (((u ++ [z]).drop (k)).length) (cap3 - (k)), .bool true, .bool false, .bool false, .bool false, .pointer (some ⟨p, 0, none⟩), .int .i64 ((c : Nat) : Int), .pointer (some ⟨r, 0, none⟩), .pointer (some ⟨r, 0, none⟩), .pointer (some ⟨r, 2, none⟩), .int .i64 ((c : Nat) : Int), .bool false, .bool false, .slice (some ⟨gl, 0, none⟩) rr.length rr.length, .int .i64 ((rr.length : Nat) : Int), .int .i64 ((e3 : Nat) : Int), .bool false, us3 3, us3 4, us3 5, us3 6, us3 7, us3 8, us3 9, us3 10, us3 11, us3 12, us3 13, us3 14, us3 15, us3 16, us3 17, .int .i64 ((j + 1 : Nat) : Int)] : List Value).getD kz undef), rfl, rfl, hjn, (by omega), hkq2, huj2, hcj2, hqu2, hdis, GG, HP, HR⟩
      have he3n : e3 < rr.length := by have := of_decide_eq_true hp5; omega
      obtain ⟨zr, hzr⟩ : ∃ x, rr[e3]? = some x := ⟨_, List.getElem?_eq_getElem he3n⟩
      have hzm := List.mem_of_getElem? hzr
      refine wpList_nil ?_
      refine then_n ?_
      refine wp_seq ?_
      refine wp_cond_true rfl ?_
      refine wp_skip ?_
      refine then_n ?_
      refine wp_seq ?_
      refine wp_block ?_
      refine wp_seq ?_
      refine wp_region_lit ?_
      refine s_val 134 rfl rfl (.pointer (some ⟨gl, e3, none⟩)) (run_idxg _ _ rfl gl rr.length rr.length e3 rfl rfl he3n _) ?_
      refine nr ?_; intro U h; simp only [z0, z1] at h; subst h
      refine s_val 135 rfl rfl (.slice (some ⟨zr.1, 0, none⟩) zr.2.length zr.2.length) (run_ld24 _ rfl _ rfl _ _ (by exact HV.at hzr)) ?_
      refine nr ?_; intro U h; simp only [z0, z1] at h; subst h
      refine s_val 16 rfl rfl (.slice (some ⟨zr.1, 0, none⟩) zr.2.length zr.2.length) (rfl) ?_
      refine nr ?_; intro U h; simp only [z0, z1] at h; subst h
      refine wpList_nil ?_
      refine then_n ?_
      refine wp_seq ?_
      refine wp_region_lit ?_
      refine s_val 136 rfl rfl (.slice (some ⟨zr.1, 0, none⟩) zr.2.length zr.2.length) (rfl) ?_
      refine nr ?_; intro U h; simp only [z0, z1] at h; subst h
      refine s_val 137 rfl rfl (.int .i64 ((zr.2.length : Nat) : Int)) (run_len Try.underlying30 _ rfl _ _ _ rfl _) ?_
      refine nr ?_; intro U h; simp only [z0, z1] at h; subst h
      refine s_val 138 rfl rfl (.int .i64 0) (rfl) ?_
      refine nr ?_; intro U h; simp only [z0, z1] at h; subst h
      refine wpList_nil ?_
      refine then_n ?_
      refine wp_block ?_
      have hz9 := hzs zr hzm
      refine wp_loopN (fun mz az wv => ∃ (e2 : Nat) (us4 : Nat → Value), mz = zr.2.length - e2 ∧ az = ⟨[.slice ao os.length cap, undef, us1 0, .pointer (some ⟨p, 0, none⟩), .pointer (some ⟨r, 0, none⟩), .int .i64 ((j : Nat) : Int), .pointer (some ⟨g1, 0, none⟩), .slice ao4 lb.length cap4, .int .i64 ((k + (q ++ [y]).length : Nat) : Int), .int .i64 0, us2 0, .int .i64 ((k + 1 : Nat) : Int), .slice (some ⟨gl, 0, none⟩) rr.length rr.length, .int .i64 ((k + 1 : Nat) : Int), .slice (if cap3 = k then ao3 else ao3.map (·.add ((k) * 1))) (((u ++ [z]).drop (k)).length) (cap3 - (k)), undef, .slice (some ⟨zr.1, 0, none⟩) zr.2.length zr.2.length, us4 0, .pointer (some ⟨p, 0, none⟩), .agg (c28 Sl.nil 0 0), .pointer (some ⟨r, 0, none⟩), .pointer (some ⟨p, 0, none⟩), .bool false, .bool false, .bool true, .bool false, .bool false, .slice ao os.length cap, .int .i64 ((os.length : Nat) : Int), .int .i64 ((j : Nat) : Int), .bool true, .int .i64 ((j : Nat) : Int), .pointer (some (ad.add (j * 3))), .agg (c32 oq.k oq.i ⟨oq.ao, oq.l.length, oq.cap⟩), .int .i64 ((j : Nat) : Int), .bool false, .pointer (some ⟨g1, 2, none⟩), .slice oq.ao oq.l.length oq.cap, .pointer (some ⟨g1, 2, none⟩), .slice oq.ao oq.l.length oq.cap, .int .i64 ((oq.l.length : Nat) : Int), .int .i64 ((lb.length : Nat) : Int), .slice oq.ao lb.length oq.cap, .pointer (some ⟨g1, 2, none⟩), .pointer (some ⟨g1, 0, none⟩), .int .i64 oq.k, .bool true, .bool true, .slice (some ⟨gb, 0, none⟩) (([] : List Nat).length) 0, .pointer (some ⟨g1, 2, none⟩), .slice oq.ao lb.length oq.cap, .slice ao4 lb.length cap4, .tuple #[.int .i64 ((k + (q ++ [y]).length : Nat) : Int), .int .i64 0], .pointer (some ⟨p, 0, none⟩), .slice ao4 lb.length cap4, .tuple #[.int .i64 ((k + (q ++ [y]).length : Nat) : Int), .int .i64 0], .int .i64 ((k + (q ++ [y]).length : Nat) : Int), .int .i64 0, .int .i64 ((k + (q ++ [y]).length : Nat) : Int), .pointer (some ⟨r, 0, none⟩), .pointer (some ⟨g1, 2, none⟩), .slice oq.ao lb.length oq.cap, .int .i64 (((u ++ [z]).length : Nat) : Int), .bool false, .bool false, .int .i64 0, .bool false, .bool false, .slice ao4 lb.length cap4, .int .i64 ((lb.length : Nat) : Int), .int .i64 ((e1 : Nat) : Int), .bool false, us2 2, us2 3, us2 4, us2 5, us2 6, us2 7, us2 8, us2 9, us1 63, us1 64, us1 65, us1 66, us1 67, us1 68, us1 69, us1 70, us1 71, us1 72, us1 73, us1 74, us1 75, us1 76, us1 77, us1 78, us1 79, us1 80, us1 81, us1 82, us1 83, us1 84, .tuple #[.int .i64 ((k + 1 : Nat) : Int), .slice (some ⟨gl, 0, none⟩) rr.length rr.length], .pointer (some ⟨p, 0, none⟩), .tuple #[.int .i64 ((k + 1 : Nat) : Int), .slice (some ⟨gl, 0, none⟩) rr.length rr.length], .int .i64 ((k + 1 : Nat) : Int), .slice (some ⟨gl, 0, none⟩) rr.length rr.length, .tuple #[.int .i64 ((k + 1 : Nat) : Int), .slice (if cap3 = k then ao3 else ao3.map (·.add ((k) * 1))) (((u ++ [z]).drop (k)).length) (cap3 - (k))], .pointer (some ⟨r, 0, none⟩), .tuple #[.int .i64 ((k + 1 : Nat) : Int), .slice (if cap3 = k then ao3 else ao3.map (·.add ((k) * 1))) (((u ++ [z]).drop (k)).length) (cap3 - (k))], .int .i64 ((k + 1 : Nat) : Int), .slice (if cap3 = k then ao3 else ao3.map (·.add ((k) * 1))) (((u ++ [z]).drop (k)).length) (cap3 - (k)), .int .i64 ((k + 1 : Nat) : Int), .int .i64 ((k + 1 : Nat) : Int), .bool false, .bool false, .slice (some ⟨gl, 0, none⟩) rr.length rr.length, .slice (if cap3 = k then ao3 else ao3.map (·.add ((k) * 1))) (((u ++ [z]).drop (k)).length) (cap3 - (k)), .bool true, .bool false, .bool false, .bool false, .pointer (some ⟨p, 0, none⟩), .int .i64 ((c : Nat) : Int), .pointer (some ⟨r, 0, none⟩), .pointer (some ⟨r, 0, none⟩), .pointer (some ⟨r, 2, none⟩), .int .i64 ((c : Nat) : Int), .bool false, .bool false, .slice (some ⟨gl, 0, none⟩) rr.length rr.length, .int .i64 ((rr.length : Nat) : Int), .int .i64 ((e3 : Nat) : Int), .bool true, .pointer (some ⟨gl, e3, none⟩), .slice (some ⟨zr.1, 0, none⟩) zr.2.length zr.2.length, .slice (some ⟨zr.1, 0, none⟩) zr.2.length zr.2.length, .int .i64 ((zr.2.length : Nat) : Int), .int .i64 ((e2 : Nat) : Int), us4 1, us4 2, us4 3, us4 4, us4 5, us4 6, us4 7, us4 8, us4 9, us3 17, us1 132].toArray, []⟩ ∧ e2 ≤ zr.2.length ∧ Gro w wv ∧ Gro wx wv ∧ AV wv wx.heap.size gl rr) ?_ _ ⟨0, (fun kz => ([us3 1, us3 8, us3 9, us3 10, us3 11, us3 12, us3 13, us3 14, us3 15, us3 16] : List Value).getD kz undef), rfl, rfl, Nat.zero_le _, GG, GX, HV⟩
      clear GG GX HV
      rintro mz az wv ⟨e2, us4, rfl, rfl, he2, GG, GX, HV⟩
      refine wp_seq ?_
      refine wp_region_lit ?_
      obtain ⟨p6, hp6⟩ : ∃ p, decide (((e2 : Nat) : Int) < ((zr.2.length : Nat) : Int)) = p := ⟨_, rfl⟩
      refine s_val 139 rfl rfl (.bool p6) (run_lssT 3 _ _ _ rfl ((e2 : Nat) : Int) ((zr.2.length : Nat) : Int) rfl rfl p6 hp6 _) ?_
      refine nr ?_; intro U h; simp only [z0, z1] at h; subst h
      cases p6
      · refine wpList_nil ?_
        refine then_n ?_
        refine wp_seq ?_
        refine wp_cond_false rfl ?_
        refine wp_exit ?_
        refine then_x ?_
        refine then_x ?_
        refine blk_x ?_
        refine blk_n ?_
        refine then_n ?_
        refine wp_region_lit ?_
        refine s_val 148 rfl rfl (.int .i64 ((e3 + 1 : Nat) : Int)) (run_addI 3 _ _ _ rfl ((e3 : Nat) : Int) 1 ((e3 + 1 : Nat) : Int) rfl rfl (by omega) (by omega) (by omega) _) ?_
        refine nr ?_; intro U h; simp only [z0, z1] at h; subst h
        refine s_val 132 rfl rfl (.int .i64 ((e3 + 1 : Nat) : Int)) (rfl) ?_
        refine nr ?_; intro U h; simp only [z0, z1] at h; subst h
        refine wpList_nil ?_
        refine then_n ?_
        exact ⟨_, (by omega : rr.length - (e3 + 1) < rr.length - e3), e3 + 1, (fun kz => ([.slice (some ⟨zr.1, 0, none⟩) zr.2.length zr.2.length, us4 0, .bool true, .pointer (some ⟨gl, e3, none⟩), .slice (some ⟨zr.1, 0, none⟩) zr.2.length zr.2.length, .slice (some ⟨zr.1, 0, none⟩) zr.2.length zr.2.length, .int .i64 ((zr.2.length : Nat) : Int), .int .i64 ((e2 : Nat) : Int), .bool false, us4 2, us4 3, us4 4, us4 5, us4 6, us4 7, us4 8, us4 9, .int .i64 ((e3 + 1 : Nat) : Int)] : List Value).getD kz undef), rfl, rfl, he3n, GG, GX, HV⟩
      have he2n : e2 < zr.2.length := by have := of_decide_eq_true hp6; omega
      obtain ⟨hz0, l1, hl1, kz, hb1⟩ := HV.fr zr hzm
      refine wpList_nil ?_
      refine then_n ?_
      refine wp_seq ?_
      refine wp_cond_true rfl ?_
      refine wp_skip ?_
      refine then_n ?_
      refine wp_seq ?_
      refine wp_block ?_
      refine wp_seq ?_
      refine wp_region_lit ?_
      refine s_val 140 rfl rfl (.int .i64 ((e2 : Nat) : Int)) (rfl) ?_
      refine nr ?_; intro U h; simp only [z0, z1] at h; subst h
      refine s_val 17 rfl rfl (.int .i64 ((e2 : Nat) : Int)) (rfl) ?_
      refine nr ?_; intro U h; simp only [z0, z1] at h; subst h
      refine wpList_nil ?_
      refine then_n ?_
      refine wp_region_lit ?_
      refine s_val 141 rfl rfl (.slice (some ⟨zr.1, 0, none⟩) zr.2.length zr.2.length) (rfl) ?_
      refine nr ?_; intro U h; simp only [z0, z1] at h; subst h
      refine s_val 142 rfl rfl (.int .i64 ((e2 : Nat) : Int)) (rfl) ?_
      refine nr ?_; intro U h; simp only [z0, z1] at h; subst h
      refine s_val 143 rfl rfl (.pointer (some ⟨zr.1, e2, none⟩)) (bat _ _ rfl zr.1 zr.2.length zr.2.length e2 rfl rfl he2n _) ?_
      refine nr ?_; intro U h; simp only [z0, z1] at h; subst h
      refine s_val 144 rfl rfl (.int .u8 ((l1.getD e2 0 : Nat) : Int)) (run_ld bT _ rfl ⟨zr.1, e2, none⟩ rfl _ _ (bvc kz (by omega))) ?_
      refine nr ?_; intro U h; simp only [z0, z1] at h; subst h
      refine s_val 145 rfl rfl (.int .u8 ((inc8 (l1.getD e2 0) : Nat) : Int)) (run_inc8 _ _ _ rfl (l1.getD e2 0) rfl rfl _) ?_
      refine nr ?_; intro U h; simp only [z0, z1] at h; subst h
      refine s_val 146 rfl rfl (.pointer (some ⟨zr.1, e2, none⟩)) (bat _ _ rfl zr.1 zr.2.length zr.2.length e2 rfl rfl he2n _) ?_
      refine nr ?_; intro U h; simp only [z0, z1] at h; subst h
      refine s_store rfl rfl 5 _ _ rfl zr.1 e2 rfl (.int .u8 ((inc8 (l1.getD e2 0) : Nat) : Int)) rfl 5 _ kz #[.int .u8 ((inc8 (l1.getD e2 0) : Nat) : Int)] rfl si5 (by rw [bv_size]; simp only [List.size_toArray, List.length_cons, List.length_nil]; omega) (one1 _) _ (bv_set l1 e2 _ (by omega)) ?_
      intro w16 St
      replace GG := GG.store St (by omega)
      replace GX := GX.store St hz0
      replace HV := HV.st kz St (by simp) (set_byte hb1 _ _ (inc8_lt _))
      clear St kz
      refine wpList_nil ?_
      refine blk_n ?_
      refine then_n ?_
      refine wp_region_lit ?_
      refine s_val 147 rfl rfl (.int .i64 ((e2 + 1 : Nat) : Int)) (run_addI 3 _ _ _ rfl ((e2 : Nat) : Int) 1 ((e2 + 1 : Nat) : Int) rfl rfl (by omega) (by omega) (by omega) _) ?_
      refine nr ?_; intro U h; simp only [z0, z1] at h; subst h
      refine s_val 138 rfl rfl (.int .i64 ((e2 + 1 : Nat) : Int)) (rfl) ?_
      refine nr ?_; intro U h; simp only [z0, z1] at h; subst h
      refine wpList_nil ?_
      refine then_n ?_
      exact ⟨_, (by omega : zr.2.length - (e2 + 1) < zr.2.length - e2), e2 + 1, (fun kz => ([.int .i64 ((e2 : Nat) : Int), .bool true, .int .i64 ((e2 : Nat) : Int), .slice (some ⟨zr.1, 0, none⟩) zr.2.length zr.2.length, .int .i64 ((e2 : Nat) : Int), .pointer (some ⟨zr.1, e2, none⟩), .int .u8 ((l1.getD e2 0 : Nat) : Int), .int .u8 ((inc8 (l1.getD e2 0) : Nat) : Int), .pointer (some ⟨zr.1, e2, none⟩), .int .i64 ((e2 + 1 : Nat) : Int)] : List Value).getD kz undef), rfl, rfl, he2n, GG, GX, HV⟩
    have hkn : e1 < lb.length := by have := of_decide_eq_true hp4; omega
    obtain ⟨gi, curi, hgi, hBi, kgi, hci, hmi, hsi, hti⟩ := HW.blk (j := e1) (by omega)
    refine wpList_nil ?_
    refine then_n ?_
    refine wp_seq ?_
    refine wp_cond_true rfl ?_
    refine wp_skip ?_
    refine then_n ?_
    refine wp_seq ?_
    refine wp_block ?_
    refine wp_seq ?_
    refine wp_region_lit ?_
    refine s_val 72 rfl rfl (.int .i64 ((e1 : Nat) : Int)) (rfl) ?_
    refine nr ?_; intro U h; simp only [z0, z1] at h; subst h
    refine s_val 10 rfl rfl (.int .i64 ((e1 : Nat) : Int)) (rfl) ?_
    refine nr ?_; intro U h; simp only [z0, z1] at h; subst h
    refine wpList_nil ?_
    refine then_n ?_
    refine wp_region_lit ?_
    refine s_val 73 rfl rfl (.slice ao4 lb.length cap4) (rfl) ?_
    refine nr ?_; intro U h; simp only [z0, z1] at h; subst h
    refine s_val 74 rfl rfl (.int .i64 ((e1 : Nat) : Int)) (rfl) ?_
    refine nr ?_; intro U h; simp only [z0, z1] at h; subst h
    refine s_val 75 rfl rfl (.pointer (some ⟨gi, e1, none⟩)) (bat _ _ rfl gi lb.length cap4 e1 (by exact congrArg (fun a => Value.slice a lb.length cap4) hgi) rfl hkn _) ?_
    refine nr ?_; intro U h; simp only [z0, z1] at h; subst h
    refine s_val 76 rfl rfl (.int .u8 ((l1.getD e1 0 : Nat) : Int)) (run_ld bT _ rfl ⟨gi, e1, none⟩ rfl _ _ (HW.cellv hgi (by omega))) ?_
    refine nr ?_; intro U h; simp only [z0, z1] at h; subst h
    refine s_val 77 rfl rfl (.int .u8 ((inc8 (l1.getD e1 0) : Nat) : Int)) (run_inc8 _ _ _ rfl (l1.getD e1 0) rfl rfl _) ?_
    refine nr ?_; intro U h; simp only [z0, z1] at h; subst h
    refine s_val 78 rfl rfl (.pointer (some ⟨gi, e1, none⟩)) (bat _ _ rfl gi lb.length cap4 e1 (by exact congrArg (fun a => Value.slice a lb.length cap4) hgi) rfl hkn _) ?_
    refine nr ?_; intro U h; simp only [z0, z1] at h; subst h
    refine s_store rfl rfl 5 _ _ rfl gi e1 rfl (.int .u8 ((inc8 (l1.getD e1 0) : Nat) : Int)) rfl 5 _ kgi #[.int .u8 ((inc8 (l1.getD e1 0) : Nat) : Int)] rfl si5 (by simp only [List.size_toArray, List.length_cons, List.length_nil]; omega) (one1 _) _ rfl ?_
    intro w13 St
    replace HP := HP.st5 kgi St (fun x hx a ha => hF2 x hx a ha _ hgi)
    replace HR := HR.st5 kgi St (fun x hx a ha => hF3 x hx a ha _ hgi)
    replace GG := GG.store St hBi
    replace HW := HW.put hgi kgi (by omega) (inc8 (l1.getD e1 0)) (inc8_le _) St
    clear St kgi
    refine wpList_nil ?_
    refine blk_n ?_
    refine then_n ?_
    refine wp_region_lit ?_
    refine s_val 79 rfl rfl (.int .i64 ((e1 + 1 : Nat) : Int)) (run_addI 3 _ _ _ rfl ((e1 : Nat) : Int) 1 ((e1 + 1 : Nat) : Int) rfl rfl (by omega) (by omega) (by omega) _) ?_
    refine nr ?_; intro U h; simp only [z0, z1] at h; subst h
    refine s_val 70 rfl rfl (.int .i64 ((e1 + 1 : Nat) : Int)) (rfl) ?_
    refine nr ?_; intro U h; simp only [z0, z1] at h; subst h
    refine wpList_nil ?_
    refine then_n ?_
    exact ⟨_, (by omega : lb.length - (e1 + 1) < lb.length - e1), e1 + 1, l1.set e1 (inc8 (l1.getD e1 0)), (fun kz => ([.int .i64 ((e1 : Nat) : Int), .bool true, .int .i64 ((e1 : Nat) : Int), .slice ao4 lb.length cap4, .int .i64 ((e1 : Nat) : Int), .pointer (some ⟨gi, e1, none⟩), .int .u8 ((l1.getD e1 0 : Nat) : Int), .int .u8 ((inc8 (l1.getD e1 0) : Nat) : Int), .pointer (some ⟨gi, e1, none⟩), .int .i64 ((e1 + 1 : Nat) : Int)] : List Value).getD kz undef), rfl, rfl, hkn, (by rw [List.length_set]; exact hl1), GG, HW, HP, HR⟩
  refine wpList_nil ?_
  refine then_n ?_
  refine wp_cond_true rfl ?_
  refine wp_exit ?_
  refine then_x ?_
  refine blk_xn (by decide) ?_
  refine then_x ?_
  refine then_x ?_
  refine blk_x ?_
  refine then_n ?_
  refine wp_seq ?_
  refine wp_region_lit ?_
  refine s_val 2 rfl rfl (.bool true) (rfl) ?_
  refine nr ?_; intro U h; simp only [z0, z1] at h; subst h
  refine wpList_nil ?_
  refine then_n ?_
  refine wp_ret ?_
  refine bodyPost_ret (results_tmp Try.results3 _ _ _) rfl ?_
  exact ⟨rfl, GG⟩
end Go.Proofs.Ythlfjbnfeclkmaa
