/- Every script of calls is answered as the document says (PipePlays). -/
import Derived.Test.YtlonnbmkkmfmeaaQ7
namespace Go.Proofs.Ytlonnbmkkmfmeaa
open Go.RowKit

structure OpQ where
  k : Int
  i : Int
  ao : Option Addr
  cap : Nat
  l : List Nat
def opQ (o : OpQ) : List Value := [.int .i64 o.k, .int .i64 o.i, .slice o.ao o.l.length o.cap]
theorem flatQ : ∀ (os : List OpQ) (j : Nat) (o : OpQ), os[j]? = some o → ((os.flatMap opQ).drop (j * 3)).take 3 = opQ o
  | x :: os, 0, o, h => by
    simp at h
    subst h
    simp [opQ]
  | x :: os, j + 1, o, h => by
    simp only [List.getElem?_cons_succ] at h
    have := flatQ os j o h
    rw [List.flatMap_cons, Nat.add_mul, Nat.one_mul, Nat.add_comm, ← List.drop_drop]
    exact this
  | [], _, _, h => by simp at h
structure OQ (w : World) (ao : Option Addr) (cap : Nat) (os : List OpQ) : Prop where
  xc : XC w 3 ao cap os.length (os.flatMap opQ)
  row : ∀ o ∈ os, NC w .u8 o.ao o.cap o.l
theorem wQ : RowT Try.prog 22 32 3 40 (.agg (c32 0 0 Sl.nil)) := ⟨Try.underlying22, info_of (by kernel_rfl), rfl, by decide⟩
theorem ld_opQ {w : World} {o : Oper} {A : Act} (x : Operand) (ho : o.op = .load 32 x) (ad : Addr) (j : Nat) (hx : A.eval x = .pointer (some (ad.add (j * 3)))) {cap : Nat} {os : List OpQ} (h : XC w 3 (some ad) cap os.length (os.flatMap opQ)) (q : OpQ) (hq : os[j]? = some q) :
    (execOp A.eval o).run Try.prog w = .ok (.value (.agg (c32 q.k q.i ⟨q.ao, q.l.length, q.cap⟩))) w := by
  have hj : j < os.length := (List.getElem?_eq_some_iff.1 hq).1
  rw [run_ldX wQ _ Try.underlying32 rfl x ho ad j hx w h hj, flatQ os j q hq]
  rfl
section
variable {t : TypeId} {w w' : World} {p B : Nat} {ao : Option Addr} {cap : Nat} {q : List RV}
theorem PK.stT (H : PK t w p B ao cap q) {g : Nat} {t' : TypeId} (ht : t ≠ t') (h30 : t' ≠ 30) (h5 : t' ≠ 5) {c : Array Value} {x : Obj} (hg : w.heap[g]? = some (.cells c t' (0, 0))) (St : Stored w w' g x) : PK t w' p B ao cap q :=
  H.gros (S := [g]) ((GroS.refl [g] w).st St (.inr (by simp))) (fun h => by cases List.mem_singleton.1 h; exact ne_type H.box hg ht rfl) (fun k hk h => by cases List.mem_singleton.1 h; exact H.row.ne hg h30 hk)
    (H.f5 fun k hk => by cases List.mem_singleton.1 hk; exact ⟨_, _, hg, h5⟩)
/-- A store into bytes that are no frame. -/
theorem PK.st5 (H : PK t w p B ao cap q) {g : Nat} {c : Array Value} {x : Obj} (hg : w.heap[g]? = some (.cells c 5 (0, 0))) (St : Stored w w' g x) (hf : ∀ x ∈ q, ∀ ad, x.ao = some ad → ad.block ≠ g) : PK t w' p B ao cap q :=
  H.five (S := [g]) ((GroS.refl [g] w).st St (.inr (by simp))) (fun k hk => by cases List.mem_singleton.1 hk; exact ⟨_, hg⟩) (fun x hx ad ha hm => hf x hx ad ha (List.mem_singleton.1 hm))
theorem PK.notT (H : PK t w p B ao cap q) {g : Nat} {t' : TypeId} {c : Array Value} (hg : w.heap[g]? = some (.cells c t' (0, 0))) (ht : t' ≠ t) (h30 : t' ≠ 30) : g ∉ p :: blk ao := fun h => by
  rcases List.mem_cons.1 h with rfl | h
  · exact ne_type hg H.box ht rfl
  · exact H.row.ne hg h30 h
theorem PK.other {t2 : TypeId} {r B2 : Nat} {so : Option Addr} {sc : Nat} {u : List RV} (HR : PK t2 w r B2 so sc u) (H : PK t w p B ao cap q) (ht : t2 ≠ t) (G : GroS (p :: blk ao) w w') (hd : ∀ k ∈ blk ao, k ∉ blk so) : PK t2 w' r B2 so sc u :=
  HR.gros G (H.notT HR.box ht HR.ty.1) (fun k hk hm => by
    rcases List.mem_cons.1 hm with rfl | hm
    · exact HR.row.ne H.box H.ty.1 hk
    · exact hd k hm hk) (HR.f5 H.own)
theorem PK.other1 {t2 : TypeId} {r B2 : Nat} {so : Option Addr} {sc : Nat} {u : List RV} (HR : PK t2 w r B2 so sc u) (H : PK t w p B ao cap q) (ht : t2 ≠ t) (G : GroS [p] w w') : PK t2 w' r B2 so sc u :=
  HR.gros G (fun h => by cases List.mem_singleton.1 h; exact ne_type HR.box H.box ht rfl) (fun k hk hm => by
    cases List.mem_singleton.1 hm
    exact HR.row.ne H.box H.ty.1 hk) (HR.f5 fun k hk => by cases List.mem_singleton.1 hk; exact ⟨_, _, H.box, H.ty.2⟩)
theorem PK.ob (H : PK t w p B ao cap q) {B2 : Nat} {a : Option Addr} {c : Nat} {l : List Nat} (h : OB w 5 .u8 B2 a c l) : ∀ ad, a = some ad → ad.block ∉ p :: blk ao := fun ad ha => by
  obtain ⟨cur, hc⟩ := h.blk5 ha
  exact H.notT hc (Ne.symm H.ty.2) (by decide)
/-- Frames that are there lie ahead of what is made. -/
theorem PK.old (H : PK t w p B ao cap q) {M : Nat} (hM : w.heap.size ≤ M) : ∀ x ∈ q, ∀ ad, x.ao = some ad → ad.block < M := fun x hx ad ha => by
  have := (H.fe x hx ad ha).2
  omega
end
theorem dis_sym {a b : Option Addr} (h : ∀ k ∈ blk a, k ∉ blk b) : ∀ k ∈ blk b, k ∉ blk a := fun k h1 h2 => h k h2 h1
/-- What putting in a region leaves behind it. -/
def puE (M p B : Nat) (ro : Option Addr) (q : List RV) (l : List Nat) : PostE := PostE.ex (fun v x => v = .bool true ∧ ∃ (ao2 : Option Addr) (cap2 : Nat) (y : RV), y.l = l ∧ PK 26 x p B ao2 cap2 (q ++ [y]) ∧ OB x 5 .u8 M y.ao y.cap y.l ∧ Kept M ro ao2) (fun _ _ _ G ⟨h0, a, c, y, h1, h2, h3, h4⟩ => ⟨h0, a, c, y, h1, h2.gro G, h3.gro G, h4⟩)
theorem fill_pu (M p B : Nat) (ro : Option Addr) (q : List RV) (l : List Nat) (v : Value) : (puE M p B ro q l).fill v = v := rfl
/-- What losing all in a region leaves behind it. -/
def faE (M p B : Nat) (ro : Option Addr) (q : List RV) : PostE := PostE.ex (fun v x => v = .int .i64 ((q.length : Nat) : Int) ∧ ∃ ao2 cap2, PK 26 x p B ao2 cap2 [] ∧ Kept M ro ao2) (fun _ _ _ G ⟨h0, a, c, h1, h2⟩ => ⟨h0, a, c, h1.gro G, h2⟩)
theorem fill_fa (M p B : Nat) (ro : Option Addr) (q : List RV) (v : Value) : (faE M p B ro q).fill v = v := rfl
theorem map_app {q u : List RV} {x y : RV} (h : q.map (·.l) = u.map (·.l)) (hl : x.l = y.l) : (q ++ [x]).map (·.l) = (u ++ [y]).map (·.l) := by
  rw [List.map_append, List.map_append, h]
  simp [hl]
theorem map_era {q u : List RV} (h : q.map (·.l) = u.map (·.l)) (k : Nat) : (q.eraseIdx k).map (·.l) = (u.eraseIdx k).map (·.l) := by
  have e : ∀ z : List RV, (z.eraseIdx k).map (·.l) = (z.map (·.l)).eraseIdx k := fun z => by
    rw [List.eraseIdx_eq_take_drop_succ, List.eraseIdx_eq_take_drop_succ, List.map_append, List.map_take, List.map_drop]
  rw [e, e, h]
theorem map_len {q u : List RV} (h : q.map (·.l) = u.map (·.l)) : q.length = u.length := by
  have := congrArg List.length h
  simpa using this
/-- Rows that All told, whatever they say now. -/
structure AV (w : World) (M g : Nat) (r : List (Nat × List Nat)) : Prop where
  base : M ≤ g
  row : w.heap[g]? = some (.cells (r.map rv).toArray 30 (0, 0))
  fr : ∀ x ∈ r, M ≤ x.1 ∧ ∃ l : List Nat, l.length = x.2.length ∧ w.heap[x.1]? = some (.cells (bv l) 5 (0, 0)) ∧ ∀ y ∈ l, y < 256
theorem AL.av {w : World} {M g : Nat} {r : List (Nat × List Nat)} (h : AL w M g r) : AV w M g r := ⟨h.base, h.row, fun x hx => ⟨(h.fr x hx).1, x.2, rfl, (h.fr x hx).2⟩⟩
theorem AV.gro {w w' : World} {M g : Nat} {r : List (Nat × List Nat)} (h : AV w M g r) (G : Gro w w') : AV w' M g r := ⟨h.base, G.has h.row, fun x hx => by
  obtain ⟨h0, l, h1, h2, h3⟩ := h.fr x hx
  exact ⟨h0, l, h1, G.has h2, h3⟩⟩
theorem AV.st {w w' : World} {M g : Nat} {r : List (Nat × List Nat)} (h : AV w M g r) {k : Nat} {l l2 : List Nat} (hk : w.heap[k]? = some (.cells (bv l) 5 (0, 0))) (St : Stored w w' k (.cells (bv l2) 5 (0, 0))) (hl : l2.length = l.length) (hb : ∀ y ∈ l2, y < 256) : AV w' M g r :=
  ⟨h.base, St.has (ne_type h.row hk (by decide)) h.row, fun x hx => by
    obtain ⟨h0, l', h1, h2, h3⟩ := h.fr x hx
    refine ⟨h0, ?_⟩
    by_cases e : x.1 = k
    · refine ⟨l2, ?_, by rw [e]; exact St.new, hb⟩
      rw [e, hk] at h2
      injection h2 with h2
      injection h2 with h2
      have := congrArg Array.size h2
      rw [bv_size, bv_size] at this
      omega
    · exact ⟨l', h1, St.has e h2, h3⟩⟩
theorem AV.at {w : World} {M g : Nat} {r : List (Nat × List Nat)} (h : AV w M g r) {j : Nat} {x : Nat × List Nat} (hx : r[j]? = some x) : w.cell? ⟨g, j, none⟩ = some (rv x) := by
  rw [cell_of_row w g j _ 30 _ h.row]
  simp [hx]
/-- All that is under way, told anew. -/
def alE (c : List (List Nat)) : PostE := PostE.ex (fun v x => ∃ (M g : Nat) (r : List (Nat × List Nat)), v = .slice (some ⟨g, 0, none⟩) r.length r.length ∧ r.map (·.2) = c ∧ AL x M g r) (fun _ _ _ G ⟨M, g, r, h1, h2, h3⟩ => ⟨M, g, r, h1, h2, h3.gro G⟩)
theorem fill_alE (c : List (List Nat)) (v : Value) : (alE c).fill v = v := rfl
theorem Gro.gro {a b c : World} (h : Gro a b) (k : Gro b c) : Gro a c := h.trans k
set_option maxRecDepth 100000 in
set_option maxHeartbeats 4000000 in
theorem pipePlays_any (w : World) (ao : Option Addr) (cap : Nat) (os : List OpQ) (HO : OQ w ao cap os) (hol : os.length ≤ 140737488355000) (hlens : ∀ o ∈ os, o.l.length ≤ 140737488355000) : Calls Try.prog 3 #[.slice ao os.length cap] w fun e w' => e = .returned (.bool true) ∧ Gro w w' := by
  refine s_enter Try.func3 rfl Try.ntmps3 [.slice ao os.length cap] [.slice ao os.length cap, undef, undef, undef, undef, undef, undef, undef, undef, undef, undef, undef, undef, undef, undef, undef, undef, undef, undef, undef, undef, undef, undef, undef, undef, undef, undef, undef, undef, undef, undef, undef, undef, undef, undef, undef, undef, undef, undef, undef, undef, undef, undef, undef, undef, undef, undef, undef, undef, undef, undef, undef, undef, undef, undef, undef, undef, undef, undef, undef, undef, undef, undef, undef, undef, undef, undef, undef, undef, undef, undef, undef, undef, undef, undef, undef, undef, undef, undef, undef, undef, undef, undef, undef, undef, undef, undef, undef, undef, undef, undef, undef, undef, undef, undef, undef, undef, undef, undef, undef, undef, undef, undef, undef, undef, undef, undef, undef, undef, undef, undef, undef, undef, undef, undef, undef, undef, undef, undef, undef, undef, undef, undef, undef, undef, undef, undef, undef, undef, undef, undef, undef, undef, undef, undef, undef, undef, undef, undef, undef, undef, undef, undef, undef, undef, undef, undef, undef, undef, undef, undef, undef, undef, undef, undef, undef, undef, undef, undef, undef, undef, undef, undef] rfl ?_
  have GG := Gro.refl w
  refine wp_seq ?_
  refine wp_region_lit ?_
  refine s_val 2 rfl rfl (.bool false) (rfl) ?_
  refine nr ?_; intro U h; simp only [z0, z1] at h; subst h
  refine wpList_nil ?_
  refine then_n ?_
  refine wp_seq ?_
  refine wp_region_lit ?_
  refine s_val 17 rfl rfl (.agg (c26 Sl.nil)) (run_bd 26 _ rfl [] rfl _ (by kernel_rfl)) ?_
  refine nr ?_; intro U h; simp only [z0, z1] at h; subst h
  refine s_box 18 rfl rfl 26 _ rfl _ rfl (c26 Sl.nil) rfl ?_
  intro w1 p G ep kp
  have bp := size_base GG ep
  clear ep
  replace GG := GG.trans G
  clear G
  have HP : PK 26 _ p w.heap.size none 0 [] := PK.new kp bp (by decide)
  clear kp
  refine nr ?_; intro U h; simp only [z0, z1] at h; subst h
  refine s_val 3 rfl rfl (.pointer (some ⟨p, 0, none⟩)) (rfl) ?_
  refine nr ?_; intro U h; simp only [z0, z1] at h; subst h
  refine wpList_nil ?_
  refine then_n ?_
  refine wp_seq ?_
  refine wp_region_lit ?_
  refine s_val 19 rfl rfl (.agg (c29 Sl.nil)) (run_bd 29 _ rfl [] rfl _ (by kernel_rfl)) ?_
  refine nr ?_; intro U h; simp only [z0, z1] at h; subst h
  refine s_box 20 rfl rfl 29 _ rfl _ rfl (c29 Sl.nil) rfl ?_
  intro w2 r G er kr
  have br := size_base GG er
  clear er
  replace HP := HP.gro G
  replace GG := GG.trans G
  clear G
  have HR : PK 29 _ r w.heap.size none 0 [] := PK.new kr br (by decide)
  clear kr
  refine nr ?_; intro U h; simp only [z0, z1] at h; subst h
  refine s_val 4 rfl rfl (.pointer (some ⟨r, 0, none⟩)) (rfl) ?_
  refine nr ?_; intro U h; simp only [z0, z1] at h; subst h
  refine wpList_nil ?_
  refine then_n ?_
  refine wp_seq ?_
  refine wp_seq ?_
  refine wp_region_lit ?_
  refine s_val 21 rfl rfl (.slice ao os.length cap) (rfl) ?_
  refine nr ?_; intro U h; simp only [z0, z1] at h; subst h
  refine s_val 22 rfl rfl (.int .i64 ((os.length : Nat) : Int)) (run_len Try.underlying22 _ rfl _ _ _ rfl _) ?_
  refine nr ?_; intro U h; simp only [z0, z1] at h; subst h
  refine s_val 23 rfl rfl (.int .i64 0) (rfl) ?_
  refine nr ?_; intro U h; simp only [z0, z1] at h; subst h
  refine wpList_nil ?_
  refine then_n ?_
  refine wp_block ?_
  refine wp_loopN (fun mz az wv => ∃ (j : Nat) (ro : Option Addr) (rc : Nat) (q : List RV) (so : Option Addr) (sc : Nat) (u : List RV) (us1 : Nat → Value), mz = os.length - j ∧ az = ⟨[.slice ao os.length cap, undef, us1 0, .pointer (some ⟨p, 0, none⟩), .pointer (some ⟨r, 0, none⟩), us1 1, us1 2, us1 3, us1 4, us1 5, us1 6, us1 7, us1 8, us1 9, undef, us1 10, us1 11, .agg (c26 Sl.nil), .pointer (some ⟨p, 0, none⟩), .agg (c29 Sl.nil), .pointer (some ⟨r, 0, none⟩), .slice ao os.length cap, .int .i64 ((os.length : Nat) : Int), .int .i64 ((j : Nat) : Int), us1 12, us1 13, us1 14, us1 15, us1 16, us1 17, us1 18, us1 19, us1 20, us1 21, us1 22, us1 23, us1 24, us1 25, us1 26, us1 27, us1 28, us1 29, us1 30, us1 31, us1 32, us1 33, us1 34, us1 35, us1 36, us1 37, us1 38, us1 39, us1 40, us1 41, us1 42, us1 43, us1 44, us1 45, us1 46, us1 47, us1 48, us1 49, us1 50, us1 51, us1 52, us1 53, us1 54, us1 55, us1 56, us1 57, us1 58, us1 59, us1 60, us1 61, us1 62, us1 63, us1 64, us1 65, us1 66, us1 67, us1 68, us1 69, us1 70, us1 71, us1 72, us1 73, us1 74, us1 75, us1 76, us1 77, us1 78, us1 79, us1 80, us1 81, us1 82, us1 83, us1 84, us1 85, us1 86, us1 87, us1 88, us1 89, us1 90, us1 91, us1 92, us1 93, us1 94, us1 95, us1 96, us1 97, us1 98, us1 99, us1 100, us1 101, us1 102, us1 103, us1 104, us1 105, us1 106, us1 107, us1 108, us1 109, us1 110, us1 111, us1 112, us1 113, us1 114, us1 115, us1 116, us1 117, us1 118, us1 119, us1 120, us1 121, us1 122, us1 123, us1 124, us1 125, us1 126, us1 127, us1 128, us1 129, us1 130, us1 131, us1 132, us1 133, us1 134, us1 135, us1 136, us1 137, us1 138, us1 139, us1 140, undef, undef, undef, undef, undef, undef, undef, undef, undef, undef].toArray, []⟩ ∧ j ≤ os.length ∧ j ≤ 601 ∧ q.map (·.l) = u.map (·.l) ∧ (∀ k ∈ blk ro, k ∉ blk so) ∧ Gro w wv ∧ PK 26 wv p w.heap.size ro rc q ∧ PK 29 wv r w.heap.size so sc u) ?_ _ ⟨0, none, 0, [], none, 0, [], (fun kz => ([.bool false, undef, undef, undef, undef, undef, undef, undef, undef, undef, undef, undef, undef, undef, undef, undef, undef, undef, undef, undef, undef, undef, undef, undef, undef, undef, undef, undef, undef, undef, undef, undef, undef, undef, undef, undef, undef, undef, undef, undef, undef, undef, undef, undef, undef, undef, undef, undef, undef, undef, undef, undef, undef, undef, undef, undef, undef, undef, undef, undef, undef, undef, undef, undef, undef, undef, undef, undef, undef, undef, undef, undef, undef, undef, undef, undef, undef, undef, undef, undef, undef, undef, undef, undef, undef, undef, undef, undef, undef, undef, undef, undef, undef, undef, undef, undef, undef, undef, undef, undef, undef, undef, undef, undef, undef, undef, undef, undef, undef, undef, undef, undef, undef, undef, undef, undef, undef, undef, undef, undef, undef, undef, undef, undef, undef, undef, undef, undef, undef, undef, undef, undef, undef, undef, undef, undef, undef, undef, undef, undef, undef] : List Value).getD kz undef), rfl, rfl, Nat.zero_le _, Nat.zero_le _, rfl, (fun k hk => by simp [blk] at hk), GG, HP, HR⟩
  clear GG HP HR
  rintro mz az wv ⟨j, ro, rc, q, so, sc, u, us1, rfl, rfl, hj, hj2, hqu, hdis, GG, HP, HR⟩
  have hql := map_len hqu
  have hq256 := HP.le
  refine wp_seq ?_
  refine wp_region_lit ?_
  obtain ⟨p1, hp1⟩ : ∃ p, decide (((j : Nat) : Int) < ((os.length : Nat) : Int)) = p := ⟨_, rfl⟩
  refine s_val 24 rfl rfl (.bool p1) (run_lssT 3 _ _ _ rfl ((j : Nat) : Int) ((os.length : Nat) : Int) rfl rfl p1 hp1 _) ?_
  refine nr ?_; intro U h; simp only [z0, z1] at h; subst h
  cases p1
  · refine wpList_nil ?_
    refine then_n ?_
    refine wp_seq ?_
    refine wp_cond_false rfl ?_
    refine wp_exit ?_
    refine then_x ?_
    refine then_x ?_
    refine blk_x ?_
    refine then_n ?_
    refine wp_seq ?_
    have kr := HR.box
    refine wp_region_exA (A := ?Ax1) 8 [(0, 153), (1, 154), (2, 155), (3, 156), (4, 157), (5, 158), (6, 159), (7, 160)] [.val (.bool true), .val (.bool true), .val (.pointer (some ⟨p, 0, none⟩)), alE (q.map (·.l)), .val (.pointer (some ⟨r, 0, none⟩)), .val (.pointer (some ⟨r, 0, none⟩)), .val (.pointer (some ⟨r, 0, none⟩)), .val (.slice so u.length sc)] follows (by kernel_rfl) rfl ?hAx1 (opsA_cons ?o0x1 (opsA_cons ?o1x1 (opsA_cons ?o2x1 (opsA_cons ?o3x1 (opsA_cons ?o4x1 (opsA_cons ?o5x1 (opsA_cons ?o6x1 (opsA_cons ?o7x1 opsA_nil)))))))) ?restx1
    case hAx1 =>
      intro ptrs
      simp only [full, foldSlots, filledE, postE, List.foldl_cons, List.foldl_nil, List.getD_cons_zero, List.getD_cons_succ, fill_val, fill_alE, List.set_cons_zero, List.set_cons_succ]
      exact rfl
    case o0x1 => exact fun _ _ hw _ => opE_call (.val (.bool true)) rfl _ 18 Try.call18 rfl rfl _ rfl [] rfl ((fixed_true _).mono fun e w' ⟨he, hg⟩ => ⟨_, he, hg, rfl⟩)
    case o1x1 => exact fun _ _ _ _ => opE_move (v := .bool true) _ rfl rfl rfl
    case o2x1 => exact fun _ _ _ _ => opE_move (v := .pointer (some ⟨p, 0, none⟩)) _ rfl rfl rfl
    case o3x1 => exact fun _ x hw _ => opE_call (alE (q.map (·.l))) rfl _ 15 Try.call15 rfl rfl _ rfl [.pointer (some ⟨p, 0, none⟩)] rfl ((all_any _ p w.heap.size ro rc q (HP.gro ((Gro.refl _).drew.trans hw))).mono fun e w' ⟨g, r, he, hg, hr, HL⟩ => ⟨_, he, hg, _, g, r, rfl, hr, HL⟩)
    case o4x1 => exact fun _ _ _ _ => opE_move (v := .pointer (some ⟨r, 0, none⟩)) _ rfl rfl rfl
    case o5x1 => exact fun _ _ hw _ => opE_value (v := .pointer (some ⟨r, 0, none⟩)) rfl (run_nc _ rfl _ rfl)
    case o6x1 => exact fun _ _ hw _ => opE_value (v := .pointer (some ⟨r, 0, none⟩)) rfl (run_fld 29 _ 0 rfl _ _ rfl _ (by kernel_rfl))
    case o7x1 => exact fun _ _ hw _ => opE_value (v := .slice so u.length sc) rfl (run_ldc 24 _ rfl r 0 rfl 29 _ (hw.has kr) (na24 _) _ rfl)
    intro ptrs w3 GD hxE
    simp only [List.drop_succ_cons, List.drop_zero]
    replace HP := HP.gro ((Gro.refl _).drew.trans GD)
    replace HR := HR.gro ((Gro.refl _).drew.trans GD)
    replace GG := GG.drew.trans GD
    obtain ⟨⟨Ma, ga, ra, hv, hra, HLa⟩, _⟩ := hxE
    simp only [hv]
    have hral : ra.length = q.length := by have := congrArg List.length hra; simpa using this
    clear kr hv
    clear GD
    refine s_gcallv 161 rfl rfl _ 16 Try.call16 rfl rfl _ rfl [.slice (some ⟨ga, 0, none⟩) ra.length ra.length, .slice so u.length sc] rfl (sameAll_t _ (some ⟨ga, 0, none⟩) ra.length _ HLa.lc so sc _ HR.ly.lc ra.length u.length (by simp) (by simp) (by omega) (hra.trans hqu)) ?_
    intro w4 G
    replace HP := HP.gro G
    replace HR := HR.gro G
    replace GG := GG.trans G
    clear G
    refine nr ?_; intro U h; simp only [z0, z1] at h; subst h
    refine s_val 162 rfl rfl (.bool true) (rfl) ?_
    refine nr ?_; intro U h; simp only [z0, z1] at h; subst h
    refine s_val 2 rfl rfl (.bool true) (rfl) ?_
    refine nr ?_; intro U h; simp only [z0, z1] at h; subst h
    refine wpList_nil ?_
    refine then_n ?_
    refine wp_ret ?_
    refine bodyPost_ret (results_tmp Try.results3 _ _ _) rfl ?_
    exact ⟨rfl, GG⟩
  have hjn : j < os.length := by have := of_decide_eq_true hp1; omega
  obtain ⟨oq, hoq⟩ : ∃ x, os[j]? = some x := ⟨_, List.getElem?_eq_getElem hjn⟩
  have hom := List.mem_of_getElem? hoq
  have hol1 := hlens oq hom
  obtain ⟨ad, hao⟩ := HO.xc.some (by omega)
  obtain ⟨lb, hlb⟩ : ∃ lb, oq.l.take (min oq.l.length 64) = lb := ⟨_, rfl⟩
  have hll : lb.length = min oq.l.length 64 := by rw [← hlb, List.length_take]; omega
  have ncl := (HO.row oq hom).take (min oq.l.length 64) (by omega)
  rw [hlb] at ncl
  clear hlb
  refine wpList_nil ?_
  refine then_n ?_
  refine wp_seq ?_
  refine wp_cond_true rfl ?_
  refine wp_skip ?_
  refine then_n ?_
  refine wp_seq ?_
  refine wp_block ?_
  refine wp_seq ?_
  refine wp_region_lit ?_
  refine s_val 25 rfl rfl (.int .i64 ((j : Nat) : Int)) (rfl) ?_
  refine nr ?_; intro U h; simp only [z0, z1] at h; subst h
  refine s_val 26 rfl rfl (.pointer (some (ad.add (j * 3)))) (run_idxX wQ _ _ rfl ad os.length cap j (by exact congrArg (fun a => Value.slice a os.length cap) hao) rfl hjn _) ?_
  refine nr ?_; intro U h; simp only [z0, z1] at h; subst h
  refine s_val 27 rfl rfl (.agg (c32 oq.k oq.i ⟨oq.ao, oq.l.length, oq.cap⟩)) (ld_opQ _ rfl ad j rfl (by rw [← hao]; exact HO.xc.gro GG) oq hoq) ?_
  refine nr ?_; intro U h; simp only [z0, z1] at h; subst h
  refine s_alloc 6 rfl rfl 32 rfl _ zv32 _ rfl ?_
  intro w3 g1 G eg1 kg1
  have bg1 := size_base GG eg1
  replace HP := HP.gro G
  replace HR := HR.gro G
  replace GG := GG.trans G
  clear G eg1
  refine nr ?_; intro U h; simp only [z0, z1] at h; subst h
  refine s_val 5 rfl rfl (.int .i64 ((j : Nat) : Int)) (rfl) ?_
  refine nr ?_; intro U h; simp only [z0, z1] at h; subst h
  refine s_store rfl rfl 32 _ _ rfl g1 0 rfl (.agg (c32 oq.k oq.i ⟨oq.ao, oq.l.length, oq.cap⟩)) rfl 32 _ kg1 (c32 oq.k oq.i ⟨oq.ao, oq.l.length, oq.cap⟩) rfl (by kernel_rfl) (Nat.le_of_ble_eq_true rfl) (by kernel_rfl) (c32 oq.k oq.i ⟨oq.ao, oq.l.length, oq.cap⟩) (by kernel_rfl) ?_
  intro w5 St
  replace HP := HP.stT (by decide) (by decide) (by decide) kg1 St
  replace HR := HR.stT (by decide) (by decide) (by decide) kg1 St
  replace GG := GG.store St bg1
  replace kg1 := St.new
  clear St
  refine wpList_nil ?_
  refine then_n ?_
  refine wp_seq ?_
  refine wp_seq ?_
  refine wp_region_lit ?_
  refine s_val 28 rfl rfl (.int .i64 ((j : Nat) : Int)) (rfl) ?_
  refine nr ?_; intro U h; simp only [z0, z1] at h; subst h
  obtain ⟨p2, hp2⟩ : ∃ p, decide (600 < ((j : Nat) : Int)) = p := ⟨_, rfl⟩
  refine s_val 29 rfl rfl (.bool p2) (run_gtrT 3 _ _ _ rfl ((j : Nat) : Int) 600 rfl rfl p2 hp2 _) ?_
  refine nr ?_; intro U h; simp only [z0, z1] at h; subst h
  cases p2
  · have hj600 : j ≤ 600 := by have := of_decide_eq_false hp2; omega
    refine wpList_nil ?_
    refine then_n ?_
    refine wp_cond_false rfl ?_
    refine wp_skip ?_
    refine then_n ?_
    refine wp_seq ?_
    refine wp_region_lit ?_
    refine s_val 30 rfl rfl (.pointer (some ⟨g1, 2, none⟩)) (run_fld 32 _ 2 rfl _ _ rfl _ (by kernel_rfl)) ?_
    refine nr ?_; intro U h; simp only [z0, z1] at h; subst h
    refine s_val 31 rfl rfl (.slice oq.ao oq.l.length oq.cap) (run_ldc 30 _ rfl g1 2 rfl 32 _ kg1 (na30 _) _ rfl) ?_
    refine nr ?_; intro U h; simp only [z0, z1] at h; subst h
    refine s_val 32 rfl rfl (.pointer (some ⟨g1, 2, none⟩)) (run_fld 32 _ 2 rfl _ _ rfl _ (by kernel_rfl)) ?_
    refine nr ?_; intro U h; simp only [z0, z1] at h; subst h
    refine s_val 33 rfl rfl (.slice oq.ao oq.l.length oq.cap) (run_ldc 30 _ rfl g1 2 rfl 32 _ kg1 (na30 _) _ rfl) ?_
    refine nr ?_; intro U h; simp only [z0, z1] at h; subst h
    refine s_val 34 rfl rfl (.int .i64 ((oq.l.length : Nat) : Int)) (run_len Try.underlying30 _ rfl _ _ _ rfl _) ?_
    refine nr ?_; intro U h; simp only [z0, z1] at h; subst h
    refine s_val 35 rfl rfl (.int .i64 ((lb.length : Nat) : Int)) (run_min64 _ _ _ rfl ((oq.l.length : Nat) : Int) 64 _ rfl rfl (by omega) _) ?_
    refine nr ?_; intro U h; simp only [z0, z1] at h; subst h
    refine s_val 36 rfl rfl (.slice oq.ao lb.length oq.cap) (run_cut0 bT _ _ rfl oq.ao oq.l.length oq.cap lb.length rfl rfl (by have := (HO.row oq hom).fit; omega) _) ?_
    refine nr ?_; intro U h; simp only [z0, z1] at h; subst h
    refine s_val 37 rfl rfl (.pointer (some ⟨g1, 2, none⟩)) (run_fld 32 _ 2 rfl _ _ rfl _ (by kernel_rfl)) ?_
    refine nr ?_; intro U h; simp only [z0, z1] at h; subst h
    refine s_store rfl rfl 30 _ _ rfl g1 2 rfl (.slice oq.ao lb.length oq.cap) rfl 32 _ kg1 #[.slice oq.ao lb.length oq.cap] rfl (by kernel_rfl) (Nat.le_of_ble_eq_true rfl) (by kernel_rfl) (c32 oq.k oq.i ⟨oq.ao, lb.length, oq.cap⟩) (by kernel_rfl) ?_
    intro w7 St
    replace HP := HP.stT (by decide) (by decide) (by decide) kg1 St
    replace HR := HR.stT (by decide) (by decide) (by decide) kg1 St
    replace GG := GG.store St bg1
    replace kg1 := St.new
    clear St
    refine wpList_nil ?_
    refine then_n ?_
    refine wp_seq ?_
    refine wp_seq ?_
    refine wp_region_lit ?_
    refine s_val 38 rfl rfl (.pointer (some ⟨g1, 0, none⟩)) (run_fld 32 _ 0 rfl _ _ rfl _ (by kernel_rfl)) ?_
    refine nr ?_; intro U h; simp only [z0, z1] at h; subst h
    refine s_val 39 rfl rfl (.int .i64 oq.k) (run_ldc 3 _ rfl g1 0 rfl 32 _ kg1 (na3 _) _ rfl) ?_
    refine nr ?_; intro U h; simp only [z0, z1] at h; subst h
    refine wpList_nil ?_
    refine then_n ?_
    refine wp_block ?_
    refine wp_seq ?_
    refine wp_region_lit ?_
    obtain ⟨p3, hp3⟩ : ∃ p, decide (oq.k = 0) = p := ⟨_, rfl⟩
    refine s_val 69 rfl rfl (.bool p3) (run_eq_k 3 .i64 _ _ _ rfl Try.underlying3 oq.k 0 rfl rfl p3 hp3 _) ?_
    refine nr ?_; intro U h; simp only [z0, z1] at h; subst h
    cases p3
    · refine s_val _ rfl rfl (.bool false) rfl ?_
      refine nr ?_; intro U h; simp only [z0, z1] at h; subst h
      refine wpList_nil ?_
      refine then_n ?_
      refine wp_cond_false rfl ?_
      refine wp_seq ?_
      refine wp_region_lit ?_
      obtain ⟨p4, hp4⟩ : ∃ p, decide (oq.k = 1) = p := ⟨_, rfl⟩
      refine s_val 95 rfl rfl (.bool p4) (run_eq_k 3 .i64 _ _ _ rfl Try.underlying3 oq.k 1 rfl rfl p4 hp4 _) ?_
      refine nr ?_; intro U h; simp only [z0, z1] at h; subst h
      cases p4
      · refine s_val _ rfl rfl (.bool false) rfl ?_
        refine nr ?_; intro U h; simp only [z0, z1] at h; subst h
        refine wpList_nil ?_
        refine then_n ?_
        refine wp_cond_false rfl ?_
        refine wp_seq ?_
        refine wp_region_lit ?_
        obtain ⟨p5, hp5⟩ : ∃ p, decide (oq.k = 2) = p := ⟨_, rfl⟩
        refine s_val 121 rfl rfl (.bool p5) (run_eq_k 3 .i64 _ _ _ rfl Try.underlying3 oq.k 2 rfl rfl p5 hp5 _) ?_
        refine nr ?_; intro U h; simp only [z0, z1] at h; subst h
        cases p5
        · refine s_val _ rfl rfl (.bool false) rfl ?_
          refine nr ?_; intro U h; simp only [z0, z1] at h; subst h
          refine wpList_nil ?_
          refine then_n ?_
          refine wp_cond_false rfl ?_
          refine wp_seq ?_
          refine wp_region_lit ?_
          obtain ⟨p6, hp6⟩ : ∃ p, decide (oq.k = 3) = p := ⟨_, rfl⟩
          refine s_val 132 rfl rfl (.bool p6) (run_eq_k 3 .i64 _ _ _ rfl Try.underlying3 oq.k 3 rfl rfl p6 hp6 _) ?_
          refine nr ?_; intro U h; simp only [z0, z1] at h; subst h
          cases p6
          · refine s_val _ rfl rfl (.bool false) rfl ?_
            refine nr ?_; intro U h; simp only [z0, z1] at h; subst h
            refine wpList_nil ?_
            refine then_n ?_
            refine wp_cond_false rfl ?_
            refine wp_seq ?_
            refine wp_region_lit ?_
            refine s_val 40 rfl rfl (.pointer (some ⟨p, 0, none⟩)) (rfl) ?_
            refine nr ?_; intro U h; simp only [z0, z1] at h; subst h
            have HP0 := HP
            have HR0 := HR
            have GG0 := GG
            have GX := Gro.refl w7
            have hwx := GG0.size
            refine s_callx 41 rfl rfl _ 15 Try.call15 rfl rfl _ rfl [.pointer (some ⟨p, 0, none⟩)] rfl (all_any _ p w.heap.size ro rc q HP) (fun _ _ ⟨_, _, he, _⟩ => ⟨_, he⟩) ?_
            rintro v w8 ⟨gl, rr, he, G, hr, HL⟩
            cases he
            have hrl : rr.length = q.length := by have := congrArg List.length hr; simpa using this
            have hzs : ∀ z ∈ rr, z.2.length ≤ 140737488355000 := fun z hz => by have h1 : z.2 ∈ q.map (·.l) := hr ▸ List.mem_map_of_mem hz; obtain ⟨x, hx, e⟩ := List.mem_map.1 h1; rw [← e]; exact HP0.sm x hx
            replace kg1 := G.has kg1
            replace HP := HP.gro G
            replace HR := HR.gro G
            replace GX := GX.gro G
            replace GG := GG.trans G
            clear G
            refine nr ?_; intro U h; simp only [z0, z1] at h; subst h
            have kr := HR.box
            refine s_val 13 rfl rfl (.slice (some ⟨gl, 0, none⟩) rr.length rr.length) (rfl) ?_
            refine nr ?_; intro U h; simp only [z0, z1] at h; subst h
            refine wpList_nil ?_
            refine then_n ?_
            refine wp_seq ?_
            refine wp_seq ?_
            refine wp_region_lit ?_
            refine s_val 42 rfl rfl (.slice (some ⟨gl, 0, none⟩) rr.length rr.length) (rfl) ?_
            refine nr ?_; intro U h; simp only [z0, z1] at h; subst h
            refine s_val 43 rfl rfl (.pointer (some ⟨r, 0, none⟩)) (rfl) ?_
            refine nr ?_; intro U h; simp only [z0, z1] at h; subst h
            refine s_val 44 rfl rfl (.pointer (some ⟨r, 0, none⟩)) (run_nc _ rfl _ rfl) ?_
            refine nr ?_; intro U h; simp only [z0, z1] at h; subst h
            refine s_val 45 rfl rfl (.pointer (some ⟨r, 0, none⟩)) (run_fld 29 _ 0 rfl _ _ rfl _ (by kernel_rfl)) ?_
            refine nr ?_; intro U h; simp only [z0, z1] at h; subst h
            refine s_val 46 rfl rfl (.slice so u.length sc) (run_ldc 24 _ rfl r 0 rfl 29 _ kr (na24 _) _ rfl) ?_
            refine nr ?_; intro U h; simp only [z0, z1] at h; subst h
            clear kr
            refine s_callv 47 rfl rfl _ 16 Try.call16 rfl rfl _ rfl [.slice (some ⟨gl, 0, none⟩) rr.length rr.length, .slice so u.length sc] rfl (sameAll_t _ (some ⟨gl, 0, none⟩) rr.length _ HL.lc so sc _ HR.ly.lc rr.length u.length (by simp) (by simp) (by omega) (hr.trans hqu)) ?_
            intro w9 G
            replace kg1 := G.has kg1
            replace HP := HP.gro G
            replace HR := HR.gro G
            replace GX := GX.gro G
            replace HL := HL.gro G
            replace GG := GG.trans G
            clear G
            refine nr ?_; intro U h; simp only [z0, z1] at h; subst h
            have HV := HL.av
            clear HL HP HR
            refine s_val 48 rfl rfl (.bool false) (run_nt _ _ rfl true rfl) ?_
            refine nr ?_; intro U h; simp only [z0, z1] at h; subst h
            refine wpList_nil ?_
            refine then_n ?_
            refine wp_cond_false rfl ?_
            refine wp_skip ?_
            refine then_n ?_
            refine wp_seq ?_
            refine wp_region_lit ?_
            refine s_val 49 rfl rfl (.slice (some ⟨gl, 0, none⟩) rr.length rr.length) (rfl) ?_
            refine nr ?_; intro U h; simp only [z0, z1] at h; subst h
            refine s_val 50 rfl rfl (.int .i64 ((rr.length : Nat) : Int)) (run_len Try.underlying24 _ rfl _ _ _ rfl _) ?_
            refine nr ?_; intro U h; simp only [z0, z1] at h; subst h
            refine s_val 51 rfl rfl (.int .i64 0) (rfl) ?_
            refine nr ?_; intro U h; simp only [z0, z1] at h; subst h
            refine wpList_nil ?_
            refine then_n ?_
            refine wp_block ?_
            have hrr : rr.length ≤ 256 := by omega
            refine wp_loopN (fun mz az wv => ∃ (e1 : Nat) (us2 : Nat → Value), mz = rr.length - e1 ∧ az = ⟨[.slice ao os.length cap, undef, us1 0, .pointer (some ⟨p, 0, none⟩), .pointer (some ⟨r, 0, none⟩), .int .i64 ((j : Nat) : Int), .pointer (some ⟨g1, 0, none⟩), us1 3, us1 4, us1 5, us1 6, us1 7, us1 8, .slice (some ⟨gl, 0, none⟩) rr.length rr.length, undef, us2 0, us2 1, .agg (c26 Sl.nil), .pointer (some ⟨p, 0, none⟩), .agg (c29 Sl.nil), .pointer (some ⟨r, 0, none⟩), .slice ao os.length cap, .int .i64 ((os.length : Nat) : Int), .int .i64 ((j : Nat) : Int), .bool true, .int .i64 ((j : Nat) : Int), .pointer (some (ad.add (j * 3))), .agg (c32 oq.k oq.i ⟨oq.ao, oq.l.length, oq.cap⟩), .int .i64 ((j : Nat) : Int), .bool false, .pointer (some ⟨g1, 2, none⟩), .slice oq.ao oq.l.length oq.cap, .pointer (some ⟨g1, 2, none⟩), .slice oq.ao oq.l.length oq.cap, .int .i64 ((oq.l.length : Nat) : Int), .int .i64 ((lb.length : Nat) : Int), .slice oq.ao lb.length oq.cap, .pointer (some ⟨g1, 2, none⟩), .pointer (some ⟨g1, 0, none⟩), .int .i64 oq.k, .pointer (some ⟨p, 0, none⟩), .slice (some ⟨gl, 0, none⟩) rr.length rr.length, .slice (some ⟨gl, 0, none⟩) rr.length rr.length, .pointer (some ⟨r, 0, none⟩), .pointer (some ⟨r, 0, none⟩), .pointer (some ⟨r, 0, none⟩), .slice so u.length sc, .bool true, .bool false, .slice (some ⟨gl, 0, none⟩) rr.length rr.length, .int .i64 ((rr.length : Nat) : Int), .int .i64 ((e1 : Nat) : Int), us2 2, us2 3, us2 4, us2 5, us2 6, us2 7, us2 8, us2 9, us2 10, us2 11, us2 12, us2 13, us2 14, us2 15, us2 16, us2 17, .bool false, .bool false, us1 58, us1 59, us1 60, us1 61, us1 62, us1 63, us1 64, us1 65, us1 66, us1 67, us1 68, us1 69, us1 70, us1 71, us1 72, us1 73, us1 74, us1 75, us1 76, us1 77, us1 78, us1 79, us1 80, us1 81, .bool false, .bool false, us1 84, us1 85, us1 86, us1 87, us1 88, us1 89, us1 90, us1 91, us1 92, us1 93, us1 94, us1 95, us1 96, us1 97, us1 98, us1 99, us1 100, us1 101, us1 102, us1 103, us1 104, us1 105, us1 106, us1 107, .bool false, .bool false, us1 110, us1 111, us1 112, us1 113, us1 114, us1 115, us1 116, us1 117, us1 118, .bool false, .bool false, us1 121, us1 122, us1 123, us1 124, us1 125, us1 126, us1 127, us1 128, us1 129, us1 130, us1 131, us1 132, us1 133, us1 134, us1 135, us1 136, us1 137, us1 138, us1 139, us1 140, undef, undef, undef, undef, undef, undef, undef, undef, undef, undef].toArray, []⟩ ∧ e1 ≤ rr.length ∧ Gro w wv ∧ Gro w7 wv ∧ AV wv w7.heap.size gl rr) ?_ _ ⟨0, (fun kz => ([us1 10, us1 11, us1 40, us1 41, us1 42, us1 43, us1 44, us1 45, us1 46, us1 47, us1 48, us1 49, us1 50, us1 51, us1 52, us1 53, us1 54, us1 55] : List Value).getD kz undef), rfl, rfl, Nat.zero_le _, GG, GX, HV⟩
            clear GG GX HV
            rintro mz az wv ⟨e1, us2, rfl, rfl, he1, GG, GX, HV⟩
            refine wp_seq ?_
            refine wp_region_lit ?_
            obtain ⟨p7, hp7⟩ : ∃ p, decide (((e1 : Nat) : Int) < ((rr.length : Nat) : Int)) = p := ⟨_, rfl⟩
            refine s_val 52 rfl rfl (.bool p7) (run_lssT 3 _ _ _ rfl ((e1 : Nat) : Int) ((rr.length : Nat) : Int) rfl rfl p7 hp7 _) ?_
            refine nr ?_; intro U h; simp only [z0, z1] at h; subst h
            cases p7
            · refine wpList_nil ?_
              refine then_n ?_
              refine wp_seq ?_
              refine wp_cond_false rfl ?_
              refine wp_exit ?_
              refine then_x ?_
              refine then_x ?_
              refine blk_x ?_
              refine blk_n ?_
              refine then_n ?_
              refine wp_seq ?_
              have HP := HP0.gro GX
              have HR := HR0.gro GX
              have hqu2 := hqu
              have hql2 := hql
              have kr := HR.box
              refine wp_region_exA (A := ?Ax2) 7 [(0, 144), (1, 145), (2, 146), (3, 147), (4, 148), (5, 149), (6, 150)] [.val (.pointer (some ⟨p, 0, none⟩)), .val (.int .i64 ((q.length : Nat) : Int)), .val (.pointer (some ⟨r, 0, none⟩)), .val (.pointer (some ⟨r, 0, none⟩)), .val (.pointer (some ⟨r, 0, none⟩)), .val (.slice so u.length sc), .val (.int .i64 ((u.length : Nat) : Int))] follows (by kernel_rfl) rfl ?hAx2 (opsA_cons ?o0x2 (opsA_cons ?o1x2 (opsA_cons ?o2x2 (opsA_cons ?o3x2 (opsA_cons ?o4x2 (opsA_cons ?o5x2 (opsA_cons ?o6x2 opsA_nil))))))) ?restx2
              case hAx2 =>
                intro ptrs
                simp only [full, foldSlots, filledE, postE, List.foldl_cons, List.foldl_nil, List.getD_cons_zero, List.getD_cons_succ, fill_val, List.set_cons_zero, List.set_cons_succ]
                exact rfl
              case o0x2 => exact fun _ _ _ _ => opE_move (v := .pointer (some ⟨p, 0, none⟩)) _ rfl rfl rfl
              case o1x2 => exact fun _ _ hw _ => opE_call (.val (.int .i64 ((q.length : Nat) : Int))) rfl _ 17 Try.call17 rfl rfl _ rfl [.pointer (some ⟨p, 0, none⟩)] rfl ((len_any _ p w.heap.size ro rc q (HP.gro ((Gro.refl _).drew.trans hw))).mono fun e w' ⟨he, hg⟩ => ⟨_, he, hg, rfl⟩)
              case o2x2 => exact fun _ _ _ _ => opE_move (v := .pointer (some ⟨r, 0, none⟩)) _ rfl rfl rfl
              case o3x2 => exact fun _ _ hw _ => opE_value (v := .pointer (some ⟨r, 0, none⟩)) rfl (run_nc _ rfl _ rfl)
              case o4x2 => exact fun _ _ hw _ => opE_value (v := .pointer (some ⟨r, 0, none⟩)) rfl (run_fld 29 _ 0 rfl _ _ rfl _ (by kernel_rfl))
              case o5x2 => exact fun _ _ hw _ => opE_value (v := .slice so u.length sc) rfl (run_ldc 24 _ rfl r 0 rfl 29 _ (hw.has kr) (na24 _) _ rfl)
              case o6x2 => exact fun _ _ hw _ => opE_value (v := .int .i64 ((u.length : Nat) : Int)) rfl (run_len Try.underlying24 _ rfl _ _ _ rfl _)
              intro ptrs w10 GD hxE
              simp only [List.drop_succ_cons, List.drop_zero]
              replace HP := HP.gro ((Gro.refl _).drew.trans GD)
              replace HR := HR.gro ((Gro.refl _).drew.trans GD)
              replace GG := GG.drew.trans GD
              clear kr
              clear GD
              refine s_val 151 rfl rfl (.bool false) (run_neq_k 3 .i64 _ _ _ rfl Try.underlying3 ((q.length : Nat) : Int) ((u.length : Nat) : Int) rfl rfl false (decide_eq_true (by omega)) _) ?_
              refine nr ?_; intro U h; simp only [z0, z1] at h; subst h
              refine wpList_nil ?_
              refine then_n ?_
              refine wp_cond_false rfl ?_
              refine wp_skip ?_
              refine blk_n ?_
              refine then_n ?_
              refine wp_region_lit ?_
              refine s_val 152 rfl rfl (.int .i64 ((j + 1 : Nat) : Int)) (run_add64 _ _ _ rfl ((j : Nat) : Int) 1 _ rfl rfl (by omega) (by omega) (by omega) _) ?_
              refine nr ?_; intro U h; simp only [z0, z1] at h; subst h
              refine s_val 23 rfl rfl (.int .i64 ((j + 1 : Nat) : Int)) (rfl) ?_
              refine nr ?_; intro U h; simp only [z0, z1] at h; subst h
              refine wpList_nil ?_
              refine then_n ?_
              exact ⟨_, (by omega : os.length - (j + 1) < os.length - j), j + 1, ro, rc, q, so, sc, u, (fun kz => ([us1 0, .int .i64 ((j : Nat) : Int), .pointer (some ⟨g1, 0, none⟩), us1 3, us1 4, us1 5, us1 6, us1 7, us1 8, .slice (some ⟨gl, 0, none⟩) rr.length rr.length, us2 0, us2 1, .bool true, .int .i64 ((j : Nat) : Int), .pointer (some (ad.add (j * 3))), .agg (c32 oq.k oq.i ⟨oq.ao, oq.l.length, oq.cap⟩), .int .i64 ((j : Nat) : Int), .bool false, .pointer (some ⟨g1, 2, none⟩), .slice oq.ao oq.l.length oq.cap, .pointer (some ⟨g1, 2, none⟩), .slice oq.ao oq.l.length oq.cap, .int .i64 ((oq.l.length : Nat) : Int), .int .i64 ((lb.length : Nat) : Int), .slice oq.ao lb.length oq.cap, .pointer (some ⟨g1, 2, none⟩), .pointer (some ⟨g1, 0, none⟩), .int .i64 oq.k, .pointer (some ⟨p, 0, none⟩), .slice (some ⟨gl, 0, none⟩) rr.length rr.length, .slice (some ⟨gl, 0, none⟩) rr.length rr.length, .pointer (some ⟨r, 0, none⟩), .pointer (some ⟨r, 0, none⟩), .pointer (some ⟨r, 0, none⟩), .slice so u.length sc, .bool true, .bool false, .slice (some ⟨gl, 0, none⟩) rr.length rr.length, .int .i64 ((rr.length : Nat) : Int), .int .i64 ((e1 : Nat) : Int), .bool false, us2 3, us2 4, us2 5, us2 6, us2 7, us2 8, us2 9, us2 10, us2 11, us2 12, us2 13, us2 14, us2 15, us2 16, us2 17, .bool false, .bool false, us1 58, us1 59, us1 60, us1 61, us1 62, us1 63, us1 64, us1 65, us1 66, us1 67, us1 68, us1 69, us1 70, us1 71, us1 72, us1 73, us1 74, us1 75, us1 76, us1 77, us1 78, us1 79, us1 80, us1 81, .bool false, .bool false, us1 84, us1 85, us1 86, us1 87, us1 88, us1 89, us1 90, us1 91, us1 92, us1 93, us1 94, us1 95, us1 96, us1 97, us1 98, us1 99, us1 100, us1 101, us1 102, us1 103, us1 104, us1 105, us1 106, us1 107, .bool false, .bool false, us1 110, us1 111, us1 112, us1 113, us1 114, us1 115, us1 116, us1 117, us1 118, .bool false, .bool false, us1 121, us1 122, us1 123, us1 124, us1 125, us1 126, us1 127, us1 128, us1 129, us1 130, us1 131, .pointer (some ⟨p, 0, none⟩), .int .i64 ((q.length : Nat) : Int), .pointer (some ⟨r, 0, none⟩), .pointer (some ⟨r, 0, none⟩), .pointer (some ⟨r, 0, none⟩), .slice so u.length sc, .int .i64 ((u.length : Nat) : Int), .bool false, .int .i64 ((j + 1 : Nat) : Int)] : List Value).getD kz undef), rfl, rfl, hjn, (by omega), hqu2, hdis, GG, HP, HR⟩
            have he1n : e1 < rr.length := by have := of_decide_eq_true hp7; omega
            obtain ⟨z, hz⟩ : ∃ x, rr[e1]? = some x := ⟨_, List.getElem?_eq_getElem he1n⟩
            have hzm := List.mem_of_getElem? hz
            refine wpList_nil ?_
            refine then_n ?_
            refine wp_seq ?_
            refine wp_cond_true rfl ?_
            refine wp_skip ?_
            refine then_n ?_
            refine wp_seq ?_
            refine wp_block ?_
            refine wp_seq ?_
            refine wp_region_lit ?_
            refine s_val 53 rfl rfl (.pointer (some ⟨gl, e1, none⟩)) (run_idxg _ _ rfl gl rr.length rr.length e1 rfl rfl he1n _) ?_
            refine nr ?_; intro U h; simp only [z0, z1] at h; subst h
            refine s_val 54 rfl rfl (.slice (some ⟨z.1, 0, none⟩) z.2.length z.2.length) (run_ld24 _ rfl _ rfl _ _ (by exact HV.at hz)) ?_
            refine nr ?_; intro U h; simp only [z0, z1] at h; subst h
            refine s_val 15 rfl rfl (.slice (some ⟨z.1, 0, none⟩) z.2.length z.2.length) (rfl) ?_
            refine nr ?_; intro U h; simp only [z0, z1] at h; subst h
            refine wpList_nil ?_
            refine then_n ?_
            refine wp_seq ?_
            refine wp_region_lit ?_
            refine s_val 55 rfl rfl (.slice (some ⟨z.1, 0, none⟩) z.2.length z.2.length) (rfl) ?_
            refine nr ?_; intro U h; simp only [z0, z1] at h; subst h
            refine s_val 56 rfl rfl (.int .i64 ((z.2.length : Nat) : Int)) (run_len Try.underlying30 _ rfl _ _ _ rfl _) ?_
            refine nr ?_; intro U h; simp only [z0, z1] at h; subst h
            refine s_val 57 rfl rfl (.int .i64 0) (rfl) ?_
            refine nr ?_; intro U h; simp only [z0, z1] at h; subst h
            refine wpList_nil ?_
            refine then_n ?_
            refine wp_block ?_
            have hz9 := hzs z hzm
            refine wp_loopN (fun mz az wv => ∃ (e2 : Nat) (us3 : Nat → Value), mz = z.2.length - e2 ∧ az = ⟨[.slice ao os.length cap, undef, us1 0, .pointer (some ⟨p, 0, none⟩), .pointer (some ⟨r, 0, none⟩), .int .i64 ((j : Nat) : Int), .pointer (some ⟨g1, 0, none⟩), us1 3, us1 4, us1 5, us1 6, us1 7, us1 8, .slice (some ⟨gl, 0, none⟩) rr.length rr.length, undef, .slice (some ⟨z.1, 0, none⟩) z.2.length z.2.length, us3 0, .agg (c26 Sl.nil), .pointer (some ⟨p, 0, none⟩), .agg (c29 Sl.nil), .pointer (some ⟨r, 0, none⟩), .slice ao os.length cap, .int .i64 ((os.length : Nat) : Int), .int .i64 ((j : Nat) : Int), .bool true, .int .i64 ((j : Nat) : Int), .pointer (some (ad.add (j * 3))), .agg (c32 oq.k oq.i ⟨oq.ao, oq.l.length, oq.cap⟩), .int .i64 ((j : Nat) : Int), .bool false, .pointer (some ⟨g1, 2, none⟩), .slice oq.ao oq.l.length oq.cap, .pointer (some ⟨g1, 2, none⟩), .slice oq.ao oq.l.length oq.cap, .int .i64 ((oq.l.length : Nat) : Int), .int .i64 ((lb.length : Nat) : Int), .slice oq.ao lb.length oq.cap, .pointer (some ⟨g1, 2, none⟩), .pointer (some ⟨g1, 0, none⟩), .int .i64 oq.k, .pointer (some ⟨p, 0, none⟩), .slice (some ⟨gl, 0, none⟩) rr.length rr.length, .slice (some ⟨gl, 0, none⟩) rr.length rr.length, .pointer (some ⟨r, 0, none⟩), .pointer (some ⟨r, 0, none⟩), .pointer (some ⟨r, 0, none⟩), .slice so u.length sc, .bool true, .bool false, .slice (some ⟨gl, 0, none⟩) rr.length rr.length, .int .i64 ((rr.length : Nat) : Int), .int .i64 ((e1 : Nat) : Int), .bool true, .pointer (some ⟨gl, e1, none⟩), .slice (some ⟨z.1, 0, none⟩) z.2.length z.2.length, .slice (some ⟨z.1, 0, none⟩) z.2.length z.2.length, .int .i64 ((z.2.length : Nat) : Int), .int .i64 ((e2 : Nat) : Int), us3 1, us3 2, us3 3, us3 4, us3 5, us3 6, us3 7, us3 8, us3 9, us2 17, .bool false, .bool false, us1 58, us1 59, us1 60, us1 61, us1 62, us1 63, us1 64, us1 65, us1 66, us1 67, us1 68, us1 69, us1 70, us1 71, us1 72, us1 73, us1 74, us1 75, us1 76, us1 77, us1 78, us1 79, us1 80, us1 81, .bool false, .bool false, us1 84, us1 85, us1 86, us1 87, us1 88, us1 89, us1 90, us1 91, us1 92, us1 93, us1 94, us1 95, us1 96, us1 97, us1 98, us1 99, us1 100, us1 101, us1 102, us1 103, us1 104, us1 105, us1 106, us1 107, .bool false, .bool false, us1 110, us1 111, us1 112, us1 113, us1 114, us1 115, us1 116, us1 117, us1 118, .bool false, .bool false, us1 121, us1 122, us1 123, us1 124, us1 125, us1 126, us1 127, us1 128, us1 129, us1 130, us1 131, us1 132, us1 133, us1 134, us1 135, us1 136, us1 137, us1 138, us1 139, us1 140, undef, undef, undef, undef, undef, undef, undef, undef, undef, undef].toArray, []⟩ ∧ e2 ≤ z.2.length ∧ Gro w wv ∧ Gro w7 wv ∧ AV wv w7.heap.size gl rr) ?_ _ ⟨0, (fun kz => ([us2 1, us2 8, us2 9, us2 10, us2 11, us2 12, us2 13, us2 14, us2 15, us2 16] : List Value).getD kz undef), rfl, rfl, Nat.zero_le _, GG, GX, HV⟩
            clear GG GX HV
            rintro mz az wv ⟨e2, us3, rfl, rfl, he2, GG, GX, HV⟩
            refine wp_seq ?_
            refine wp_region_lit ?_
            obtain ⟨p8, hp8⟩ : ∃ p, decide (((e2 : Nat) : Int) < ((z.2.length : Nat) : Int)) = p := ⟨_, rfl⟩
            refine s_val 58 rfl rfl (.bool p8) (run_lssT 3 _ _ _ rfl ((e2 : Nat) : Int) ((z.2.length : Nat) : Int) rfl rfl p8 hp8 _) ?_
            refine nr ?_; intro U h; simp only [z0, z1] at h; subst h
            cases p8
            · refine wpList_nil ?_
              refine then_n ?_
              refine wp_seq ?_
              refine wp_cond_false rfl ?_
              refine wp_exit ?_
              refine then_x ?_
              refine then_x ?_
              refine blk_x ?_
              refine blk_n ?_
              refine then_n ?_
              refine wp_region_lit ?_
              refine s_val 67 rfl rfl (.int .i64 ((e1 + 1 : Nat) : Int)) (run_add64 _ _ _ rfl ((e1 : Nat) : Int) 1 _ rfl rfl (by omega) (by omega) (by omega) _) ?_
              refine nr ?_; intro U h; simp only [z0, z1] at h; subst h
              refine s_val 51 rfl rfl (.int .i64 ((e1 + 1 : Nat) : Int)) (rfl) ?_
              refine nr ?_; intro U h; simp only [z0, z1] at h; subst h
              refine wpList_nil ?_
              refine then_n ?_
              exact ⟨_, (by omega : rr.length - (e1 + 1) < rr.length - e1), e1 + 1, (fun kz => ([.slice (some ⟨z.1, 0, none⟩) z.2.length z.2.length, us3 0, .bool true, .pointer (some ⟨gl, e1, none⟩), .slice (some ⟨z.1, 0, none⟩) z.2.length z.2.length, .slice (some ⟨z.1, 0, none⟩) z.2.length z.2.length, .int .i64 ((z.2.length : Nat) : Int), .int .i64 ((e2 : Nat) : Int), .bool false, us3 2, us3 3, us3 4, us3 5, us3 6, us3 7, us3 8, us3 9, .int .i64 ((e1 + 1 : Nat) : Int)] : List Value).getD kz undef), rfl, rfl, he1n, GG, GX, HV⟩
            have he2n : e2 < z.2.length := by have := of_decide_eq_true hp8; omega
            obtain ⟨hz0, l1, hl1, kz, hb1⟩ := HV.fr z hzm
            refine wpList_nil ?_
            refine then_n ?_
            refine wp_seq ?_
            refine wp_cond_true rfl ?_
            refine wp_skip ?_
            refine then_n ?_
            refine wp_seq ?_
            refine wp_block ?_
            refine wp_seq ?_
            refine wp_region_lit ?_
            refine s_val 59 rfl rfl (.int .i64 ((e2 : Nat) : Int)) (rfl) ?_
            refine nr ?_; intro U h; simp only [z0, z1] at h; subst h
            refine s_val 16 rfl rfl (.int .i64 ((e2 : Nat) : Int)) (rfl) ?_
            refine nr ?_; intro U h; simp only [z0, z1] at h; subst h
            refine wpList_nil ?_
            refine then_n ?_
            refine wp_region_lit ?_
            refine s_val 60 rfl rfl (.slice (some ⟨z.1, 0, none⟩) z.2.length z.2.length) (rfl) ?_
            refine nr ?_; intro U h; simp only [z0, z1] at h; subst h
            refine s_val 61 rfl rfl (.int .i64 ((e2 : Nat) : Int)) (rfl) ?_
            refine nr ?_; intro U h; simp only [z0, z1] at h; subst h
            refine s_val 62 rfl rfl (.pointer (some ⟨z.1, e2, none⟩)) (bat _ _ rfl z.1 z.2.length z.2.length e2 rfl rfl he2n _) ?_
            refine nr ?_; intro U h; simp only [z0, z1] at h; subst h
            refine s_val 63 rfl rfl (.int .u8 ((l1.getD e2 0 : Nat) : Int)) (run_ld bT _ rfl ⟨z.1, e2, none⟩ rfl _ _ (bvc kz (by omega))) ?_
            refine nr ?_; intro U h; simp only [z0, z1] at h; subst h
            refine s_val 64 rfl rfl (.int .u8 ((inc8 (l1.getD e2 0) : Nat) : Int)) (run_inc8 _ _ _ rfl (l1.getD e2 0) rfl rfl _) ?_
            refine nr ?_; intro U h; simp only [z0, z1] at h; subst h
            refine s_val 65 rfl rfl (.pointer (some ⟨z.1, e2, none⟩)) (bat _ _ rfl z.1 z.2.length z.2.length e2 rfl rfl he2n _) ?_
            refine nr ?_; intro U h; simp only [z0, z1] at h; subst h
            refine s_store rfl rfl 5 _ _ rfl z.1 e2 rfl (.int .u8 ((inc8 (l1.getD e2 0) : Nat) : Int)) rfl 5 _ kz #[.int .u8 ((inc8 (l1.getD e2 0) : Nat) : Int)] rfl si5 (by rw [bv_size]; simp only [List.size_toArray, List.length_cons, List.length_nil]; omega) (one1 _) _ (bv_set l1 e2 _ (by omega)) ?_
            intro w10 St
            replace GG := GG.store St (by omega)
            replace GX := GX.store St hz0
            replace HV := HV.st kz St (by simp) (set_byte hb1 _ _ (inc8_lt _))
            clear St kz
            refine wpList_nil ?_
            refine blk_n ?_
            refine then_n ?_
            refine wp_region_lit ?_
            refine s_val 66 rfl rfl (.int .i64 ((e2 + 1 : Nat) : Int)) (run_add64 _ _ _ rfl ((e2 : Nat) : Int) 1 _ rfl rfl (by omega) (by omega) (by omega) _) ?_
            refine nr ?_; intro U h; simp only [z0, z1] at h; subst h
            refine s_val 57 rfl rfl (.int .i64 ((e2 + 1 : Nat) : Int)) (rfl) ?_
            refine nr ?_; intro U h; simp only [z0, z1] at h; subst h
            refine wpList_nil ?_
            refine then_n ?_
            exact ⟨_, (by omega : z.2.length - (e2 + 1) < z.2.length - e2), e2 + 1, (fun kz => ([.int .i64 ((e2 : Nat) : Int), .bool true, .int .i64 ((e2 : Nat) : Int), .slice (some ⟨z.1, 0, none⟩) z.2.length z.2.length, .int .i64 ((e2 : Nat) : Int), .pointer (some ⟨z.1, e2, none⟩), .int .u8 ((l1.getD e2 0 : Nat) : Int), .int .u8 ((inc8 (l1.getD e2 0) : Nat) : Int), .pointer (some ⟨z.1, e2, none⟩), .int .i64 ((e2 + 1 : Nat) : Int)] : List Value).getD kz undef), rfl, rfl, he2n, GG, GX, HV⟩
          refine s_val 131 rfl rfl (.bool true) (rfl) ?_
          refine nr ?_; intro U h; simp only [z0, z1] at h; subst h
          refine wpList_nil ?_
          refine then_n ?_
          refine wp_cond_true rfl ?_
          refine wp_seq ?_
          refine wp_seq ?_
          obtain ⟨M, hM⟩ : ∃ M, w7.heap.size = M := ⟨_, rfl⟩
          have kr := HR.box
          refine wp_region_pg (A := ?Ag3) [p] 7 [(0, 133), (1, 134), (2, 135), (3, 136), (4, 137), (5, 138), (6, 139)] [.val (.pointer (some ⟨p, 0, none⟩)), faE M p w.heap.size ro q, .val (.pointer (some ⟨r, 0, none⟩)), .val (.pointer (some ⟨r, 0, none⟩)), .val (.pointer (some ⟨r, 0, none⟩)), .val (.slice so u.length sc), .val (.int .i64 ((u.length : Nat) : Int))] 1 follows (by kernel_rfl) rfl (by decide) (fun j hj hne v a b _ hb hp => match j, hj, hne, hp with | 0, _, _, hp => hp | 1, _, hne, _ => absurd rfl hne | 2, _, _, hp => hp | 3, _, _, hp => hp | 4, _, _, hp => hp | 5, _, _, hp => hp | 6, _, _, hp => hp | m + 7, hj, _, _ => absurd hj (by omega)) ?hAg3 (opsG_a (by decide) ?o0g3 (opsG_e ?o1g3 (opsG_a (by decide) ?o2g3 (opsG_a (by decide) ?o3g3 (opsG_a (by decide) ?o4g3 (opsG_a (by decide) ?o5g3 (opsG_a (by decide) ?o6g3 opsG_nil))))))) ?restg3
          case hAg3 =>
            intro ptrs
            simp only [full, foldSlots, filledE, postE, List.foldl_cons, List.foldl_nil, List.getD_cons_zero, List.getD_cons_succ, fill_val, fill_fa,  List.set_cons_zero, List.set_cons_succ]
            exact rfl
          case o0g3 => exact fun _ _ _ _ => opE_move (v := .pointer (some ⟨p, 0, none⟩)) _ rfl rfl rfl
          case o1g3 =>
            intro ptrs x9 hw hE
            have G := (Gro.refl _).drew.trans hw
            exact opX_call (faE M p w.heap.size ro q) rfl _ 14 Try.call14 rfl rfl _ rfl [.pointer (some ⟨p, 0, none⟩)] rfl ((fall_any _ p w.heap.size ro rc q (HP.gro G)).mono fun e w' ⟨a, c, he, G2, HP2, hk⟩ => ⟨_, he, G2, rfl, a, c, HP2, hk.mono (by rw [← hM]; exact G.size)⟩)
          case o2g3 => exact fun _ _ _ _ => opE_move (v := .pointer (some ⟨r, 0, none⟩)) _ rfl rfl rfl
          case o3g3 => exact fun _ _ hw _ => opE_value (v := .pointer (some ⟨r, 0, none⟩)) rfl (run_nc _ rfl _ rfl)
          case o4g3 => exact fun _ _ hw _ => opE_value (v := .pointer (some ⟨r, 0, none⟩)) rfl (run_fld 29 _ 0 rfl _ _ rfl _ (by kernel_rfl))
          case o5g3 => exact fun _ _ hw _ => opE_value (v := .slice so u.length sc) rfl (run_ldc 24 _ rfl r 0 rfl 29 _ (hw.has kr (fun h => by cases List.mem_singleton.1 h; exact ne_type HR.box HP.box (by decide) rfl)) (na24 _) _ rfl)
          case o6g3 => exact fun _ _ hw _ => opE_value (v := .int .i64 ((u.length : Nat) : Int)) rfl (run_len Try.underlying24 _ rfl _ _ _ rfl _)
          intro ptrs w8 GS hxE
          simp only [List.drop_succ_cons, List.drop_zero]
          obtain ⟨⟨hv, ao2, cap2, HP2, hkp⟩, _⟩ := hxE
          simp only [hv]
          clear kr
          replace GS := (GroS.refl _ _).drew.trans GS
          replace kg1 := GS.has kg1 (fun h => by cases List.mem_singleton.1 h; exact ne_type kg1 HP.box (by decide) rfl)
          replace hdis := dis_put HR.row hdis hkp (Nat.le_of_eq hM)
          replace HR := HR.other1 HP (by decide) GS
          replace GG := GS.gro GG (by simpa using bp)
          clear GS HP hkp hv
          have HP := HP2
          clear HP2
          refine s_val 140 rfl rfl (.bool false) (run_neq_k 3 .i64 _ _ _ rfl Try.underlying3 ((q.length : Nat) : Int) ((u.length : Nat) : Int) rfl rfl false (decide_eq_true (by omega)) _) ?_
          refine nr ?_; intro U h; simp only [z0, z1] at h; subst h
          refine wpList_nil ?_
          refine then_n ?_
          refine wp_cond_false rfl ?_
          refine wp_skip ?_
          refine then_n ?_
          refine wp_region_lit ?_
          refine s_val 141 rfl rfl (.pointer (some ⟨r, 0, none⟩)) (rfl) ?_
          refine nr ?_; intro U h; simp only [z0, z1] at h; subst h
          refine s_val 142 rfl rfl (.pointer (some ⟨r, 0, none⟩)) (run_nc _ rfl _ rfl) ?_
          refine nr ?_; intro U h; simp only [z0, z1] at h; subst h
          refine s_val 143 rfl rfl (.pointer (some ⟨r, 0, none⟩)) (run_fld 29 _ 0 rfl _ _ rfl _ (by kernel_rfl)) ?_
          refine nr ?_; intro U h; simp only [z0, z1] at h; subst h
          refine s_store rfl rfl 24 _ _ rfl r 0 rfl (.slice none 0 0) rfl 29 _ HR.box #[.slice none 0 0] rfl si24 (Nat.le_of_ble_eq_true rfl) (by kernel_rfl) #[.slice none 0 0] (by kernel_rfl) ?_
          intro w9 St
          replace kg1 := St.has (ne_type kg1 HR.box (by decide)) kg1
          replace HP := HP.stT (by decide) (by decide) (by decide) HR.box St
          replace GG := GG.store St br
          replace HR : PK 29 _ r w.heap.size none 0 [] := PK.new St.new br (by decide)
          clear St hdis
          have hdis : ∀ k ∈ blk ao2, k ∉ blk none := fun k _ h => by simp [blk] at h
          have hqu2 : ([] : List RV).map (·.l) = ([] : List RV).map (·.l) := rfl
          have hql2 : ([] : List RV).length = ([] : List RV).length := rfl
          refine wpList_nil ?_
          refine blk_n ?_
          refine then_n ?_
          refine wp_seq ?_
          have kr := HR.box
          refine wp_region_exA (A := ?Ax4) 7 [(0, 144), (1, 145), (2, 146), (3, 147), (4, 148), (5, 149), (6, 150)] [.val (.pointer (some ⟨p, 0, none⟩)), .val (.int .i64 ((([] : List RV).length : Nat) : Int)), .val (.pointer (some ⟨r, 0, none⟩)), .val (.pointer (some ⟨r, 0, none⟩)), .val (.pointer (some ⟨r, 0, none⟩)), .val (.slice none (([] : List RV).length) 0), .val (.int .i64 ((([] : List RV).length : Nat) : Int))] follows (by kernel_rfl) rfl ?hAx4 (opsA_cons ?o0x4 (opsA_cons ?o1x4 (opsA_cons ?o2x4 (opsA_cons ?o3x4 (opsA_cons ?o4x4 (opsA_cons ?o5x4 (opsA_cons ?o6x4 opsA_nil))))))) ?restx4
          case hAx4 =>
            intro ptrs
            simp only [full, foldSlots, filledE, postE, List.foldl_cons, List.foldl_nil, List.getD_cons_zero, List.getD_cons_succ, fill_val, List.set_cons_zero, List.set_cons_succ]
            exact rfl
          case o0x4 => exact fun _ _ _ _ => opE_move (v := .pointer (some ⟨p, 0, none⟩)) _ rfl rfl rfl
          case o1x4 => exact fun _ _ hw _ => opE_call (.val (.int .i64 ((([] : List RV).length : Nat) : Int))) rfl _ 17 Try.call17 rfl rfl _ rfl [.pointer (some ⟨p, 0, none⟩)] rfl ((len_any _ p w.heap.size ao2 cap2 ([] : List RV) (HP.gro ((Gro.refl _).drew.trans hw))).mono fun e w' ⟨he, hg⟩ => ⟨_, he, hg, rfl⟩)
          case o2x4 => exact fun _ _ _ _ => opE_move (v := .pointer (some ⟨r, 0, none⟩)) _ rfl rfl rfl
          case o3x4 => exact fun _ _ hw _ => opE_value (v := .pointer (some ⟨r, 0, none⟩)) rfl (run_nc _ rfl _ rfl)
          case o4x4 => exact fun _ _ hw _ => opE_value (v := .pointer (some ⟨r, 0, none⟩)) rfl (run_fld 29 _ 0 rfl _ _ rfl _ (by kernel_rfl))
          case o5x4 => exact fun _ _ hw _ => opE_value (v := .slice none (([] : List RV).length) 0) rfl (run_ldc 24 _ rfl r 0 rfl 29 _ (hw.has kr) (na24 _) _ rfl)
          case o6x4 => exact fun _ _ hw _ => opE_value (v := .int .i64 ((([] : List RV).length : Nat) : Int)) rfl (run_len Try.underlying24 _ rfl _ _ _ rfl _)
          intro ptrs w10 GD hxE
          simp only [List.drop_succ_cons, List.drop_zero]
          replace HP := HP.gro ((Gro.refl _).drew.trans GD)
          replace HR := HR.gro ((Gro.refl _).drew.trans GD)
          replace GG := GG.drew.trans GD
          clear kr
          clear GD
          refine s_val 151 rfl rfl (.bool false) (run_neq_k 3 .i64 _ _ _ rfl Try.underlying3 ((([] : List RV).length : Nat) : Int) ((([] : List RV).length : Nat) : Int) rfl rfl false (decide_eq_true (by omega)) _) ?_
          refine nr ?_; intro U h; simp only [z0, z1] at h; subst h
          refine wpList_nil ?_
          refine then_n ?_
          refine wp_cond_false rfl ?_
          refine wp_skip ?_
          refine blk_n ?_
          refine then_n ?_
          refine wp_region_lit ?_
          refine s_val 152 rfl rfl (.int .i64 ((j + 1 : Nat) : Int)) (run_add64 _ _ _ rfl ((j : Nat) : Int) 1 _ rfl rfl (by omega) (by omega) (by omega) _) ?_
          refine nr ?_; intro U h; simp only [z0, z1] at h; subst h
          refine s_val 23 rfl rfl (.int .i64 ((j + 1 : Nat) : Int)) (rfl) ?_
          refine nr ?_; intro U h; simp only [z0, z1] at h; subst h
          refine wpList_nil ?_
          refine then_n ?_
          exact ⟨_, (by omega : os.length - (j + 1) < os.length - j), j + 1, ao2, cap2, ([] : List RV), none, 0, ([] : List RV), (fun kz => ([us1 0, .int .i64 ((j : Nat) : Int), .pointer (some ⟨g1, 0, none⟩), us1 3, us1 4, us1 5, us1 6, us1 7, us1 8, us1 9, us1 10, us1 11, .bool true, .int .i64 ((j : Nat) : Int), .pointer (some (ad.add (j * 3))), .agg (c32 oq.k oq.i ⟨oq.ao, oq.l.length, oq.cap⟩), .int .i64 ((j : Nat) : Int), .bool false, .pointer (some ⟨g1, 2, none⟩), .slice oq.ao oq.l.length oq.cap, .pointer (some ⟨g1, 2, none⟩), .slice oq.ao oq.l.length oq.cap, .int .i64 ((oq.l.length : Nat) : Int), .int .i64 ((lb.length : Nat) : Int), .slice oq.ao lb.length oq.cap, .pointer (some ⟨g1, 2, none⟩), .pointer (some ⟨g1, 0, none⟩), .int .i64 oq.k, us1 28, us1 29, us1 30, us1 31, us1 32, us1 33, us1 34, us1 35, us1 36, us1 37, us1 38, us1 39, us1 40, us1 41, us1 42, us1 43, us1 44, us1 45, us1 46, us1 47, us1 48, us1 49, us1 50, us1 51, us1 52, us1 53, us1 54, us1 55, .bool false, .bool false, us1 58, us1 59, us1 60, us1 61, us1 62, us1 63, us1 64, us1 65, us1 66, us1 67, us1 68, us1 69, us1 70, us1 71, us1 72, us1 73, us1 74, us1 75, us1 76, us1 77, us1 78, us1 79, us1 80, us1 81, .bool false, .bool false, us1 84, us1 85, us1 86, us1 87, us1 88, us1 89, us1 90, us1 91, us1 92, us1 93, us1 94, us1 95, us1 96, us1 97, us1 98, us1 99, us1 100, us1 101, us1 102, us1 103, us1 104, us1 105, us1 106, us1 107, .bool false, .bool false, us1 110, us1 111, us1 112, us1 113, us1 114, us1 115, us1 116, us1 117, us1 118, .bool true, .bool true, .pointer (some ⟨p, 0, none⟩), .int .i64 ((q.length : Nat) : Int), .pointer (some ⟨r, 0, none⟩), .pointer (some ⟨r, 0, none⟩), .pointer (some ⟨r, 0, none⟩), .slice so u.length sc, .int .i64 ((u.length : Nat) : Int), .bool false, .pointer (some ⟨r, 0, none⟩), .pointer (some ⟨r, 0, none⟩), .pointer (some ⟨r, 0, none⟩), .pointer (some ⟨p, 0, none⟩), .int .i64 ((([] : List RV).length : Nat) : Int), .pointer (some ⟨r, 0, none⟩), .pointer (some ⟨r, 0, none⟩), .pointer (some ⟨r, 0, none⟩), .slice none (([] : List RV).length) 0, .int .i64 ((([] : List RV).length : Nat) : Int), .bool false, .int .i64 ((j + 1 : Nat) : Int)] : List Value).getD kz undef), rfl, rfl, hjn, (by omega), hqu2, hdis, GG, HP, HR⟩
        refine s_val 120 rfl rfl (.bool true) (rfl) ?_
        refine nr ?_; intro U h; simp only [z0, z1] at h; subst h
        refine wpList_nil ?_
        refine then_n ?_
        refine wp_cond_true rfl ?_
        refine wp_seq ?_
        rcases (show q.length = 0 ∨ 256 ≤ q.length ∨ (0 < q.length ∧ q.length < 256) by omega) with h3 | h3 | h3
        · refine wp_region_pg (A := ?Ag5) ([] : List Nat) 7 [(0, 122), (1, 123), (2, 124), (3, 125), (4, 126), (5, 127), (6, 128)] [.val (.pointer (some ⟨p, 0, none⟩)), .val (.pointer (some ⟨g1, 1, none⟩)), .val (.int .i64 oq.i), .val (.bool false), .val (.pointer (some ⟨r, 0, none⟩)), .val (.pointer (some ⟨g1, 1, none⟩)), .val (.int .i64 oq.i)] 3 follows (by kernel_rfl) rfl (by decide) (fun j hj hne v a b _ hb hp => match j, hj, hne, hp with | 0, _, _, hp => hp | 1, _, _, hp => hp | 2, _, _, hp => hp | 3, _, hne, _ => absurd rfl hne | 4, _, _, hp => hp | 5, _, _, hp => hp | 6, _, _, hp => hp | m + 7, hj, _, _ => absurd hj (by omega)) ?hAg5 (opsG_a (by decide) ?o0g5 (opsG_a (by decide) ?o1g5 (opsG_a (by decide) ?o2g5 (opsG_e ?o3g5 (opsG_a (by decide) ?o4g5 (opsG_a (by decide) ?o5g5 (opsG_a (by decide) ?o6g5 opsG_nil))))))) ?restg5
          case hAg5 =>
            intro ptrs
            simp only [full, foldSlots, filledE, postE, List.foldl_cons, List.foldl_nil, List.getD_cons_zero, List.getD_cons_succ, fill_val,  List.set_cons_zero, List.set_cons_succ]
            exact rfl
          case o0g5 => exact fun _ _ _ _ => opE_move (v := .pointer (some ⟨p, 0, none⟩)) _ rfl rfl rfl
          case o1g5 => exact fun _ _ hw _ => opE_value (v := .pointer (some ⟨g1, 1, none⟩)) rfl (run_fld 32 _ 1 rfl _ _ rfl _ (by kernel_rfl))
          case o2g5 => exact fun _ _ hw _ => opE_value (v := .int .i64 oq.i) rfl (run_ldc 3 _ rfl g1 1 rfl 32 _ (hw.has kg1 (by simp)) (na3 _) _ rfl)
          case o3g5 =>
            intro ptrs x9 hw hE
            have G := (Gro.refl _).drew.trans hw
            exact opX_call (.val (.bool false)) rfl _ 12 Try.call12 rfl rfl _ rfl [.pointer (some ⟨p, 0, none⟩), .int .i64 oq.i] rfl ((twice_none _ p w.heap.size ro rc q (HP.gro G) oq.i h3).mono fun e w' ⟨he, G2⟩ => ⟨_, he, .of G2, rfl⟩)
          case o4g5 => exact fun _ _ _ _ => opE_move (v := .pointer (some ⟨r, 0, none⟩)) _ rfl rfl rfl
          case o5g5 => exact fun _ _ hw _ => opE_value (v := .pointer (some ⟨g1, 1, none⟩)) rfl (run_fld 32 _ 1 rfl _ _ rfl _ (by kernel_rfl))
          case o6g5 => exact fun _ _ hw _ => opE_value (v := .int .i64 oq.i) rfl (run_ldc 3 _ rfl g1 1 rfl 32 _ (hw.has kg1 (by simp)) (na3 _) _ rfl)
          intro ptrs w8 GS hxE
          simp only [List.drop_succ_cons, List.drop_zero]
          clear hxE
          replace GS := (GroS.refl _ _).drew.trans GS
          have G0 : Gro _ _ := ⟨GS.os, GS.tape, GS.output, GS.size, fun k hk => GS.old k hk (by simp)⟩
          clear GS
          replace kg1 := G0.has kg1
          replace HP := HP.gro G0
          replace HR := HR.gro G0
          replace GG := GG.trans G0
          clear G0
          refine s_callv 129 rfl rfl _ 13 Try.call13 rfl rfl _ rfl [.pointer (some ⟨r, 0, none⟩), .int .i64 oq.i] rfl (rtwice_none _ r w.heap.size so sc u HR oq.i (by omega)) ?_
          intro w9 G
          replace kg1 := G.has kg1
          replace HP := HP.gro G
          replace HR := HR.gro G
          replace GG := GG.trans G
          clear G
          refine nr ?_; intro U h; simp only [z0, z1] at h; subst h
          have hqu2 := hqu
          have hql2 := hql
          refine s_val 130 rfl rfl (.bool false) (run_neB 4 _ _ _ rfl false false rfl rfl Try.underlying4 false (decide_eq_true rfl) _) ?_
          refine nr ?_; intro U h; simp only [z0, z1] at h; subst h
          refine wpList_nil ?_
          refine then_n ?_
          refine wp_cond_false rfl ?_
          refine wp_skip ?_
          refine blk_n ?_
          refine then_n ?_
          refine wp_seq ?_
          have kr := HR.box
          refine wp_region_exA (A := ?Ax6) 7 [(0, 144), (1, 145), (2, 146), (3, 147), (4, 148), (5, 149), (6, 150)] [.val (.pointer (some ⟨p, 0, none⟩)), .val (.int .i64 ((q.length : Nat) : Int)), .val (.pointer (some ⟨r, 0, none⟩)), .val (.pointer (some ⟨r, 0, none⟩)), .val (.pointer (some ⟨r, 0, none⟩)), .val (.slice so u.length sc), .val (.int .i64 ((u.length : Nat) : Int))] follows (by kernel_rfl) rfl ?hAx6 (opsA_cons ?o0x6 (opsA_cons ?o1x6 (opsA_cons ?o2x6 (opsA_cons ?o3x6 (opsA_cons ?o4x6 (opsA_cons ?o5x6 (opsA_cons ?o6x6 opsA_nil))))))) ?restx6
          case hAx6 =>
            intro ptrs
            simp only [full, foldSlots, filledE, postE, List.foldl_cons, List.foldl_nil, List.getD_cons_zero, List.getD_cons_succ, fill_val, List.set_cons_zero, List.set_cons_succ]
            exact rfl
          case o0x6 => exact fun _ _ _ _ => opE_move (v := .pointer (some ⟨p, 0, none⟩)) _ rfl rfl rfl
          case o1x6 => exact fun _ _ hw _ => opE_call (.val (.int .i64 ((q.length : Nat) : Int))) rfl _ 17 Try.call17 rfl rfl _ rfl [.pointer (some ⟨p, 0, none⟩)] rfl ((len_any _ p w.heap.size ro rc q (HP.gro ((Gro.refl _).drew.trans hw))).mono fun e w' ⟨he, hg⟩ => ⟨_, he, hg, rfl⟩)
          case o2x6 => exact fun _ _ _ _ => opE_move (v := .pointer (some ⟨r, 0, none⟩)) _ rfl rfl rfl
          case o3x6 => exact fun _ _ hw _ => opE_value (v := .pointer (some ⟨r, 0, none⟩)) rfl (run_nc _ rfl _ rfl)
          case o4x6 => exact fun _ _ hw _ => opE_value (v := .pointer (some ⟨r, 0, none⟩)) rfl (run_fld 29 _ 0 rfl _ _ rfl _ (by kernel_rfl))
          case o5x6 => exact fun _ _ hw _ => opE_value (v := .slice so u.length sc) rfl (run_ldc 24 _ rfl r 0 rfl 29 _ (hw.has kr) (na24 _) _ rfl)
          case o6x6 => exact fun _ _ hw _ => opE_value (v := .int .i64 ((u.length : Nat) : Int)) rfl (run_len Try.underlying24 _ rfl _ _ _ rfl _)
          intro ptrs w10 GD hxE
          simp only [List.drop_succ_cons, List.drop_zero]
          replace HP := HP.gro ((Gro.refl _).drew.trans GD)
          replace HR := HR.gro ((Gro.refl _).drew.trans GD)
          replace GG := GG.drew.trans GD
          clear kr
          clear GD
          refine s_val 151 rfl rfl (.bool false) (run_neq_k 3 .i64 _ _ _ rfl Try.underlying3 ((q.length : Nat) : Int) ((u.length : Nat) : Int) rfl rfl false (decide_eq_true (by omega)) _) ?_
          refine nr ?_; intro U h; simp only [z0, z1] at h; subst h
          refine wpList_nil ?_
          refine then_n ?_
          refine wp_cond_false rfl ?_
          refine wp_skip ?_
          refine blk_n ?_
          refine then_n ?_
          refine wp_region_lit ?_
          refine s_val 152 rfl rfl (.int .i64 ((j + 1 : Nat) : Int)) (run_add64 _ _ _ rfl ((j : Nat) : Int) 1 _ rfl rfl (by omega) (by omega) (by omega) _) ?_
          refine nr ?_; intro U h; simp only [z0, z1] at h; subst h
          refine s_val 23 rfl rfl (.int .i64 ((j + 1 : Nat) : Int)) (rfl) ?_
          refine nr ?_; intro U h; simp only [z0, z1] at h; subst h
          refine wpList_nil ?_
          refine then_n ?_
          exact ⟨_, (by omega : os.length - (j + 1) < os.length - j), j + 1, ro, rc, q, so, sc, u, (fun kz => ([us1 0, .int .i64 ((j : Nat) : Int), .pointer (some ⟨g1, 0, none⟩), us1 3, us1 4, us1 5, us1 6, us1 7, us1 8, us1 9, us1 10, us1 11, .bool true, .int .i64 ((j : Nat) : Int), .pointer (some (ad.add (j * 3))), .agg (c32 oq.k oq.i ⟨oq.ao, oq.l.length, oq.cap⟩), .int .i64 ((j : Nat) : Int), .bool false, .pointer (some ⟨g1, 2, none⟩), .slice oq.ao oq.l.length oq.cap, .pointer (some ⟨g1, 2, none⟩), .slice oq.ao oq.l.length oq.cap, .int .i64 ((oq.l.length : Nat) : Int), .int .i64 ((lb.length : Nat) : Int), .slice oq.ao lb.length oq.cap, .pointer (some ⟨g1, 2, none⟩), .pointer (some ⟨g1, 0, none⟩), .int .i64 oq.k, us1 28, us1 29, us1 30, us1 31, us1 32, us1 33, us1 34, us1 35, us1 36, us1 37, us1 38, us1 39, us1 40, us1 41, us1 42, us1 43, us1 44, us1 45, us1 46, us1 47, us1 48, us1 49, us1 50, us1 51, us1 52, us1 53, us1 54, us1 55, .bool false, .bool false, us1 58, us1 59, us1 60, us1 61, us1 62, us1 63, us1 64, us1 65, us1 66, us1 67, us1 68, us1 69, us1 70, us1 71, us1 72, us1 73, us1 74, us1 75, us1 76, us1 77, us1 78, us1 79, us1 80, us1 81, .bool false, .bool false, us1 84, us1 85, us1 86, us1 87, us1 88, us1 89, us1 90, us1 91, us1 92, us1 93, us1 94, us1 95, us1 96, us1 97, us1 98, us1 99, us1 100, us1 101, us1 102, us1 103, us1 104, us1 105, us1 106, us1 107, .bool true, .bool true, .pointer (some ⟨p, 0, none⟩), .pointer (some ⟨g1, 1, none⟩), .int .i64 oq.i, .bool false, .pointer (some ⟨r, 0, none⟩), .pointer (some ⟨g1, 1, none⟩), .int .i64 oq.i, .bool false, .bool false, us1 119, us1 120, us1 121, us1 122, us1 123, us1 124, us1 125, us1 126, us1 127, us1 128, us1 129, us1 130, us1 131, .pointer (some ⟨p, 0, none⟩), .int .i64 ((q.length : Nat) : Int), .pointer (some ⟨r, 0, none⟩), .pointer (some ⟨r, 0, none⟩), .pointer (some ⟨r, 0, none⟩), .slice so u.length sc, .int .i64 ((u.length : Nat) : Int), .bool false, .int .i64 ((j + 1 : Nat) : Int)] : List Value).getD kz undef), rfl, rfl, hjn, (by omega), hqu2, hdis, GG, HP, HR⟩
        · obtain ⟨k, hk⟩ : ∃ k, uN oq.i % q.length = k := ⟨_, rfl⟩
          have hkl : k < q.length := by rw [← hk]; exact Nat.mod_lt _ (by omega)
          obtain ⟨x, hx⟩ : ∃ x, q[k]? = some x := ⟨_, List.getElem?_eq_getElem hkl⟩
          obtain ⟨z, hz⟩ : ∃ x, u[k]? = some x := ⟨_, List.getElem?_eq_getElem (by omega)⟩
          have hxz : x.l = z.l := by have h1 := map_at hqu hx; rw [List.getElem?_map, hz] at h1; simpa using h1.symm
          refine wp_region_pg (A := ?Ag7) ([] : List Nat) 7 [(0, 122), (1, 123), (2, 124), (3, 125), (4, 126), (5, 127), (6, 128)] [.val (.pointer (some ⟨p, 0, none⟩)), .val (.pointer (some ⟨g1, 1, none⟩)), .val (.int .i64 oq.i), .val (.bool false), .val (.pointer (some ⟨r, 0, none⟩)), .val (.pointer (some ⟨g1, 1, none⟩)), .val (.int .i64 oq.i)] 3 follows (by kernel_rfl) rfl (by decide) (fun j hj hne v a b _ hb hp => match j, hj, hne, hp with | 0, _, _, hp => hp | 1, _, _, hp => hp | 2, _, _, hp => hp | 3, _, hne, _ => absurd rfl hne | 4, _, _, hp => hp | 5, _, _, hp => hp | 6, _, _, hp => hp | m + 7, hj, _, _ => absurd hj (by omega)) ?hAg7 (opsG_a (by decide) ?o0g7 (opsG_a (by decide) ?o1g7 (opsG_a (by decide) ?o2g7 (opsG_e ?o3g7 (opsG_a (by decide) ?o4g7 (opsG_a (by decide) ?o5g7 (opsG_a (by decide) ?o6g7 opsG_nil))))))) ?restg7
          case hAg7 =>
            intro ptrs
            simp only [full, foldSlots, filledE, postE, List.foldl_cons, List.foldl_nil, List.getD_cons_zero, List.getD_cons_succ, fill_val,  List.set_cons_zero, List.set_cons_succ]
            exact rfl
          case o0g7 => exact fun _ _ _ _ => opE_move (v := .pointer (some ⟨p, 0, none⟩)) _ rfl rfl rfl
          case o1g7 => exact fun _ _ hw _ => opE_value (v := .pointer (some ⟨g1, 1, none⟩)) rfl (run_fld 32 _ 1 rfl _ _ rfl _ (by kernel_rfl))
          case o2g7 => exact fun _ _ hw _ => opE_value (v := .int .i64 oq.i) rfl (run_ldc 3 _ rfl g1 1 rfl 32 _ (hw.has kg1 (by simp)) (na3 _) _ rfl)
          case o3g7 =>
            intro ptrs x9 hw hE
            have G := (Gro.refl _).drew.trans hw
            exact opX_call (.val (.bool false)) rfl _ 12 Try.call12 rfl rfl _ rfl [.pointer (some ⟨p, 0, none⟩), .int .i64 oq.i] rfl ((twice_full _ p w.heap.size ro rc q (HP.gro G) oq.i k hk x hx h3).mono fun e w' ⟨he, G2⟩ => ⟨_, he, .of G2, rfl⟩)
          case o4g7 => exact fun _ _ _ _ => opE_move (v := .pointer (some ⟨r, 0, none⟩)) _ rfl rfl rfl
          case o5g7 => exact fun _ _ hw _ => opE_value (v := .pointer (some ⟨g1, 1, none⟩)) rfl (run_fld 32 _ 1 rfl _ _ rfl _ (by kernel_rfl))
          case o6g7 => exact fun _ _ hw _ => opE_value (v := .int .i64 oq.i) rfl (run_ldc 3 _ rfl g1 1 rfl 32 _ (hw.has kg1 (by simp)) (na3 _) _ rfl)
          intro ptrs w8 GS hxE
          simp only [List.drop_succ_cons, List.drop_zero]
          clear hxE
          replace GS := (GroS.refl _ _).drew.trans GS
          have G0 : Gro _ _ := ⟨GS.os, GS.tape, GS.output, GS.size, fun k hk => GS.old k hk (by simp)⟩
          clear GS
          replace kg1 := G0.has kg1
          replace HP := HP.gro G0
          replace HR := HR.gro G0
          replace GG := GG.trans G0
          clear G0
          refine s_callv 129 rfl rfl _ 13 Try.call13 rfl rfl _ rfl [.pointer (some ⟨r, 0, none⟩), .int .i64 oq.i] rfl (rtwice_full _ r w.heap.size so sc u HR oq.i k (by rw [← hql]; exact hk) z hz (by omega)) ?_
          intro w9 G
          replace kg1 := G.has kg1
          replace HP := HP.gro G
          replace HR := HR.gro G
          replace GG := GG.trans G
          clear G
          refine nr ?_; intro U h; simp only [z0, z1] at h; subst h
          have hqu2 := hqu
          have hql2 := hql
          refine s_val 130 rfl rfl (.bool false) (run_neB 4 _ _ _ rfl false false rfl rfl Try.underlying4 false (decide_eq_true rfl) _) ?_
          refine nr ?_; intro U h; simp only [z0, z1] at h; subst h
          refine wpList_nil ?_
          refine then_n ?_
          refine wp_cond_false rfl ?_
          refine wp_skip ?_
          refine blk_n ?_
          refine then_n ?_
          refine wp_seq ?_
          have kr := HR.box
          refine wp_region_exA (A := ?Ax8) 7 [(0, 144), (1, 145), (2, 146), (3, 147), (4, 148), (5, 149), (6, 150)] [.val (.pointer (some ⟨p, 0, none⟩)), .val (.int .i64 ((q.length : Nat) : Int)), .val (.pointer (some ⟨r, 0, none⟩)), .val (.pointer (some ⟨r, 0, none⟩)), .val (.pointer (some ⟨r, 0, none⟩)), .val (.slice so u.length sc), .val (.int .i64 ((u.length : Nat) : Int))] follows (by kernel_rfl) rfl ?hAx8 (opsA_cons ?o0x8 (opsA_cons ?o1x8 (opsA_cons ?o2x8 (opsA_cons ?o3x8 (opsA_cons ?o4x8 (opsA_cons ?o5x8 (opsA_cons ?o6x8 opsA_nil))))))) ?restx8
          case hAx8 =>
            intro ptrs
            simp only [full, foldSlots, filledE, postE, List.foldl_cons, List.foldl_nil, List.getD_cons_zero, List.getD_cons_succ, fill_val, List.set_cons_zero, List.set_cons_succ]
            exact rfl
          case o0x8 => exact fun _ _ _ _ => opE_move (v := .pointer (some ⟨p, 0, none⟩)) _ rfl rfl rfl
          case o1x8 => exact fun _ _ hw _ => opE_call (.val (.int .i64 ((q.length : Nat) : Int))) rfl _ 17 Try.call17 rfl rfl _ rfl [.pointer (some ⟨p, 0, none⟩)] rfl ((len_any _ p w.heap.size ro rc q (HP.gro ((Gro.refl _).drew.trans hw))).mono fun e w' ⟨he, hg⟩ => ⟨_, he, hg, rfl⟩)
          case o2x8 => exact fun _ _ _ _ => opE_move (v := .pointer (some ⟨r, 0, none⟩)) _ rfl rfl rfl
          case o3x8 => exact fun _ _ hw _ => opE_value (v := .pointer (some ⟨r, 0, none⟩)) rfl (run_nc _ rfl _ rfl)
          case o4x8 => exact fun _ _ hw _ => opE_value (v := .pointer (some ⟨r, 0, none⟩)) rfl (run_fld 29 _ 0 rfl _ _ rfl _ (by kernel_rfl))
          case o5x8 => exact fun _ _ hw _ => opE_value (v := .slice so u.length sc) rfl (run_ldc 24 _ rfl r 0 rfl 29 _ (hw.has kr) (na24 _) _ rfl)
          case o6x8 => exact fun _ _ hw _ => opE_value (v := .int .i64 ((u.length : Nat) : Int)) rfl (run_len Try.underlying24 _ rfl _ _ _ rfl _)
          intro ptrs w10 GD hxE
          simp only [List.drop_succ_cons, List.drop_zero]
          replace HP := HP.gro ((Gro.refl _).drew.trans GD)
          replace HR := HR.gro ((Gro.refl _).drew.trans GD)
          replace GG := GG.drew.trans GD
          clear kr
          clear GD
          refine s_val 151 rfl rfl (.bool false) (run_neq_k 3 .i64 _ _ _ rfl Try.underlying3 ((q.length : Nat) : Int) ((u.length : Nat) : Int) rfl rfl false (decide_eq_true (by omega)) _) ?_
          refine nr ?_; intro U h; simp only [z0, z1] at h; subst h
          refine wpList_nil ?_
          refine then_n ?_
          refine wp_cond_false rfl ?_
          refine wp_skip ?_
          refine blk_n ?_
          refine then_n ?_
          refine wp_region_lit ?_
          refine s_val 152 rfl rfl (.int .i64 ((j + 1 : Nat) : Int)) (run_add64 _ _ _ rfl ((j : Nat) : Int) 1 _ rfl rfl (by omega) (by omega) (by omega) _) ?_
          refine nr ?_; intro U h; simp only [z0, z1] at h; subst h
          refine s_val 23 rfl rfl (.int .i64 ((j + 1 : Nat) : Int)) (rfl) ?_
          refine nr ?_; intro U h; simp only [z0, z1] at h; subst h
          refine wpList_nil ?_
          refine then_n ?_
          exact ⟨_, (by omega : os.length - (j + 1) < os.length - j), j + 1, ro, rc, q, so, sc, u, (fun kz => ([us1 0, .int .i64 ((j : Nat) : Int), .pointer (some ⟨g1, 0, none⟩), us1 3, us1 4, us1 5, us1 6, us1 7, us1 8, us1 9, us1 10, us1 11, .bool true, .int .i64 ((j : Nat) : Int), .pointer (some (ad.add (j * 3))), .agg (c32 oq.k oq.i ⟨oq.ao, oq.l.length, oq.cap⟩), .int .i64 ((j : Nat) : Int), .bool false, .pointer (some ⟨g1, 2, none⟩), .slice oq.ao oq.l.length oq.cap, .pointer (some ⟨g1, 2, none⟩), .slice oq.ao oq.l.length oq.cap, .int .i64 ((oq.l.length : Nat) : Int), .int .i64 ((lb.length : Nat) : Int), .slice oq.ao lb.length oq.cap, .pointer (some ⟨g1, 2, none⟩), .pointer (some ⟨g1, 0, none⟩), .int .i64 oq.k, us1 28, us1 29, us1 30, us1 31, us1 32, us1 33, us1 34, us1 35, us1 36, us1 37, us1 38, us1 39, us1 40, us1 41, us1 42, us1 43, us1 44, us1 45, us1 46, us1 47, us1 48, us1 49, us1 50, us1 51, us1 52, us1 53, us1 54, us1 55, .bool false, .bool false, us1 58, us1 59, us1 60, us1 61, us1 62, us1 63, us1 64, us1 65, us1 66, us1 67, us1 68, us1 69, us1 70, us1 71, us1 72, us1 73, us1 74, us1 75, us1 76, us1 77, us1 78, us1 79, us1 80, us1 81, .bool false, .bool false, us1 84, us1 85, us1 86, us1 87, us1 88, us1 89, us1 90, us1 91, us1 92, us1 93, us1 94, us1 95, us1 96, us1 97, us1 98, us1 99, us1 100, us1 101, us1 102, us1 103, us1 104, us1 105, us1 106, us1 107, .bool true, .bool true, .pointer (some ⟨p, 0, none⟩), .pointer (some ⟨g1, 1, none⟩), .int .i64 oq.i, .bool false, .pointer (some ⟨r, 0, none⟩), .pointer (some ⟨g1, 1, none⟩), .int .i64 oq.i, .bool false, .bool false, us1 119, us1 120, us1 121, us1 122, us1 123, us1 124, us1 125, us1 126, us1 127, us1 128, us1 129, us1 130, us1 131, .pointer (some ⟨p, 0, none⟩), .int .i64 ((q.length : Nat) : Int), .pointer (some ⟨r, 0, none⟩), .pointer (some ⟨r, 0, none⟩), .pointer (some ⟨r, 0, none⟩), .slice so u.length sc, .int .i64 ((u.length : Nat) : Int), .bool false, .int .i64 ((j + 1 : Nat) : Int)] : List Value).getD kz undef), rfl, rfl, hjn, (by omega), hqu2, hdis, GG, HP, HR⟩
        obtain ⟨k, hk⟩ : ∃ k, uN oq.i % q.length = k := ⟨_, rfl⟩
        have hkl : k < q.length := by rw [← hk]; exact Nat.mod_lt _ (by omega)
        obtain ⟨x, hx⟩ : ∃ x, q[k]? = some x := ⟨_, List.getElem?_eq_getElem hkl⟩
        obtain ⟨z, hz⟩ : ∃ x, u[k]? = some x := ⟨_, List.getElem?_eq_getElem (by omega)⟩
        have hxz : x.l = z.l := by have h1 := map_at hqu hx; rw [List.getElem?_map, hz] at h1; simpa using h1.symm
        obtain ⟨M, hM⟩ : ∃ M, w7.heap.size = M := ⟨_, rfl⟩
        have hdis0 := hdis
        refine wp_region_pg (A := ?Ag9) (p :: blk ro) 7 [(0, 122), (1, 123), (2, 124), (3, 125), (4, 126), (5, 127), (6, 128)] [.val (.pointer (some ⟨p, 0, none⟩)), .val (.pointer (some ⟨g1, 1, none⟩)), .val (.int .i64 oq.i), puE M p w.heap.size ro q x.l, .val (.pointer (some ⟨r, 0, none⟩)), .val (.pointer (some ⟨g1, 1, none⟩)), .val (.int .i64 oq.i)] 3 follows (by kernel_rfl) rfl (by decide) (fun j hj hne v a b _ hb hp => match j, hj, hne, hp with | 0, _, _, hp => hp | 1, _, _, hp => hp | 2, _, _, hp => hp | 3, _, hne, _ => absurd rfl hne | 4, _, _, hp => hp | 5, _, _, hp => hp | 6, _, _, hp => hp | m + 7, hj, _, _ => absurd hj (by omega)) ?hAg9 (opsG_a (by decide) ?o0g9 (opsG_a (by decide) ?o1g9 (opsG_a (by decide) ?o2g9 (opsG_e ?o3g9 (opsG_a (by decide) ?o4g9 (opsG_a (by decide) ?o5g9 (opsG_a (by decide) ?o6g9 opsG_nil))))))) ?restg9
        case hAg9 =>
          intro ptrs
          simp only [full, foldSlots, filledE, postE, List.foldl_cons, List.foldl_nil, List.getD_cons_zero, List.getD_cons_succ, fill_val, fill_pu,  List.set_cons_zero, List.set_cons_succ]
          exact rfl
        case o0g9 => exact fun _ _ _ _ => opE_move (v := .pointer (some ⟨p, 0, none⟩)) _ rfl rfl rfl
        case o1g9 => exact fun _ _ hw _ => opE_value (v := .pointer (some ⟨g1, 1, none⟩)) rfl (run_fld 32 _ 1 rfl _ _ rfl _ (by kernel_rfl))
        case o2g9 => exact fun _ _ hw _ => opE_value (v := .int .i64 oq.i) rfl (run_ldc 3 _ rfl g1 1 rfl 32 _ (hw.has kg1 (HP.notT kg1 (by decide) (by decide))) (na3 _) _ rfl)
        case o3g9 =>
          intro ptrs x9 hw hE
          have G := (Gro.refl _).drew.trans hw
          exact opX_call (puE M p w.heap.size ro q x.l) rfl _ 12 Try.call12 rfl rfl _ rfl [.pointer (some ⟨p, 0, none⟩), .int .i64 oq.i] rfl ((twice_ok _ p w.heap.size ro rc q (HP.gro G) oq.i k hk x hx h3.2).mono fun e w' ⟨a, c, y, he, hy, G2, HP2, HY, hk⟩ => ⟨_, he, G2, rfl, a, c, y, hy, HP2, HY.mono (by rw [← hM]; exact G.size), hk.mono (by rw [← hM]; exact G.size)⟩)
        case o4g9 => exact fun _ _ _ _ => opE_move (v := .pointer (some ⟨r, 0, none⟩)) _ rfl rfl rfl
        case o5g9 => exact fun _ _ hw _ => opE_value (v := .pointer (some ⟨g1, 1, none⟩)) rfl (run_fld 32 _ 1 rfl _ _ rfl _ (by kernel_rfl))
        case o6g9 => exact fun _ _ hw _ => opE_value (v := .int .i64 oq.i) rfl (run_ldc 3 _ rfl g1 1 rfl 32 _ (hw.has kg1 (HP.notT kg1 (by decide) (by decide))) (na3 _) _ rfl)
        intro ptrs w8 GS hxE
        simp only [List.drop_succ_cons, List.drop_zero]
        obtain ⟨⟨hv, ao2, cap2, y, hyl, HP2, HY, hkp⟩, _⟩ := hxE
        simp only [hv]
        replace GS := (GroS.refl _ _).drew.trans GS
        replace kg1 := GS.has kg1 (HP.notT kg1 (by decide) (by decide))
        replace hdis := dis_put HR.row hdis hkp (Nat.le_of_eq hM)
        replace HR := HR.other HP (by decide) GS hdis0
        replace GG := GS.gro GG HP.sb
        clear GS HP hkp hv hdis0 HY
        have HP := HP2
        clear HP2
        have hdis0 := hdis
        refine s_callx 129 rfl rfl _ 13 Try.call13 rfl rfl _ rfl [.pointer (some ⟨r, 0, none⟩), .int .i64 oq.i] rfl (rtwice_ok _ r w.heap.size so sc u HR oq.i k (by rw [← hql]; exact hk) z hz (by omega)) (fun _ _ ⟨_, _, _, he, _⟩ => ⟨_, he⟩) ?_
        rintro v w9 ⟨ao3, cap3, z2, he, hzl, G, HR2, HZ, hkz⟩
        cases he
        replace kg1 := G.has kg1 (HR.notT kg1 (by decide) (by decide))
        replace hdis := dis_app HP.row hdis hkz (Nat.le_refl _)
        replace HP := HP.other HR (by decide) G (dis_sym hdis0)
        replace GG := G.gro GG HR.sb
        clear G HR hkz hdis0 HZ
        have HR := HR2
        clear HR2
        have hqu2 := map_app hqu ((hyl.trans hxz).trans hzl.symm)
        have hql2 := map_len hqu2
        refine nr ?_; intro U h; simp only [z0, z1] at h; subst h
        refine s_val 130 rfl rfl (.bool false) (run_neB 4 _ _ _ rfl true true rfl rfl Try.underlying4 false (decide_eq_true rfl) _) ?_
        refine nr ?_; intro U h; simp only [z0, z1] at h; subst h
        refine wpList_nil ?_
        refine then_n ?_
        refine wp_cond_false rfl ?_
        refine wp_skip ?_
        refine blk_n ?_
        refine then_n ?_
        refine wp_seq ?_
        have kr := HR.box
        refine wp_region_exA (A := ?Ax10) 7 [(0, 144), (1, 145), (2, 146), (3, 147), (4, 148), (5, 149), (6, 150)] [.val (.pointer (some ⟨p, 0, none⟩)), .val (.int .i64 (((q ++ [y]).length : Nat) : Int)), .val (.pointer (some ⟨r, 0, none⟩)), .val (.pointer (some ⟨r, 0, none⟩)), .val (.pointer (some ⟨r, 0, none⟩)), .val (.slice ao3 ((u ++ [z2]).length) cap3), .val (.int .i64 (((u ++ [z2]).length : Nat) : Int))] follows (by kernel_rfl) rfl ?hAx10 (opsA_cons ?o0x10 (opsA_cons ?o1x10 (opsA_cons ?o2x10 (opsA_cons ?o3x10 (opsA_cons ?o4x10 (opsA_cons ?o5x10 (opsA_cons ?o6x10 opsA_nil))))))) ?restx10
        case hAx10 =>
          intro ptrs
          simp only [full, foldSlots, filledE, postE, List.foldl_cons, List.foldl_nil, List.getD_cons_zero, List.getD_cons_succ, fill_val, List.set_cons_zero, List.set_cons_succ]
          exact rfl
        case o0x10 => exact fun _ _ _ _ => opE_move (v := .pointer (some ⟨p, 0, none⟩)) _ rfl rfl rfl
        case o1x10 => exact fun _ _ hw _ => opE_call (.val (.int .i64 (((q ++ [y]).length : Nat) : Int))) rfl _ 17 Try.call17 rfl rfl _ rfl [.pointer (some ⟨p, 0, none⟩)] rfl ((len_any _ p w.heap.size ao2 cap2 (q ++ [y]) (HP.gro ((Gro.refl _).drew.trans hw))).mono fun e w' ⟨he, hg⟩ => ⟨_, he, hg, rfl⟩)
        case o2x10 => exact fun _ _ _ _ => opE_move (v := .pointer (some ⟨r, 0, none⟩)) _ rfl rfl rfl
        case o3x10 => exact fun _ _ hw _ => opE_value (v := .pointer (some ⟨r, 0, none⟩)) rfl (run_nc _ rfl _ rfl)
        case o4x10 => exact fun _ _ hw _ => opE_value (v := .pointer (some ⟨r, 0, none⟩)) rfl (run_fld 29 _ 0 rfl _ _ rfl _ (by kernel_rfl))
        case o5x10 => exact fun _ _ hw _ => opE_value (v := .slice ao3 ((u ++ [z2]).length) cap3) rfl (run_ldc 24 _ rfl r 0 rfl 29 _ (hw.has kr) (na24 _) _ rfl)
        case o6x10 => exact fun _ _ hw _ => opE_value (v := .int .i64 (((u ++ [z2]).length : Nat) : Int)) rfl (run_len Try.underlying24 _ rfl _ _ _ rfl _)
        intro ptrs w10 GD hxE
        simp only [List.drop_succ_cons, List.drop_zero]
        replace HP := HP.gro ((Gro.refl _).drew.trans GD)
        replace HR := HR.gro ((Gro.refl _).drew.trans GD)
        replace GG := GG.drew.trans GD
        clear kr
        clear GD
        refine s_val 151 rfl rfl (.bool false) (run_neq_k 3 .i64 _ _ _ rfl Try.underlying3 (((q ++ [y]).length : Nat) : Int) (((u ++ [z2]).length : Nat) : Int) rfl rfl false (decide_eq_true (by omega)) _) ?_
        refine nr ?_; intro U h; simp only [z0, z1] at h; subst h
        refine wpList_nil ?_
        refine then_n ?_
        refine wp_cond_false rfl ?_
        refine wp_skip ?_
        refine blk_n ?_
        refine then_n ?_
        refine wp_region_lit ?_
        refine s_val 152 rfl rfl (.int .i64 ((j + 1 : Nat) : Int)) (run_add64 _ _ _ rfl ((j : Nat) : Int) 1 _ rfl rfl (by omega) (by omega) (by omega) _) ?_
        refine nr ?_; intro U h; simp only [z0, z1] at h; subst h
        refine s_val 23 rfl rfl (.int .i64 ((j + 1 : Nat) : Int)) (rfl) ?_
        refine nr ?_; intro U h; simp only [z0, z1] at h; subst h
        refine wpList_nil ?_
        refine then_n ?_
        exact ⟨_, (by omega : os.length - (j + 1) < os.length - j), j + 1, ao2, cap2, (q ++ [y]), ao3, cap3, (u ++ [z2]), (fun kz => ([us1 0, .int .i64 ((j : Nat) : Int), .pointer (some ⟨g1, 0, none⟩), us1 3, us1 4, us1 5, us1 6, us1 7, us1 8, us1 9, us1 10, us1 11, .bool true, .int .i64 ((j : Nat) : Int), .pointer (some (ad.add (j * 3))), .agg (c32 oq.k oq.i ⟨oq.ao, oq.l.length, oq.cap⟩), .int .i64 ((j : Nat) : Int), .bool false, .pointer (some ⟨g1, 2, none⟩), .slice oq.ao oq.l.length oq.cap, .pointer (some ⟨g1, 2, none⟩), .slice oq.ao oq.l.length oq.cap, .int .i64 ((oq.l.length : Nat) : Int), .int .i64 ((lb.length : Nat) : Int), .slice oq.ao lb.length oq.cap, .pointer (some ⟨g1, 2, none⟩), .pointer (some ⟨g1, 0, none⟩), .int .i64 oq.k, us1 28, us1 29, us1 30, us1 31, us1 32, us1 33, us1 34, us1 35, us1 36, us1 37, us1 38, us1 39, us1 40, us1 41, us1 42, us1 43, us1 44, us1 45, us1 46, us1 47, us1 48, us1 49, us1 50, us1 51, us1 52, us1 53, us1 54, us1 55, .bool false, .bool false, us1 58, us1 59, us1 60, us1 61, us1 62, us1 63, us1 64, us1 65, us1 66, us1 67, us1 68, us1 69, us1 70, us1 71, us1 72, us1 73, us1 74, us1 75, us1 76, us1 77, us1 78, us1 79, us1 80, us1 81, .bool false, .bool false, us1 84, us1 85, us1 86, us1 87, us1 88, us1 89, us1 90, us1 91, us1 92, us1 93, us1 94, us1 95, us1 96, us1 97, us1 98, us1 99, us1 100, us1 101, us1 102, us1 103, us1 104, us1 105, us1 106, us1 107, .bool true, .bool true, .pointer (some ⟨p, 0, none⟩), .pointer (some ⟨g1, 1, none⟩), .int .i64 oq.i, .bool true, .pointer (some ⟨r, 0, none⟩), .pointer (some ⟨g1, 1, none⟩), .int .i64 oq.i, .bool true, .bool false, us1 119, us1 120, us1 121, us1 122, us1 123, us1 124, us1 125, us1 126, us1 127, us1 128, us1 129, us1 130, us1 131, .pointer (some ⟨p, 0, none⟩), .int .i64 (((q ++ [y]).length : Nat) : Int), .pointer (some ⟨r, 0, none⟩), .pointer (some ⟨r, 0, none⟩), .pointer (some ⟨r, 0, none⟩), .slice ao3 ((u ++ [z2]).length) cap3, .int .i64 (((u ++ [z2]).length : Nat) : Int), .bool false, .int .i64 ((j + 1 : Nat) : Int)] : List Value).getD kz undef), rfl, rfl, hjn, (by omega), hqu2, hdis, GG, HP, HR⟩
      refine s_val 94 rfl rfl (.bool true) (rfl) ?_
      refine nr ?_; intro U h; simp only [z0, z1] at h; subst h
      refine wpList_nil ?_
      refine then_n ?_
      refine wp_cond_true rfl ?_
      refine wp_seq ?_
      refine wp_region_lit ?_
      refine s_val 97 rfl rfl (.pointer (some ⟨p, 0, none⟩)) (rfl) ?_
      refine nr ?_; intro U h; simp only [z0, z1] at h; subst h
      refine s_val 98 rfl rfl (.pointer (some ⟨g1, 1, none⟩)) (run_fld 32 _ 1 rfl _ _ rfl _ (by kernel_rfl)) ?_
      refine nr ?_; intro U h; simp only [z0, z1] at h; subst h
      refine s_val 99 rfl rfl (.int .i64 oq.i) (run_ldc 3 _ rfl g1 1 rfl 32 _ kg1 (na3 _) _ rfl) ?_
      refine nr ?_; intro U h; simp only [z0, z1] at h; subst h
      rcases Nat.eq_zero_or_pos q.length with h0 | h0
      · refine s_callv 100 rfl rfl _ 10 Try.call10 rfl rfl _ rfl [.pointer (some ⟨p, 0, none⟩), .int .i64 oq.i] rfl (take_none _ p w.heap.size ro rc q HP oq.i h0) ?_
        intro w8 G
        replace kg1 := G.has kg1
        replace HP := HP.gro G
        replace HR := HR.gro G
        replace GG := GG.trans G
        clear G
        refine nr ?_; intro U h; simp only [z0, z1] at h; subst h
        refine s_val 96 rfl rfl (.tuple #[.slice none 0 0, .bool false]) (rfl) ?_
        refine nr ?_; intro U h; simp only [z0, z1] at h; subst h
        refine s_val 101 rfl rfl (.slice none 0 0) (rfl) ?_
        refine nr ?_; intro U h; simp only [z0, z1] at h; subst h
        refine s_val 102 rfl rfl (.bool false) (rfl) ?_
        refine nr ?_; intro U h; simp only [z0, z1] at h; subst h
        refine s_val 9 rfl rfl (.slice none 0 0) (rfl) ?_
        refine nr ?_; intro U h; simp only [z0, z1] at h; subst h
        refine s_val 10 rfl rfl (.bool false) (rfl) ?_
        refine nr ?_; intro U h; simp only [z0, z1] at h; subst h
        refine wpList_nil ?_
        refine then_n ?_
        refine wp_seq ?_
        refine wp_region_lit ?_
        refine s_val 104 rfl rfl (.pointer (some ⟨r, 0, none⟩)) (rfl) ?_
        refine nr ?_; intro U h; simp only [z0, z1] at h; subst h
        refine s_val 105 rfl rfl (.pointer (some ⟨g1, 1, none⟩)) (run_fld 32 _ 1 rfl _ _ rfl _ (by kernel_rfl)) ?_
        refine nr ?_; intro U h; simp only [z0, z1] at h; subst h
        refine s_val 106 rfl rfl (.int .i64 oq.i) (run_ldc 3 _ rfl g1 1 rfl 32 _ kg1 (na3 _) _ rfl) ?_
        refine nr ?_; intro U h; simp only [z0, z1] at h; subst h
        refine s_callv 107 rfl rfl _ 11 Try.call11 rfl rfl _ rfl [.pointer (some ⟨r, 0, none⟩), .int .i64 oq.i] rfl (rtake_none _ r w.heap.size so sc u HR oq.i (by omega)) ?_
        intro w9 G
        replace kg1 := G.has kg1
        replace HP := HP.gro G
        replace HR := HR.gro G
        replace GG := GG.trans G
        clear G
        refine nr ?_; intro U h; simp only [z0, z1] at h; subst h
        have hqu2 := hqu
        have hql2 := hql
        refine s_val 103 rfl rfl (.tuple #[.slice none 0 0, .bool false]) (rfl) ?_
        refine nr ?_; intro U h; simp only [z0, z1] at h; subst h
        refine s_val 108 rfl rfl (.slice none 0 0) (rfl) ?_
        refine nr ?_; intro U h; simp only [z0, z1] at h; subst h
        refine s_val 109 rfl rfl (.bool false) (rfl) ?_
        refine nr ?_; intro U h; simp only [z0, z1] at h; subst h
        refine s_val 11 rfl rfl (.slice none 0 0) (rfl) ?_
        refine nr ?_; intro U h; simp only [z0, z1] at h; subst h
        refine s_val 12 rfl rfl (.bool false) (rfl) ?_
        refine nr ?_; intro U h; simp only [z0, z1] at h; subst h
        refine wpList_nil ?_
        refine then_n ?_
        refine wp_seq ?_
        refine wp_region_opq ?_
        intro OPS hY
        have y3 := hY 3 113 rfl
        clear hY
        refine s_val 110 rfl rfl (.bool false) (rfl) ?_
        refine nr ?_; intro U h; simp only [z0, z1] at h; subst h
        refine s_val 111 rfl rfl (.bool false) (rfl) ?_
        refine nr ?_; intro U h; simp only [z0, z1] at h; subst h
        refine s_val 112 rfl rfl (.bool false) (run_neB 4 _ _ _ rfl false false rfl rfl Try.underlying4 false (decide_eq_true rfl) _) ?_
        refine nr ?_; intro U h; simp only [z0, z1] at h; subst h
        refine s_val 113 rfl rfl (.bool false) (rfl) ?_
        refine nr ?_; intro U h; simp only [z0, z1] at h; subst h
        refine s_gvalY 114 rfl rfl y3 rfl (.slice none 0 0) (rfl) ?_
        refine nr ?_; intro U h; simp only [z0, z1] at h; subst h
        refine s_gvalY 115 rfl rfl y3 rfl (.string (bas [])) (run_text_op bT 9 Try.underlying9 _ rfl (l := []) rfl (NC.nil _ _)) ?_
        refine nr ?_; intro U h; simp only [z0, z1] at h; subst h
        refine s_gvalY 116 rfl rfl y3 rfl (.slice none 0 0) (rfl) ?_
        refine nr ?_; intro U h; simp only [z0, z1] at h; subst h
        refine s_gvalY 117 rfl rfl y3 rfl (.string (bas [])) (run_text_op bT 9 Try.underlying9 _ rfl (l := []) rfl (NC.nil _ _)) ?_
        refine nr ?_; intro U h; simp only [z0, z1] at h; subst h
        refine s_gvalY 118 rfl rfl y3 rfl (.bool false) (run_nes_op _ _ _ rfl _ _ rfl rfl false (decide_eq_true rfl) _) ?_
        refine nr ?_; intro U h; simp only [z0, z1] at h; subst h
        refine s_val 119 rfl rfl (.bool false) (rfl) ?_
        refine nr ?_; intro U h; simp only [z0, z1] at h; subst h
        refine wpList_nil ?_
        refine then_n ?_
        refine wp_cond_false rfl ?_
        refine wp_skip ?_
        refine blk_n ?_
        refine then_n ?_
        refine wp_seq ?_
        have kr := HR.box
        refine wp_region_exA (A := ?Ax11) 7 [(0, 144), (1, 145), (2, 146), (3, 147), (4, 148), (5, 149), (6, 150)] [.val (.pointer (some ⟨p, 0, none⟩)), .val (.int .i64 ((q.length : Nat) : Int)), .val (.pointer (some ⟨r, 0, none⟩)), .val (.pointer (some ⟨r, 0, none⟩)), .val (.pointer (some ⟨r, 0, none⟩)), .val (.slice so u.length sc), .val (.int .i64 ((u.length : Nat) : Int))] follows (by kernel_rfl) rfl ?hAx11 (opsA_cons ?o0x11 (opsA_cons ?o1x11 (opsA_cons ?o2x11 (opsA_cons ?o3x11 (opsA_cons ?o4x11 (opsA_cons ?o5x11 (opsA_cons ?o6x11 opsA_nil))))))) ?restx11
        case hAx11 =>
          intro ptrs
          simp only [full, foldSlots, filledE, postE, List.foldl_cons, List.foldl_nil, List.getD_cons_zero, List.getD_cons_succ, fill_val, List.set_cons_zero, List.set_cons_succ]
          exact rfl
        case o0x11 => exact fun _ _ _ _ => opE_move (v := .pointer (some ⟨p, 0, none⟩)) _ rfl rfl rfl
        case o1x11 => exact fun _ _ hw _ => opE_call (.val (.int .i64 ((q.length : Nat) : Int))) rfl _ 17 Try.call17 rfl rfl _ rfl [.pointer (some ⟨p, 0, none⟩)] rfl ((len_any _ p w.heap.size ro rc q (HP.gro ((Gro.refl _).drew.trans hw))).mono fun e w' ⟨he, hg⟩ => ⟨_, he, hg, rfl⟩)
        case o2x11 => exact fun _ _ _ _ => opE_move (v := .pointer (some ⟨r, 0, none⟩)) _ rfl rfl rfl
        case o3x11 => exact fun _ _ hw _ => opE_value (v := .pointer (some ⟨r, 0, none⟩)) rfl (run_nc _ rfl _ rfl)
        case o4x11 => exact fun _ _ hw _ => opE_value (v := .pointer (some ⟨r, 0, none⟩)) rfl (run_fld 29 _ 0 rfl _ _ rfl _ (by kernel_rfl))
        case o5x11 => exact fun _ _ hw _ => opE_value (v := .slice so u.length sc) rfl (run_ldc 24 _ rfl r 0 rfl 29 _ (hw.has kr) (na24 _) _ rfl)
        case o6x11 => exact fun _ _ hw _ => opE_value (v := .int .i64 ((u.length : Nat) : Int)) rfl (run_len Try.underlying24 _ rfl _ _ _ rfl _)
        intro ptrs w10 GD hxE
        simp only [List.drop_succ_cons, List.drop_zero]
        replace HP := HP.gro ((Gro.refl _).drew.trans GD)
        replace HR := HR.gro ((Gro.refl _).drew.trans GD)
        replace GG := GG.drew.trans GD
        clear kr
        clear GD
        refine s_val 151 rfl rfl (.bool false) (run_neq_k 3 .i64 _ _ _ rfl Try.underlying3 ((q.length : Nat) : Int) ((u.length : Nat) : Int) rfl rfl false (decide_eq_true (by omega)) _) ?_
        refine nr ?_; intro U h; simp only [z0, z1] at h; subst h
        refine wpList_nil ?_
        refine then_n ?_
        refine wp_cond_false rfl ?_
        refine wp_skip ?_
        refine blk_n ?_
        refine then_n ?_
        refine wp_region_lit ?_
        refine s_val 152 rfl rfl (.int .i64 ((j + 1 : Nat) : Int)) (run_add64 _ _ _ rfl ((j : Nat) : Int) 1 _ rfl rfl (by omega) (by omega) (by omega) _) ?_
        refine nr ?_; intro U h; simp only [z0, z1] at h; subst h
        refine s_val 23 rfl rfl (.int .i64 ((j + 1 : Nat) : Int)) (rfl) ?_
        refine nr ?_; intro U h; simp only [z0, z1] at h; subst h
        refine wpList_nil ?_
        refine then_n ?_
        exact ⟨_, (by omega : os.length - (j + 1) < os.length - j), j + 1, ro, rc, q, so, sc, u, (fun kz => ([us1 0, .int .i64 ((j : Nat) : Int), .pointer (some ⟨g1, 0, none⟩), us1 3, us1 4, .slice none 0 0, .bool false, .slice none 0 0, .bool false, us1 9, us1 10, us1 11, .bool true, .int .i64 ((j : Nat) : Int), .pointer (some (ad.add (j * 3))), .agg (c32 oq.k oq.i ⟨oq.ao, oq.l.length, oq.cap⟩), .int .i64 ((j : Nat) : Int), .bool false, .pointer (some ⟨g1, 2, none⟩), .slice oq.ao oq.l.length oq.cap, .pointer (some ⟨g1, 2, none⟩), .slice oq.ao oq.l.length oq.cap, .int .i64 ((oq.l.length : Nat) : Int), .int .i64 ((lb.length : Nat) : Int), .slice oq.ao lb.length oq.cap, .pointer (some ⟨g1, 2, none⟩), .pointer (some ⟨g1, 0, none⟩), .int .i64 oq.k, us1 28, us1 29, us1 30, us1 31, us1 32, us1 33, us1 34, us1 35, us1 36, us1 37, us1 38, us1 39, us1 40, us1 41, us1 42, us1 43, us1 44, us1 45, us1 46, us1 47, us1 48, us1 49, us1 50, us1 51, us1 52, us1 53, us1 54, us1 55, .bool false, .bool false, us1 58, us1 59, us1 60, us1 61, us1 62, us1 63, us1 64, us1 65, us1 66, us1 67, us1 68, us1 69, us1 70, us1 71, us1 72, us1 73, us1 74, us1 75, us1 76, us1 77, us1 78, us1 79, us1 80, us1 81, .bool true, .bool true, .tuple #[.slice none 0 0, .bool false], .pointer (some ⟨p, 0, none⟩), .pointer (some ⟨g1, 1, none⟩), .int .i64 oq.i, .tuple #[.slice none 0 0, .bool false], .slice none 0 0, .bool false, .tuple #[.slice none 0 0, .bool false], .pointer (some ⟨r, 0, none⟩), .pointer (some ⟨g1, 1, none⟩), .int .i64 oq.i, .tuple #[.slice none 0 0, .bool false], .slice none 0 0, .bool false, .bool false, .bool false, .bool false, .bool false, .slice none 0 0, .string (bas []), .slice none 0 0, .string (bas []), .bool false, .bool false, us1 108, us1 109, us1 110, us1 111, us1 112, us1 113, us1 114, us1 115, us1 116, us1 117, us1 118, us1 119, us1 120, us1 121, us1 122, us1 123, us1 124, us1 125, us1 126, us1 127, us1 128, us1 129, us1 130, us1 131, .pointer (some ⟨p, 0, none⟩), .int .i64 ((q.length : Nat) : Int), .pointer (some ⟨r, 0, none⟩), .pointer (some ⟨r, 0, none⟩), .pointer (some ⟨r, 0, none⟩), .slice so u.length sc, .int .i64 ((u.length : Nat) : Int), .bool false, .int .i64 ((j + 1 : Nat) : Int)] : List Value).getD kz undef), rfl, rfl, hjn, (by omega), hqu2, hdis, GG, HP, HR⟩
      obtain ⟨k, hk⟩ : ∃ k, uN oq.i % q.length = k := ⟨_, rfl⟩
      have hkl : k < q.length := by rw [← hk]; exact Nat.mod_lt _ h0
      obtain ⟨x, hx⟩ : ∃ x, q[k]? = some x := ⟨_, List.getElem?_eq_getElem hkl⟩
      obtain ⟨z, hz⟩ : ∃ x, u[k]? = some x := ⟨_, List.getElem?_eq_getElem (by omega)⟩
      have hxz : x.l = z.l := by have h1 := map_at hqu hx; rw [List.getElem?_map, hz] at h1; simpa using h1.symm
      have hb0 := (HP.fr x (List.mem_of_getElem? hx)).nc.lt256
      refine s_callx 100 rfl rfl _ 10 Try.call10 rfl rfl _ rfl [.pointer (some ⟨p, 0, none⟩), .int .i64 oq.i] rfl (take_ok _ p w.heap.size ro rc q HP oq.i k hk x hx) (fun _ _ ⟨_, _, _, he, _⟩ => ⟨_, he⟩) ?_
      rintro v w8 ⟨gt, a6, c6, he, G, bgt, kgt, HP2, hkp⟩
      cases he
      replace kg1 := G.has kg1 (fun h => by cases List.mem_singleton.1 h; exact ne_type kg1 HP.box (by decide) rfl)
      replace hdis := dis_put HR.row hdis hkp (Nat.le_refl _)
      replace HR := HR.other1 HP (by decide) G
      replace GG := G.gro GG (by simpa using bp)
      clear G HP hkp
      have HP := HP2
      clear HP2
      rw [hxz] at kgt hb0
      simp only [hxz]
      refine nr ?_; intro U h; simp only [z0, z1] at h; subst h
      refine s_val 96 rfl rfl (.tuple #[.slice (some ⟨gt, 0, none⟩) z.l.length z.l.length, .bool true]) (rfl) ?_
      refine nr ?_; intro U h; simp only [z0, z1] at h; subst h
      refine s_val 101 rfl rfl (.slice (some ⟨gt, 0, none⟩) z.l.length z.l.length) (rfl) ?_
      refine nr ?_; intro U h; simp only [z0, z1] at h; subst h
      refine s_val 102 rfl rfl (.bool true) (rfl) ?_
      refine nr ?_; intro U h; simp only [z0, z1] at h; subst h
      refine s_val 9 rfl rfl (.slice (some ⟨gt, 0, none⟩) z.l.length z.l.length) (rfl) ?_
      refine nr ?_; intro U h; simp only [z0, z1] at h; subst h
      refine s_val 10 rfl rfl (.bool true) (rfl) ?_
      refine nr ?_; intro U h; simp only [z0, z1] at h; subst h
      refine wpList_nil ?_
      refine then_n ?_
      refine wp_seq ?_
      refine wp_region_lit ?_
      refine s_val 104 rfl rfl (.pointer (some ⟨r, 0, none⟩)) (rfl) ?_
      refine nr ?_; intro U h; simp only [z0, z1] at h; subst h
      refine s_val 105 rfl rfl (.pointer (some ⟨g1, 1, none⟩)) (run_fld 32 _ 1 rfl _ _ rfl _ (by kernel_rfl)) ?_
      refine nr ?_; intro U h; simp only [z0, z1] at h; subst h
      refine s_val 106 rfl rfl (.int .i64 oq.i) (run_ldc 3 _ rfl g1 1 rfl 32 _ kg1 (na3 _) _ rfl) ?_
      refine nr ?_; intro U h; simp only [z0, z1] at h; subst h
      refine s_callx 107 rfl rfl _ 11 Try.call11 rfl rfl _ rfl [.pointer (some ⟨r, 0, none⟩), .int .i64 oq.i] rfl (rtake_ok _ r w.heap.size so sc u HR oq.i k (by rw [← hql]; exact hk) z hz) (fun _ _ ⟨_, _, he, _⟩ => ⟨_, he⟩) ?_
      rintro v w9 ⟨a7, c7, he, G, HR2, HZ, hkz⟩
      cases he
      replace kg1 := G.has kg1 (fun h => by cases List.mem_singleton.1 h; exact ne_type kg1 HR.box (by decide) rfl)
      replace kgt := G.has kgt (fun h => by cases List.mem_singleton.1 h; exact ne_type kgt HR.box (by decide) rfl)
      replace hdis := dis_app HP.row hdis hkz (Nat.le_refl _)
      replace HP := HP.other1 HR (by decide) G
      replace GG := G.gro GG (by simpa using br)
      clear G HR hkz
      have HR := HR2
      clear HR2
      have hqu2 := map_era hqu k
      have hql2 := map_len hqu2
      refine nr ?_; intro U h; simp only [z0, z1] at h; subst h
      refine s_val 103 rfl rfl (.tuple #[.slice z.ao z.l.length z.cap, .bool true]) (rfl) ?_
      refine nr ?_; intro U h; simp only [z0, z1] at h; subst h
      refine s_val 108 rfl rfl (.slice z.ao z.l.length z.cap) (rfl) ?_
      refine nr ?_; intro U h; simp only [z0, z1] at h; subst h
      refine s_val 109 rfl rfl (.bool true) (rfl) ?_
      refine nr ?_; intro U h; simp only [z0, z1] at h; subst h
      refine s_val 11 rfl rfl (.slice z.ao z.l.length z.cap) (rfl) ?_
      refine nr ?_; intro U h; simp only [z0, z1] at h; subst h
      refine s_val 12 rfl rfl (.bool true) (rfl) ?_
      refine nr ?_; intro U h; simp only [z0, z1] at h; subst h
      refine wpList_nil ?_
      refine then_n ?_
      refine wp_seq ?_
      refine wp_region_opq ?_
      intro OPS hY
      have y3 := hY 3 113 rfl
      clear hY
      refine s_val 110 rfl rfl (.bool true) (rfl) ?_
      refine nr ?_; intro U h; simp only [z0, z1] at h; subst h
      refine s_val 111 rfl rfl (.bool true) (rfl) ?_
      refine nr ?_; intro U h; simp only [z0, z1] at h; subst h
      refine s_val 112 rfl rfl (.bool false) (run_neB 4 _ _ _ rfl true true rfl rfl Try.underlying4 false (decide_eq_true rfl) _) ?_
      refine nr ?_; intro U h; simp only [z0, z1] at h; subst h
      refine s_val 113 rfl rfl (.bool false) (rfl) ?_
      refine nr ?_; intro U h; simp only [z0, z1] at h; subst h
      refine s_gvalY 114 rfl rfl y3 rfl (.slice (some ⟨gt, 0, none⟩) z.l.length z.l.length) (rfl) ?_
      refine nr ?_; intro U h; simp only [z0, z1] at h; subst h
      refine s_gvalY 115 rfl rfl y3 rfl (.string (bas z.l)) (run_text_op bT 9 Try.underlying9 _ rfl rfl (nc_all kgt hb0)) ?_
      refine nr ?_; intro U h; simp only [z0, z1] at h; subst h
      refine s_gvalY 116 rfl rfl y3 rfl (.slice z.ao z.l.length z.cap) (rfl) ?_
      refine nr ?_; intro U h; simp only [z0, z1] at h; subst h
      refine s_gvalY 117 rfl rfl y3 rfl (.string (bas z.l)) (run_text_op bT 9 Try.underlying9 _ rfl rfl HZ.nc) ?_
      refine nr ?_; intro U h; simp only [z0, z1] at h; subst h
      refine s_gvalY 118 rfl rfl y3 rfl (.bool false) (run_nes_op _ _ _ rfl _ _ rfl rfl false (decide_eq_true rfl) _) ?_
      refine nr ?_; intro U h; simp only [z0, z1] at h; subst h
      refine s_val 119 rfl rfl (.bool false) (rfl) ?_
      refine nr ?_; intro U h; simp only [z0, z1] at h; subst h
      refine wpList_nil ?_
      refine then_n ?_
      refine wp_cond_false rfl ?_
      refine wp_skip ?_
      refine blk_n ?_
      refine then_n ?_
      refine wp_seq ?_
      have kr := HR.box
      refine wp_region_exA (A := ?Ax12) 7 [(0, 144), (1, 145), (2, 146), (3, 147), (4, 148), (5, 149), (6, 150)] [.val (.pointer (some ⟨p, 0, none⟩)), .val (.int .i64 (((q.eraseIdx k).length : Nat) : Int)), .val (.pointer (some ⟨r, 0, none⟩)), .val (.pointer (some ⟨r, 0, none⟩)), .val (.pointer (some ⟨r, 0, none⟩)), .val (.slice a7 ((u.eraseIdx k).length) c7), .val (.int .i64 (((u.eraseIdx k).length : Nat) : Int))] follows (by kernel_rfl) rfl ?hAx12 (opsA_cons ?o0x12 (opsA_cons ?o1x12 (opsA_cons ?o2x12 (opsA_cons ?o3x12 (opsA_cons ?o4x12 (opsA_cons ?o5x12 (opsA_cons ?o6x12 opsA_nil))))))) ?restx12
      case hAx12 =>
        intro ptrs
        simp only [full, foldSlots, filledE, postE, List.foldl_cons, List.foldl_nil, List.getD_cons_zero, List.getD_cons_succ, fill_val, List.set_cons_zero, List.set_cons_succ]
        exact rfl
      case o0x12 => exact fun _ _ _ _ => opE_move (v := .pointer (some ⟨p, 0, none⟩)) _ rfl rfl rfl
      case o1x12 => exact fun _ _ hw _ => opE_call (.val (.int .i64 (((q.eraseIdx k).length : Nat) : Int))) rfl _ 17 Try.call17 rfl rfl _ rfl [.pointer (some ⟨p, 0, none⟩)] rfl ((len_any _ p w.heap.size a6 c6 (q.eraseIdx k) (HP.gro ((Gro.refl _).drew.trans hw))).mono fun e w' ⟨he, hg⟩ => ⟨_, he, hg, rfl⟩)
      case o2x12 => exact fun _ _ _ _ => opE_move (v := .pointer (some ⟨r, 0, none⟩)) _ rfl rfl rfl
      case o3x12 => exact fun _ _ hw _ => opE_value (v := .pointer (some ⟨r, 0, none⟩)) rfl (run_nc _ rfl _ rfl)
      case o4x12 => exact fun _ _ hw _ => opE_value (v := .pointer (some ⟨r, 0, none⟩)) rfl (run_fld 29 _ 0 rfl _ _ rfl _ (by kernel_rfl))
      case o5x12 => exact fun _ _ hw _ => opE_value (v := .slice a7 ((u.eraseIdx k).length) c7) rfl (run_ldc 24 _ rfl r 0 rfl 29 _ (hw.has kr) (na24 _) _ rfl)
      case o6x12 => exact fun _ _ hw _ => opE_value (v := .int .i64 (((u.eraseIdx k).length : Nat) : Int)) rfl (run_len Try.underlying24 _ rfl _ _ _ rfl _)
      intro ptrs w10 GD hxE
      simp only [List.drop_succ_cons, List.drop_zero]
      replace HP := HP.gro ((Gro.refl _).drew.trans GD)
      replace HR := HR.gro ((Gro.refl _).drew.trans GD)
      replace GG := GG.drew.trans GD
      clear kr
      clear GD
      refine s_val 151 rfl rfl (.bool false) (run_neq_k 3 .i64 _ _ _ rfl Try.underlying3 (((q.eraseIdx k).length : Nat) : Int) (((u.eraseIdx k).length : Nat) : Int) rfl rfl false (decide_eq_true (by omega)) _) ?_
      refine nr ?_; intro U h; simp only [z0, z1] at h; subst h
      refine wpList_nil ?_
      refine then_n ?_
      refine wp_cond_false rfl ?_
      refine wp_skip ?_
      refine blk_n ?_
      refine then_n ?_
      refine wp_region_lit ?_
      refine s_val 152 rfl rfl (.int .i64 ((j + 1 : Nat) : Int)) (run_add64 _ _ _ rfl ((j : Nat) : Int) 1 _ rfl rfl (by omega) (by omega) (by omega) _) ?_
      refine nr ?_; intro U h; simp only [z0, z1] at h; subst h
      refine s_val 23 rfl rfl (.int .i64 ((j + 1 : Nat) : Int)) (rfl) ?_
      refine nr ?_; intro U h; simp only [z0, z1] at h; subst h
      refine wpList_nil ?_
      refine then_n ?_
      exact ⟨_, (by omega : os.length - (j + 1) < os.length - j), j + 1, a6, c6, (q.eraseIdx k), a7, c7, (u.eraseIdx k), (fun kz => ([us1 0, .int .i64 ((j : Nat) : Int), .pointer (some ⟨g1, 0, none⟩), us1 3, us1 4, .slice (some ⟨gt, 0, none⟩) z.l.length z.l.length, .bool true, .slice z.ao z.l.length z.cap, .bool true, us1 9, us1 10, us1 11, .bool true, .int .i64 ((j : Nat) : Int), .pointer (some (ad.add (j * 3))), .agg (c32 oq.k oq.i ⟨oq.ao, oq.l.length, oq.cap⟩), .int .i64 ((j : Nat) : Int), .bool false, .pointer (some ⟨g1, 2, none⟩), .slice oq.ao oq.l.length oq.cap, .pointer (some ⟨g1, 2, none⟩), .slice oq.ao oq.l.length oq.cap, .int .i64 ((oq.l.length : Nat) : Int), .int .i64 ((lb.length : Nat) : Int), .slice oq.ao lb.length oq.cap, .pointer (some ⟨g1, 2, none⟩), .pointer (some ⟨g1, 0, none⟩), .int .i64 oq.k, us1 28, us1 29, us1 30, us1 31, us1 32, us1 33, us1 34, us1 35, us1 36, us1 37, us1 38, us1 39, us1 40, us1 41, us1 42, us1 43, us1 44, us1 45, us1 46, us1 47, us1 48, us1 49, us1 50, us1 51, us1 52, us1 53, us1 54, us1 55, .bool false, .bool false, us1 58, us1 59, us1 60, us1 61, us1 62, us1 63, us1 64, us1 65, us1 66, us1 67, us1 68, us1 69, us1 70, us1 71, us1 72, us1 73, us1 74, us1 75, us1 76, us1 77, us1 78, us1 79, us1 80, us1 81, .bool true, .bool true, .tuple #[.slice (some ⟨gt, 0, none⟩) z.l.length z.l.length, .bool true], .pointer (some ⟨p, 0, none⟩), .pointer (some ⟨g1, 1, none⟩), .int .i64 oq.i, .tuple #[.slice (some ⟨gt, 0, none⟩) z.l.length z.l.length, .bool true], .slice (some ⟨gt, 0, none⟩) z.l.length z.l.length, .bool true, .tuple #[.slice z.ao z.l.length z.cap, .bool true], .pointer (some ⟨r, 0, none⟩), .pointer (some ⟨g1, 1, none⟩), .int .i64 oq.i, .tuple #[.slice z.ao z.l.length z.cap, .bool true], .slice z.ao z.l.length z.cap, .bool true, .bool true, .bool true, .bool false, .bool false, .slice (some ⟨gt, 0, none⟩) z.l.length z.l.length, .string (bas z.l), .slice z.ao z.l.length z.cap, .string (bas z.l), .bool false, .bool false, us1 108, us1 109, us1 110, us1 111, us1 112, us1 113, us1 114, us1 115, us1 116, us1 117, us1 118, us1 119, us1 120, us1 121, us1 122, us1 123, us1 124, us1 125, us1 126, us1 127, us1 128, us1 129, us1 130, us1 131, .pointer (some ⟨p, 0, none⟩), .int .i64 (((q.eraseIdx k).length : Nat) : Int), .pointer (some ⟨r, 0, none⟩), .pointer (some ⟨r, 0, none⟩), .pointer (some ⟨r, 0, none⟩), .slice a7 ((u.eraseIdx k).length) c7, .int .i64 (((u.eraseIdx k).length : Nat) : Int), .bool false, .int .i64 ((j + 1 : Nat) : Int)] : List Value).getD kz undef), rfl, rfl, hjn, (by omega), hqu2, hdis, GG, HP, HR⟩
    refine s_val 68 rfl rfl (.bool true) (rfl) ?_
    refine nr ?_; intro U h; simp only [z0, z1] at h; subst h
    refine wpList_nil ?_
    refine then_n ?_
    refine wp_cond_true rfl ?_
    refine wp_seq ?_
    refine wp_region_lit ?_
    have hM0 := HP.old (Nat.le_refl _)
    have hM1 := HR.old (Nat.le_refl _)
    refine s_bsl 70 rfl rfl 30 0 _ rfl [] rfl #[] 5 (by kernel_rfl) ?_
    intro w8 gb G1 egb kgb
    rw [egb] at hM0 hM1
    refine nr ?_; intro U h; simp only [z0, z1] at h; subst h
    refine s_val 71 rfl rfl (.pointer (some ⟨g1, 2, none⟩)) (run_fld 32 _ 2 rfl _ _ rfl _ (by kernel_rfl)) ?_
    refine nr ?_; intro U h; simp only [z0, z1] at h; subst h
    refine s_val 72 rfl rfl (.slice oq.ao lb.length oq.cap) (run_ldc 30 _ rfl g1 2 rfl 32 _ (G1.has kg1) (na30 _) _ rfl) ?_
    refine nr ?_; intro U h; simp only [z0, z1] at h; subst h
    have HO1 : OB _ 5 .u8 gb (some ⟨gb, 0, none⟩) 0 [] := OB.made kgb (Nat.le_refl _) (Nat.le_refl _) (Nat.zero_le _) rfl rfl (fun x hx => by cases hx)
    refine s_app bT 73 rfl rfl _ _ rfl rfl HO1 (l' := lb) rfl (ncl.gro (GG.trans G1)) (by simp only [List.length_nil]; omega) (by decide) (Nat.le_of_lt (lt_of_heap kgb)) ?_
    intro ao4 cap4 w9 HO2 BB
    rw [List.nil_append] at HO2
    simp only [List.nil_append]
    have G := below_gro G1 BB (Nat.le_of_eq egb)
    have bgb := size_base GG egb
    have HW := HO2.mono bgb
    have hW4 : ∀ ad, ao4 = some ad → gb ≤ ad.block := fun ad ha => (HO2.ge ad ha).1
    clear HO1 HO2 BB G1 egb kgb
    replace kg1 := G.has kg1
    replace HP := HP.gro G
    replace HR := HR.gro G
    replace GG := GG.trans G
    clear G
    refine nr ?_; intro U h; simp only [z0, z1] at h; subst h
    refine s_val 7 rfl rfl (.slice ao4 lb.length cap4) (rfl) ?_
    refine nr ?_; intro U h; simp only [z0, z1] at h; subst h
    refine wpList_nil ?_
    refine then_n ?_
    refine wp_seq ?_
    refine wp_seq ?_
    rcases Nat.lt_or_ge q.length 256 with h256 | h256
    · have hdis0 := hdis
      obtain ⟨M, hM⟩ : ∃ M, w9.heap.size = M := ⟨_, rfl⟩
      have hWM : ∀ ad, ao4 = some ad → ad.block < M := fun ad ha => by have := (HW.ge ad ha).2; omega
      refine wp_region_pg (A := ?Ag13) (p :: blk ro) 6 [(0, 74), (1, 75), (2, 76), (3, 77), (4, 78), (5, 79)] [.val (.pointer (some ⟨p, 0, none⟩)), .val (.slice ao4 lb.length cap4), puE M p w.heap.size ro q lb, .val (.pointer (some ⟨r, 0, none⟩)), .val (.pointer (some ⟨g1, 2, none⟩)), .val (.slice oq.ao lb.length oq.cap)] 2 follows (by kernel_rfl) rfl (by decide) (fun j hj hne v a b _ hb hp => match j, hj, hne, hp with | 0, _, _, hp => hp | 1, _, _, hp => hp | 2, _, hne, _ => absurd rfl hne | 3, _, _, hp => hp | 4, _, _, hp => hp | 5, _, _, hp => hp | m + 6, hj, _, _ => absurd hj (by omega)) ?hAg13 (opsG_a (by decide) ?o0g13 (opsG_a (by decide) ?o1g13 (opsG_e ?o2g13 (opsG_a (by decide) ?o3g13 (opsG_a (by decide) ?o4g13 (opsG_a (by decide) ?o5g13 opsG_nil)))))) ?restg13
      case hAg13 =>
        intro ptrs
        simp only [full, foldSlots, filledE, postE, List.foldl_cons, List.foldl_nil, List.getD_cons_zero, List.getD_cons_succ, fill_val, fill_pu,  List.set_cons_zero, List.set_cons_succ]
        exact rfl
      case o0g13 => exact fun _ _ _ _ => opE_move (v := .pointer (some ⟨p, 0, none⟩)) _ rfl rfl rfl
      case o1g13 => exact fun _ _ _ _ => opE_move (v := .slice ao4 lb.length cap4) _ rfl rfl rfl
      case o2g13 =>
        intro ptrs x hw hE
        have G := (Gro.refl _).drew.trans hw
        exact opX_call (puE M p w.heap.size ro q lb) rfl _ 8 Try.call8 rfl rfl _ rfl [.pointer (some ⟨p, 0, none⟩), .slice ao4 lb.length cap4] rfl ((put_ok _ p w.heap.size ro rc q (HP.gro G) h256 ao4 cap4 lb (HW.gro G).nc (fun ad ha _ hm => HP.ob HW ad ha (List.mem_cons_of_mem _ hm)) (by omega)).mono fun e w' ⟨a, c, y, he, hy, G2, HP2, HY, hk⟩ => ⟨_, he, G2, rfl, a, c, y, hy, HP2, HY.mono (by rw [← hM]; exact G.size), hk.mono (by rw [← hM]; exact G.size)⟩)
      case o3g13 => exact fun _ _ _ _ => opE_move (v := .pointer (some ⟨r, 0, none⟩)) _ rfl rfl rfl
      case o4g13 => exact fun _ _ hw _ => opE_value (v := .pointer (some ⟨g1, 2, none⟩)) rfl (run_fld 32 _ 2 rfl _ _ rfl _ (by kernel_rfl))
      case o5g13 => exact fun _ _ hw _ => opE_value (v := .slice oq.ao lb.length oq.cap) rfl (run_ldc 30 _ rfl g1 2 rfl 32 _ (hw.has kg1 (HP.notT kg1 (by decide) (by decide))) (na30 _) _ rfl)
      intro ptrs w10 GS hxE
      simp only [List.drop_succ_cons, List.drop_zero]
      obtain ⟨⟨hv, ao2, cap2, y, hyl, HP2, HY, hkp⟩, _⟩ := hxE
      simp only [hv]
      replace GS := (GroS.refl _ _).drew.trans GS
      replace kg1 := GS.has kg1 (HP.notT kg1 (by decide) (by decide))
      replace hdis := dis_put HR.row hdis hkp (Nat.le_of_eq hM)
      replace HR := HR.other HP (by decide) GS hdis0
      replace HW := HW.gros GS (HP.ob HW)
      replace GG := GS.gro GG HP.sb
      clear GS HP hkp hv hdis0
      have HP := HP2
      clear HP2
      have hF2 : ∀ x ∈ q ++ [y], ∀ a, x.ao = some a → ∀ ad, ao4 = some ad → a.block ≠ ad.block := fun x hx a ha ad h4 => by
        have h5 := hW4 ad h4
        rcases List.mem_append.1 hx with hx | hx
        · have := hM0 x hx a ha; omega
        · cases List.mem_singleton.1 hx; have h6 := (HY.ge a ha).1; have h7 := hWM ad h4; omega
      clear HY
      have hdis0 := hdis
      have hWN : ∀ ad, ao4 = some ad → ad.block < w10.heap.size := fun ad ha => (HW.ge ad ha).2
      refine s_callx 80 rfl rfl _ 9 Try.call9 rfl rfl _ rfl [.pointer (some ⟨r, 0, none⟩), .slice oq.ao lb.length oq.cap] rfl (rput_ok _ r w.heap.size so sc u HR (by omega) oq.ao oq.cap lb (ncl.gro GG) (fun ad ha h0 hm => by have h1 := ncl.lt ad ha h0; have h2 := HR.row.base _ hm; omega) (by omega)) (fun _ _ ⟨_, _, _, he, _⟩ => ⟨_, he⟩) ?_
      rintro v w11 ⟨ao3, cap3, z, he, hzl, G, HR2, HZ, hkz⟩
      cases he
      replace kg1 := G.has kg1 (HR.notT kg1 (by decide) (by decide))
      replace hdis := dis_app HP.row hdis hkz (Nat.le_refl _)
      replace HP := HP.other HR (by decide) G (dis_sym hdis0)
      replace HW := HW.gros G (HR.ob HW)
      replace GG := G.gro GG HR.sb
      clear G HR hkz hdis0
      have HR := HR2
      clear HR2
      have hF3 : ∀ x ∈ u ++ [z], ∀ a, x.ao = some a → ∀ ad, ao4 = some ad → a.block ≠ ad.block := fun x hx a ha ad h4 => by
        have h5 := hW4 ad h4
        rcases List.mem_append.1 hx with hx | hx
        · have := hM1 x hx a ha; omega
        · cases List.mem_singleton.1 hx; have h6 := (HZ.ge a ha).1; have h7 := hWN ad h4; omega
      clear HZ
      have hqu2 := map_app hqu (hyl.trans hzl.symm)
      have hql2 := map_len hqu2
      refine nr ?_; intro U h; simp only [z0, z1] at h; subst h
      refine s_val 81 rfl rfl (.bool false) (run_neB 4 _ _ _ rfl true true rfl rfl Try.underlying4 false (decide_eq_true rfl) _) ?_
      refine nr ?_; intro U h; simp only [z0, z1] at h; subst h
      refine wpList_nil ?_
      refine then_n ?_
      refine wp_cond_false rfl ?_
      refine wp_skip ?_
      refine then_n ?_
      refine wp_seq ?_
      refine wp_region_lit ?_
      refine s_val 82 rfl rfl (.slice ao4 lb.length cap4) (rfl) ?_
      refine nr ?_; intro U h; simp only [z0, z1] at h; subst h
      refine s_val 83 rfl rfl (.int .i64 ((lb.length : Nat) : Int)) (run_len Try.underlying30 _ rfl _ _ _ rfl _) ?_
      refine nr ?_; intro U h; simp only [z0, z1] at h; subst h
      refine s_val 84 rfl rfl (.int .i64 0) (rfl) ?_
      refine nr ?_; intro U h; simp only [z0, z1] at h; subst h
      refine wpList_nil ?_
      refine then_n ?_
      refine wp_block ?_
      have hL0 : lb.length = lb.length := rfl
      refine wp_loopN (fun mz az wv => ∃ (k : Nat) (l1 : List Nat) (us2 : Nat → Value), mz = lb.length - k ∧ az = ⟨[.slice ao os.length cap, undef, us1 0, .pointer (some ⟨p, 0, none⟩), .pointer (some ⟨r, 0, none⟩), .int .i64 ((j : Nat) : Int), .pointer (some ⟨g1, 0, none⟩), .slice ao4 lb.length cap4, us2 0, us1 5, us1 6, us1 7, us1 8, us1 9, undef, us1 10, us1 11, .agg (c26 Sl.nil), .pointer (some ⟨p, 0, none⟩), .agg (c29 Sl.nil), .pointer (some ⟨r, 0, none⟩), .slice ao os.length cap, .int .i64 ((os.length : Nat) : Int), .int .i64 ((j : Nat) : Int), .bool true, .int .i64 ((j : Nat) : Int), .pointer (some (ad.add (j * 3))), .agg (c32 oq.k oq.i ⟨oq.ao, oq.l.length, oq.cap⟩), .int .i64 ((j : Nat) : Int), .bool false, .pointer (some ⟨g1, 2, none⟩), .slice oq.ao oq.l.length oq.cap, .pointer (some ⟨g1, 2, none⟩), .slice oq.ao oq.l.length oq.cap, .int .i64 ((oq.l.length : Nat) : Int), .int .i64 ((lb.length : Nat) : Int), .slice oq.ao lb.length oq.cap, .pointer (some ⟨g1, 2, none⟩), .pointer (some ⟨g1, 0, none⟩), .int .i64 oq.k, us1 28, us1 29, us1 30, us1 31, us1 32, us1 33, us1 34, us1 35, us1 36, us1 37, us1 38, us1 39, us1 40, us1 41, us1 42, us1 43, us1 44, us1 45, us1 46, us1 47, us1 48, us1 49, us1 50, us1 51, us1 52, us1 53, us1 54, us1 55, .bool true, .bool true, .slice (some ⟨gb, 0, none⟩) (([] : List Nat).length) 0, .pointer (some ⟨g1, 2, none⟩), .slice oq.ao lb.length oq.cap, .slice ao4 lb.length cap4, .pointer (some ⟨p, 0, none⟩), .slice ao4 lb.length cap4, .bool true, .pointer (some ⟨r, 0, none⟩), .pointer (some ⟨g1, 2, none⟩), .slice oq.ao lb.length oq.cap, .bool true, .bool false, .slice ao4 lb.length cap4, .int .i64 ((lb.length : Nat) : Int), .int .i64 ((k : Nat) : Int), us2 1, us2 2, us2 3, us2 4, us2 5, us2 6, us2 7, us2 8, us2 9, us1 82, us1 83, us1 84, us1 85, us1 86, us1 87, us1 88, us1 89, us1 90, us1 91, us1 92, us1 93, us1 94, us1 95, us1 96, us1 97, us1 98, us1 99, us1 100, us1 101, us1 102, us1 103, us1 104, us1 105, us1 106, us1 107, us1 108, us1 109, us1 110, us1 111, us1 112, us1 113, us1 114, us1 115, us1 116, us1 117, us1 118, us1 119, us1 120, us1 121, us1 122, us1 123, us1 124, us1 125, us1 126, us1 127, us1 128, us1 129, us1 130, us1 131, us1 132, us1 133, us1 134, us1 135, us1 136, us1 137, us1 138, us1 139, us1 140, undef, undef, undef, undef, undef, undef, undef, undef, undef, undef].toArray, []⟩ ∧ k ≤ lb.length ∧ l1.length = lb.length ∧ Gro w wv ∧ OB wv 5 .u8 w.heap.size ao4 cap4 l1 ∧ PK 26 wv p w.heap.size ao2 cap2 (q ++ [y]) ∧ PK 29 wv r w.heap.size ao3 cap3 (u ++ [z])) ?_ _ ⟨0, lb, (fun kz => ([us1 4, us1 73, us1 74, us1 75, us1 76, us1 77, us1 78, us1 79, us1 80, us1 81] : List Value).getD kz undef), rfl, rfl, Nat.zero_le _, rfl, GG, HW, HP, HR⟩
      clear GG HP HR HW
      rintro mz az wv ⟨k, l1, us2, rfl, rfl, hk, hl1, GG, HW, HP, HR⟩
      refine wp_seq ?_
      refine wp_region_lit ?_
      obtain ⟨p4, hp4⟩ : ∃ p, decide (((k : Nat) : Int) < ((lb.length : Nat) : Int)) = p := ⟨_, rfl⟩
      refine s_val 85 rfl rfl (.bool p4) (run_lssT 3 _ _ _ rfl ((k : Nat) : Int) ((lb.length : Nat) : Int) rfl rfl p4 hp4 _) ?_
      refine nr ?_; intro U h; simp only [z0, z1] at h; subst h
      cases p4
      · refine wpList_nil ?_
        refine then_n ?_
        refine wp_seq ?_
        refine wp_cond_false rfl ?_
        refine wp_exit ?_
        refine then_x ?_
        refine then_x ?_
        refine blk_x ?_
        refine blk_n ?_
        refine then_n ?_
        refine wp_seq ?_
        have kr := HR.box
        refine wp_region_exA (A := ?Ax14) 7 [(0, 144), (1, 145), (2, 146), (3, 147), (4, 148), (5, 149), (6, 150)] [.val (.pointer (some ⟨p, 0, none⟩)), .val (.int .i64 (((q ++ [y]).length : Nat) : Int)), .val (.pointer (some ⟨r, 0, none⟩)), .val (.pointer (some ⟨r, 0, none⟩)), .val (.pointer (some ⟨r, 0, none⟩)), .val (.slice ao3 ((u ++ [z]).length) cap3), .val (.int .i64 (((u ++ [z]).length : Nat) : Int))] follows (by kernel_rfl) rfl ?hAx14 (opsA_cons ?o0x14 (opsA_cons ?o1x14 (opsA_cons ?o2x14 (opsA_cons ?o3x14 (opsA_cons ?o4x14 (opsA_cons ?o5x14 (opsA_cons ?o6x14 opsA_nil))))))) ?restx14
        case hAx14 =>
          intro ptrs
          simp only [full, foldSlots, filledE, postE, List.foldl_cons, List.foldl_nil, List.getD_cons_zero, List.getD_cons_succ, fill_val, List.set_cons_zero, List.set_cons_succ]
          exact rfl
        case o0x14 => exact fun _ _ _ _ => opE_move (v := .pointer (some ⟨p, 0, none⟩)) _ rfl rfl rfl
        case o1x14 => exact fun _ _ hw _ => opE_call (.val (.int .i64 (((q ++ [y]).length : Nat) : Int))) rfl _ 17 Try.call17 rfl rfl _ rfl [.pointer (some ⟨p, 0, none⟩)] rfl ((len_any _ p w.heap.size ao2 cap2 (q ++ [y]) (HP.gro ((Gro.refl _).drew.trans hw))).mono fun e w' ⟨he, hg⟩ => ⟨_, he, hg, rfl⟩)
        case o2x14 => exact fun _ _ _ _ => opE_move (v := .pointer (some ⟨r, 0, none⟩)) _ rfl rfl rfl
        case o3x14 => exact fun _ _ hw _ => opE_value (v := .pointer (some ⟨r, 0, none⟩)) rfl (run_nc _ rfl _ rfl)
        case o4x14 => exact fun _ _ hw _ => opE_value (v := .pointer (some ⟨r, 0, none⟩)) rfl (run_fld 29 _ 0 rfl _ _ rfl _ (by kernel_rfl))
        case o5x14 => exact fun _ _ hw _ => opE_value (v := .slice ao3 ((u ++ [z]).length) cap3) rfl (run_ldc 24 _ rfl r 0 rfl 29 _ (hw.has kr) (na24 _) _ rfl)
        case o6x14 => exact fun _ _ hw _ => opE_value (v := .int .i64 (((u ++ [z]).length : Nat) : Int)) rfl (run_len Try.underlying24 _ rfl _ _ _ rfl _)
        intro ptrs w12 GD hxE
        simp only [List.drop_succ_cons, List.drop_zero]
        replace HP := HP.gro ((Gro.refl _).drew.trans GD)
        replace HR := HR.gro ((Gro.refl _).drew.trans GD)
        replace GG := GG.drew.trans GD
        clear kr
        clear GD
        refine s_val 151 rfl rfl (.bool false) (run_neq_k 3 .i64 _ _ _ rfl Try.underlying3 (((q ++ [y]).length : Nat) : Int) (((u ++ [z]).length : Nat) : Int) rfl rfl false (decide_eq_true (by omega)) _) ?_
        refine nr ?_; intro U h; simp only [z0, z1] at h; subst h
        refine wpList_nil ?_
        refine then_n ?_
        refine wp_cond_false rfl ?_
        refine wp_skip ?_
        refine blk_n ?_
        refine then_n ?_
        refine wp_region_lit ?_
        refine s_val 152 rfl rfl (.int .i64 ((j + 1 : Nat) : Int)) (run_add64 _ _ _ rfl ((j : Nat) : Int) 1 _ rfl rfl (by omega) (by omega) (by omega) _) ?_
        refine nr ?_; intro U h; simp only [z0, z1] at h; subst h
        refine s_val 23 rfl rfl (.int .i64 ((j + 1 : Nat) : Int)) (rfl) ?_
        refine nr ?_; intro U h; simp only [z0, z1] at h; subst h
        refine wpList_nil ?_
        refine then_n ?_
        exact ⟨_, (by omega : os.length - (j + 1) < os.length - j), j + 1, ao2, cap2, (q ++ [y]), ao3, cap3, (u ++ [z]), (fun kz => ([us1 0, .int .i64 ((j : Nat) : Int), .pointer (some ⟨g1, 0, none⟩), .slice ao4 lb.length cap4, us2 0, us1 5, us1 6, us1 7, us1 8, us1 9, us1 10, us1 11, .bool true, .int .i64 ((j : Nat) : Int), .pointer (some (ad.add (j * 3))), .agg (c32 oq.k oq.i ⟨oq.ao, oq.l.length, oq.cap⟩), .int .i64 ((j : Nat) : Int), .bool false, .pointer (some ⟨g1, 2, none⟩), .slice oq.ao oq.l.length oq.cap, .pointer (some ⟨g1, 2, none⟩), .slice oq.ao oq.l.length oq.cap, .int .i64 ((oq.l.length : Nat) : Int), .int .i64 ((lb.length : Nat) : Int), .slice oq.ao lb.length oq.cap, .pointer (some ⟨g1, 2, none⟩), .pointer (some ⟨g1, 0, none⟩), .int .i64 oq.k, us1 28, us1 29, us1 30, us1 31, us1 32, us1 33, us1 34, us1 35, us1 36, us1 37, us1 38, us1 39, us1 40, us1 41, us1 42, us1 43, us1 44, us1 45, us1 46, us1 47, us1 48, us1 49, us1 50, us1 51, us1 52, us1 53, us1 54, us1 55, .bool true, .bool true, .slice (some ⟨gb, 0, none⟩) (([] : List Nat).length) 0, .pointer (some ⟨g1, 2, none⟩), .slice oq.ao lb.length oq.cap, .slice ao4 lb.length cap4, .pointer (some ⟨p, 0, none⟩), .slice ao4 lb.length cap4, .bool true, .pointer (some ⟨r, 0, none⟩), .pointer (some ⟨g1, 2, none⟩), .slice oq.ao lb.length oq.cap, .bool true, .bool false, .slice ao4 lb.length cap4, .int .i64 ((lb.length : Nat) : Int), .int .i64 ((k : Nat) : Int), .bool false, us2 2, us2 3, us2 4, us2 5, us2 6, us2 7, us2 8, us2 9, us1 82, us1 83, us1 84, us1 85, us1 86, us1 87, us1 88, us1 89, us1 90, us1 91, us1 92, us1 93, us1 94, us1 95, us1 96, us1 97, us1 98, us1 99, us1 100, us1 101, us1 102, us1 103, us1 104, us1 105, us1 106, us1 107, us1 108, us1 109, us1 110, us1 111, us1 112, us1 113, us1 114, us1 115, us1 116, us1 117, us1 118, us1 119, us1 120, us1 121, us1 122, us1 123, us1 124, us1 125, us1 126, us1 127, us1 128, us1 129, us1 130, us1 131, .pointer (some ⟨p, 0, none⟩), .int .i64 (((q ++ [y]).length : Nat) : Int), .pointer (some ⟨r, 0, none⟩), .pointer (some ⟨r, 0, none⟩), .pointer (some ⟨r, 0, none⟩), .slice ao3 ((u ++ [z]).length) cap3, .int .i64 (((u ++ [z]).length : Nat) : Int), .bool false, .int .i64 ((j + 1 : Nat) : Int)] : List Value).getD kz undef), rfl, rfl, hjn, (by omega), hqu2, hdis, GG, HP, HR⟩
      have hkn : k < lb.length := by have := of_decide_eq_true hp4; omega
      obtain ⟨gi, curi, hgi, hBi, kgi, hci, hmi, hsi, hti⟩ := HW.blk (j := k) (by omega)
      refine wpList_nil ?_
      refine then_n ?_
      refine wp_seq ?_
      refine wp_cond_true rfl ?_
      refine wp_skip ?_
      refine then_n ?_
      refine wp_seq ?_
      refine wp_block ?_
      refine wp_seq ?_
      refine wp_region_lit ?_
      refine s_val 86 rfl rfl (.int .i64 ((k : Nat) : Int)) (rfl) ?_
      refine nr ?_; intro U h; simp only [z0, z1] at h; subst h
      refine s_val 8 rfl rfl (.int .i64 ((k : Nat) : Int)) (rfl) ?_
      refine nr ?_; intro U h; simp only [z0, z1] at h; subst h
      refine wpList_nil ?_
      refine then_n ?_
      refine wp_region_lit ?_
      refine s_val 87 rfl rfl (.slice ao4 lb.length cap4) (rfl) ?_
      refine nr ?_; intro U h; simp only [z0, z1] at h; subst h
      refine s_val 88 rfl rfl (.int .i64 ((k : Nat) : Int)) (rfl) ?_
      refine nr ?_; intro U h; simp only [z0, z1] at h; subst h
      refine s_val 89 rfl rfl (.pointer (some ⟨gi, k, none⟩)) (bat _ _ rfl gi lb.length cap4 k (by exact congrArg (fun a => Value.slice a lb.length cap4) hgi) rfl hkn _) ?_
      refine nr ?_; intro U h; simp only [z0, z1] at h; subst h
      refine s_val 90 rfl rfl (.int .u8 ((l1.getD k 0 : Nat) : Int)) (run_ld bT _ rfl ⟨gi, k, none⟩ rfl _ _ (HW.cellv hgi (by omega))) ?_
      refine nr ?_; intro U h; simp only [z0, z1] at h; subst h
      refine s_val 91 rfl rfl (.int .u8 ((inc8 (l1.getD k 0) : Nat) : Int)) (run_inc8 _ _ _ rfl (l1.getD k 0) rfl rfl _) ?_
      refine nr ?_; intro U h; simp only [z0, z1] at h; subst h
      refine s_val 92 rfl rfl (.pointer (some ⟨gi, k, none⟩)) (bat _ _ rfl gi lb.length cap4 k (by exact congrArg (fun a => Value.slice a lb.length cap4) hgi) rfl hkn _) ?_
      refine nr ?_; intro U h; simp only [z0, z1] at h; subst h
      refine s_store rfl rfl 5 _ _ rfl gi k rfl (.int .u8 ((inc8 (l1.getD k 0) : Nat) : Int)) rfl 5 _ kgi #[.int .u8 ((inc8 (l1.getD k 0) : Nat) : Int)] rfl si5 (by simp only [List.size_toArray, List.length_cons, List.length_nil]; omega) (one1 _) _ rfl ?_
      intro w12 St
      replace HP := HP.st5 kgi St (fun x hx a ha => hF2 x hx a ha _ hgi)
      replace HR := HR.st5 kgi St (fun x hx a ha => hF3 x hx a ha _ hgi)
      replace GG := GG.store St hBi
      replace HW := HW.put hgi kgi (by omega) (inc8 (l1.getD k 0)) (inc8_le _) St
      clear St kgi
      refine wpList_nil ?_
      refine blk_n ?_
      refine then_n ?_
      refine wp_region_lit ?_
      refine s_val 93 rfl rfl (.int .i64 ((k + 1 : Nat) : Int)) (run_add64 _ _ _ rfl ((k : Nat) : Int) 1 _ rfl rfl (by omega) (by omega) (by omega) _) ?_
      refine nr ?_; intro U h; simp only [z0, z1] at h; subst h
      refine s_val 84 rfl rfl (.int .i64 ((k + 1 : Nat) : Int)) (rfl) ?_
      refine nr ?_; intro U h; simp only [z0, z1] at h; subst h
      refine wpList_nil ?_
      refine then_n ?_
      exact ⟨_, (by omega : lb.length - (k + 1) < lb.length - k), k + 1, l1.set k (inc8 (l1.getD k 0)), (fun kz => ([.int .i64 ((k : Nat) : Int), .bool true, .int .i64 ((k : Nat) : Int), .slice ao4 lb.length cap4, .int .i64 ((k : Nat) : Int), .pointer (some ⟨gi, k, none⟩), .int .u8 ((l1.getD k 0 : Nat) : Int), .int .u8 ((inc8 (l1.getD k 0) : Nat) : Int), .pointer (some ⟨gi, k, none⟩), .int .i64 ((k + 1 : Nat) : Int)] : List Value).getD kz undef), rfl, rfl, hkn, (by rw [List.length_set]; exact hl1), GG, HW, HP, HR⟩
    have hdis0 := hdis
    clear hdis0
    refine wp_region_pg (A := ?Ag15) ([] : List Nat) 6 [(0, 74), (1, 75), (2, 76), (3, 77), (4, 78), (5, 79)] [.val (.pointer (some ⟨p, 0, none⟩)), .val (.slice ao4 lb.length cap4), .val (.bool false), .val (.pointer (some ⟨r, 0, none⟩)), .val (.pointer (some ⟨g1, 2, none⟩)), .val (.slice oq.ao lb.length oq.cap)] 2 follows (by kernel_rfl) rfl (by decide) (fun j hj hne v a b _ hb hp => match j, hj, hne, hp with | 0, _, _, hp => hp | 1, _, _, hp => hp | 2, _, hne, _ => absurd rfl hne | 3, _, _, hp => hp | 4, _, _, hp => hp | 5, _, _, hp => hp | m + 6, hj, _, _ => absurd hj (by omega)) ?hAg15 (opsG_a (by decide) ?o0g15 (opsG_a (by decide) ?o1g15 (opsG_e ?o2g15 (opsG_a (by decide) ?o3g15 (opsG_a (by decide) ?o4g15 (opsG_a (by decide) ?o5g15 opsG_nil)))))) ?restg15
    case hAg15 =>
      intro ptrs
      simp only [full, foldSlots, filledE, postE, List.foldl_cons, List.foldl_nil, List.getD_cons_zero, List.getD_cons_succ, fill_val,  List.set_cons_zero, List.set_cons_succ]
      exact rfl
    case o0g15 => exact fun _ _ _ _ => opE_move (v := .pointer (some ⟨p, 0, none⟩)) _ rfl rfl rfl
    case o1g15 => exact fun _ _ _ _ => opE_move (v := .slice ao4 lb.length cap4) _ rfl rfl rfl
    case o2g15 =>
      intro ptrs x hw hE
      have G := (Gro.refl _).drew.trans hw
      exact opX_call (.val (.bool false)) rfl _ 8 Try.call8 rfl rfl _ rfl [.pointer (some ⟨p, 0, none⟩), .slice ao4 lb.length cap4] rfl ((put_full _ p w.heap.size ro rc q (HP.gro G) h256 ao4 cap4 lb).mono fun e w' ⟨he, G2⟩ => ⟨_, he, .of G2, rfl⟩)
    case o3g15 => exact fun _ _ _ _ => opE_move (v := .pointer (some ⟨r, 0, none⟩)) _ rfl rfl rfl
    case o4g15 => exact fun _ _ hw _ => opE_value (v := .pointer (some ⟨g1, 2, none⟩)) rfl (run_fld 32 _ 2 rfl _ _ rfl _ (by kernel_rfl))
    case o5g15 => exact fun _ _ hw _ => opE_value (v := .slice oq.ao lb.length oq.cap) rfl (run_ldc 30 _ rfl g1 2 rfl 32 _ (hw.has kg1 (by simp)) (na30 _) _ rfl)
    intro ptrs w10 GS hxE
    simp only [List.drop_succ_cons, List.drop_zero]
    clear hxE
    replace GS := (GroS.refl _ _).drew.trans GS
    have G0 : Gro _ _ := ⟨GS.os, GS.tape, GS.output, GS.size, fun k hk => GS.old k hk (by simp)⟩
    clear GS
    replace kg1 := G0.has kg1
    replace HP := HP.gro G0
    replace HR := HR.gro G0
    replace HW := HW.gro G0
    replace GG := GG.trans G0
    clear G0
    have hF2 : ∀ x ∈ q, ∀ a, x.ao = some a → ∀ ad, ao4 = some ad → a.block ≠ ad.block := fun x hx a ha ad h4 => by have h5 := hW4 ad h4; have := hM0 x hx a ha; omega
    refine s_callv 80 rfl rfl _ 9 Try.call9 rfl rfl _ rfl [.pointer (some ⟨r, 0, none⟩), .slice oq.ao lb.length oq.cap] rfl (rput_full _ r w.heap.size so sc u HR (by omega) oq.ao oq.cap lb) ?_
    intro w11 G
    replace kg1 := G.has kg1
    replace HP := HP.gro G
    replace HR := HR.gro G
    replace HW := HW.gro G
    replace GG := GG.trans G
    clear G
    refine nr ?_; intro U h; simp only [z0, z1] at h; subst h
    have hqu2 := hqu
    have hql2 := hql
    have hF3 : ∀ x ∈ u, ∀ a, x.ao = some a → ∀ ad, ao4 = some ad → a.block ≠ ad.block := fun x hx a ha ad h4 => by have h5 := hW4 ad h4; have := hM1 x hx a ha; omega
    refine s_val 81 rfl rfl (.bool false) (run_neB 4 _ _ _ rfl false false rfl rfl Try.underlying4 false (decide_eq_true rfl) _) ?_
    refine nr ?_; intro U h; simp only [z0, z1] at h; subst h
    refine wpList_nil ?_
    refine then_n ?_
    refine wp_cond_false rfl ?_
    refine wp_skip ?_
    refine then_n ?_
    refine wp_seq ?_
    refine wp_region_lit ?_
    refine s_val 82 rfl rfl (.slice ao4 lb.length cap4) (rfl) ?_
    refine nr ?_; intro U h; simp only [z0, z1] at h; subst h
    refine s_val 83 rfl rfl (.int .i64 ((lb.length : Nat) : Int)) (run_len Try.underlying30 _ rfl _ _ _ rfl _) ?_
    refine nr ?_; intro U h; simp only [z0, z1] at h; subst h
    refine s_val 84 rfl rfl (.int .i64 0) (rfl) ?_
    refine nr ?_; intro U h; simp only [z0, z1] at h; subst h
    refine wpList_nil ?_
    refine then_n ?_
    refine wp_block ?_
    have hL0 : lb.length = lb.length := rfl
    refine wp_loopN (fun mz az wv => ∃ (k : Nat) (l1 : List Nat) (us2 : Nat → Value), mz = lb.length - k ∧ az = ⟨[.slice ao os.length cap, undef, us1 0, .pointer (some ⟨p, 0, none⟩), .pointer (some ⟨r, 0, none⟩), .int .i64 ((j : Nat) : Int), .pointer (some ⟨g1, 0, none⟩), .slice ao4 lb.length cap4, us2 0, us1 5, us1 6, us1 7, us1 8, us1 9, undef, us1 10, us1 11, .agg (c26 Sl.nil), .pointer (some ⟨p, 0, none⟩), .agg (c29 Sl.nil), .pointer (some ⟨r, 0, none⟩), .slice ao os.length cap, .int .i64 ((os.length : Nat) : Int), .int .i64 ((j : Nat) : Int), .bool true, .int .i64 ((j : Nat) : Int), .pointer (some (ad.add (j * 3))), .agg (c32 oq.k oq.i ⟨oq.ao, oq.l.length, oq.cap⟩), .int .i64 ((j : Nat) : Int), .bool false, .pointer (some ⟨g1, 2, none⟩), .slice oq.ao oq.l.length oq.cap, .pointer (some ⟨g1, 2, none⟩), .slice oq.ao oq.l.length oq.cap, .int .i64 ((oq.l.length : Nat) : Int), .int .i64 ((lb.length : Nat) : Int), .slice oq.ao lb.length oq.cap, .pointer (some ⟨g1, 2, none⟩), .pointer (some ⟨g1, 0, none⟩), .int .i64 oq.k, us1 28, us1 29, us1 30, us1 31, us1 32, us1 33, us1 34, us1 35, us1 36, us1 37, us1 38, us1 39, us1 40, us1 41, us1 42, us1 43, us1 44, us1 45, us1 46, us1 47, us1 48, us1 49, us1 50, us1 51, us1 52, us1 53, us1 54, us1 55, .bool true, .bool true, .slice (some ⟨gb, 0, none⟩) (([] : List Nat).length) 0, .pointer (some ⟨g1, 2, none⟩), .slice oq.ao lb.length oq.cap, .slice ao4 lb.length cap4, .pointer (some ⟨p, 0, none⟩), .slice ao4 lb.length cap4, .bool false, .pointer (some ⟨r, 0, none⟩), .pointer (some ⟨g1, 2, none⟩), .slice oq.ao lb.length oq.cap, .bool false, .bool false, .slice ao4 lb.length cap4, .int .i64 ((lb.length : Nat) : Int), .int .i64 ((k : Nat) : Int), us2 1, us2 2, us2 3, us2 4, us2 5, us2 6, us2 7, us2 8, us2 9, us1 82, us1 83, us1 84, us1 85, us1 86, us1 87, us1 88, us1 89, us1 90, us1 91, us1 92, us1 93, us1 94, us1 95, us1 96, us1 97, us1 98, us1 99, us1 100, us1 101, us1 102, us1 103, us1 104, us1 105, us1 106, us1 107, us1 108, us1 109, us1 110, us1 111, us1 112, us1 113, us1 114, us1 115, us1 116, us1 117, us1 118, us1 119, us1 120, us1 121, us1 122, us1 123, us1 124, us1 125, us1 126, us1 127, us1 128, us1 129, us1 130, us1 131, us1 132, us1 133, us1 134, us1 135, us1 136, us1 137, us1 138, us1 139, us1 140, undef, undef, undef, undef, undef, undef, undef, undef, undef, undef].toArray, []⟩ ∧ k ≤ lb.length ∧ l1.length = lb.length ∧ Gro w wv ∧ OB wv 5 .u8 w.heap.size ao4 cap4 l1 ∧ PK 26 wv p w.heap.size ro rc q ∧ PK 29 wv r w.heap.size so sc u) ?_ _ ⟨0, lb, (fun kz => ([us1 4, us1 73, us1 74, us1 75, us1 76, us1 77, us1 78, us1 79, us1 80, us1 81] : List Value).getD kz undef), rfl, rfl, Nat.zero_le _, rfl, GG, HW, HP, HR⟩
    clear GG HP HR HW
    rintro mz az wv ⟨k, l1, us2, rfl, rfl, hk, hl1, GG, HW, HP, HR⟩
    refine wp_seq ?_
    refine wp_region_lit ?_
    obtain ⟨p4, hp4⟩ : ∃ p, decide (((k : Nat) : Int) < ((lb.length : Nat) : Int)) = p := ⟨_, rfl⟩
    refine s_val 85 rfl rfl (.bool p4) (run_lssT 3 _ _ _ rfl ((k : Nat) : Int) ((lb.length : Nat) : Int) rfl rfl p4 hp4 _) ?_
    refine nr ?_; intro U h; simp only [z0, z1] at h; subst h
    cases p4
    · refine wpList_nil ?_
      refine then_n ?_
      refine wp_seq ?_
      refine wp_cond_false rfl ?_
      refine wp_exit ?_
      refine then_x ?_
      refine then_x ?_
      refine blk_x ?_
      refine blk_n ?_
      refine then_n ?_
      refine wp_seq ?_
      have kr := HR.box
      refine wp_region_exA (A := ?Ax16) 7 [(0, 144), (1, 145), (2, 146), (3, 147), (4, 148), (5, 149), (6, 150)] [.val (.pointer (some ⟨p, 0, none⟩)), .val (.int .i64 ((q.length : Nat) : Int)), .val (.pointer (some ⟨r, 0, none⟩)), .val (.pointer (some ⟨r, 0, none⟩)), .val (.pointer (some ⟨r, 0, none⟩)), .val (.slice so u.length sc), .val (.int .i64 ((u.length : Nat) : Int))] follows (by kernel_rfl) rfl ?hAx16 (opsA_cons ?o0x16 (opsA_cons ?o1x16 (opsA_cons ?o2x16 (opsA_cons ?o3x16 (opsA_cons ?o4x16 (opsA_cons ?o5x16 (opsA_cons ?o6x16 opsA_nil))))))) ?restx16
      case hAx16 =>
        intro ptrs
        simp only [full, foldSlots, filledE, postE, List.foldl_cons, List.foldl_nil, List.getD_cons_zero, List.getD_cons_succ, fill_val, List.set_cons_zero, List.set_cons_succ]
        exact rfl
      case o0x16 => exact fun _ _ _ _ => opE_move (v := .pointer (some ⟨p, 0, none⟩)) _ rfl rfl rfl
      case o1x16 => exact fun _ _ hw _ => opE_call (.val (.int .i64 ((q.length : Nat) : Int))) rfl _ 17 Try.call17 rfl rfl _ rfl [.pointer (some ⟨p, 0, none⟩)] rfl ((len_any _ p w.heap.size ro rc q (HP.gro ((Gro.refl _).drew.trans hw))).mono fun e w' ⟨he, hg⟩ => ⟨_, he, hg, rfl⟩)
      case o2x16 => exact fun _ _ _ _ => opE_move (v := .pointer (some ⟨r, 0, none⟩)) _ rfl rfl rfl
      case o3x16 => exact fun _ _ hw _ => opE_value (v := .pointer (some ⟨r, 0, none⟩)) rfl (run_nc _ rfl _ rfl)
      case o4x16 => exact fun _ _ hw _ => opE_value (v := .pointer (some ⟨r, 0, none⟩)) rfl (run_fld 29 _ 0 rfl _ _ rfl _ (by kernel_rfl))
      case o5x16 => exact fun _ _ hw _ => opE_value (v := .slice so u.length sc) rfl (run_ldc 24 _ rfl r 0 rfl 29 _ (hw.has kr) (na24 _) _ rfl)
      case o6x16 => exact fun _ _ hw _ => opE_value (v := .int .i64 ((u.length : Nat) : Int)) rfl (run_len Try.underlying24 _ rfl _ _ _ rfl _)
      intro ptrs w12 GD hxE
      simp only [List.drop_succ_cons, List.drop_zero]
      replace HP := HP.gro ((Gro.refl _).drew.trans GD)
      replace HR := HR.gro ((Gro.refl _).drew.trans GD)
      replace GG := GG.drew.trans GD
      clear kr
      clear GD
      refine s_val 151 rfl rfl (.bool false) (run_neq_k 3 .i64 _ _ _ rfl Try.underlying3 ((q.length : Nat) : Int) ((u.length : Nat) : Int) rfl rfl false (decide_eq_true (by omega)) _) ?_
      refine nr ?_; intro U h; simp only [z0, z1] at h; subst h
      refine wpList_nil ?_
      refine then_n ?_
      refine wp_cond_false rfl ?_
      refine wp_skip ?_
      refine blk_n ?_
      refine then_n ?_
      refine wp_region_lit ?_
      refine s_val 152 rfl rfl (.int .i64 ((j + 1 : Nat) : Int)) (run_add64 _ _ _ rfl ((j : Nat) : Int) 1 _ rfl rfl (by omega) (by omega) (by omega) _) ?_
      refine nr ?_; intro U h; simp only [z0, z1] at h; subst h
      refine s_val 23 rfl rfl (.int .i64 ((j + 1 : Nat) : Int)) (rfl) ?_
      refine nr ?_; intro U h; simp only [z0, z1] at h; subst h
      refine wpList_nil ?_
      refine then_n ?_
      exact ⟨_, (by omega : os.length - (j + 1) < os.length - j), j + 1, ro, rc, q, so, sc, u, (fun kz => ([us1 0, .int .i64 ((j : Nat) : Int), .pointer (some ⟨g1, 0, none⟩), .slice ao4 lb.length cap4, us2 0, us1 5, us1 6, us1 7, us1 8, us1 9, us1 10, us1 11, .bool true, .int .i64 ((j : Nat) : Int), .pointer (some (ad.add (j * 3))), .agg (c32 oq.k oq.i ⟨oq.ao, oq.l.length, oq.cap⟩), .int .i64 ((j : Nat) : Int), .bool false, .pointer (some ⟨g1, 2, none⟩), .slice oq.ao oq.l.length oq.cap, .pointer (some ⟨g1, 2, none⟩), .slice oq.ao oq.l.length oq.cap, .int .i64 ((oq.l.length : Nat) : Int), .int .i64 ((lb.length : Nat) : Int), .slice oq.ao lb.length oq.cap, .pointer (some ⟨g1, 2, none⟩), .pointer (some ⟨g1, 0, none⟩), .int .i64 oq.k, us1 28, us1 29, us1 30, us1 31, us1 32, us1 33, us1 34, us1 35, us1 36, us1 37, us1 38, us1 39, us1 40, us1 41, us1 42, us1 43, us1 44, us1 45, us1 46, us1 47, us1 48, us1 49, us1 50, us1 51, us1 52, us1 53, us1 54, us1 55, .bool true, .bool true, .slice (some ⟨gb, 0, none⟩) (([] : List Nat).length) 0, .pointer (some ⟨g1, 2, none⟩), .slice oq.ao lb.length oq.cap, .slice ao4 lb.length cap4, .pointer (some ⟨p, 0, none⟩), .slice ao4 lb.length cap4, .bool false, .pointer (some ⟨r, 0, none⟩), .pointer (some ⟨g1, 2, none⟩), .slice oq.ao lb.length oq.cap, .bool false, .bool false, .slice ao4 lb.length cap4, .int .i64 ((lb.length : Nat) : Int), .int .i64 ((k : Nat) : Int), .bool false, us2 2, us2 3, us2 4, us2 5, us2 6, us2 7, us2 8, us2 9, us1 82, us1 83, us1 84, us1 85, us1 86, us1 87, us1 88, us1 89, us1 90, us1 91, us1 92, us1 93, us1 94, us1 95, us1 96, us1 97, us1 98, us1 99, us1 100, us1 101, us1 102, us1 103, us1 104, us1 105, us1 106, us1 107, us1 108, us1 109, us1 110, us1 111, us1 112, us1 113, us1 114, us1 115, us1 116, us1 117, us1 118, us1 119, us1 120, us1 121, us1 122, us1 123, us1 124, us1 125, us1 126, us1 127, us1 128, us1 129, us1 130, us1 131, .pointer (some ⟨p, 0, none⟩), .int .i64 ((q.length : Nat) : Int), .pointer (some ⟨r, 0, none⟩), .pointer (some ⟨r, 0, none⟩), .pointer (some ⟨r, 0, none⟩), .slice so u.length sc, .int .i64 ((u.length : Nat) : Int), .bool false, .int .i64 ((j + 1 : Nat) : Int)] : List Value).getD kz undef), rfl, rfl, hjn, (by omega), hqu2, hdis, GG, HP, HR⟩
    have hkn : k < lb.length := by have := of_decide_eq_true hp4; omega
    obtain ⟨gi, curi, hgi, hBi, kgi, hci, hmi, hsi, hti⟩ := HW.blk (j := k) (by omega)
    refine wpList_nil ?_
    refine then_n ?_
    refine wp_seq ?_
    refine wp_cond_true rfl ?_
    refine wp_skip ?_
    refine then_n ?_
    refine wp_seq ?_
    refine wp_block ?_
    refine wp_seq ?_
    refine wp_region_lit ?_
    refine s_val 86 rfl rfl (.int .i64 ((k : Nat) : Int)) (rfl) ?_
    refine nr ?_; intro U h; simp only [z0, z1] at h; subst h
    refine s_val 8 rfl rfl (.int .i64 ((k : Nat) : Int)) (rfl) ?_
    refine nr ?_; intro U h; simp only [z0, z1] at h; subst h
    refine wpList_nil ?_
    refine then_n ?_
    refine wp_region_lit ?_
    refine s_val 87 rfl rfl (.slice ao4 lb.length cap4) (rfl) ?_
    refine nr ?_; intro U h; simp only [z0, z1] at h; subst h
    refine s_val 88 rfl rfl (.int .i64 ((k : Nat) : Int)) (rfl) ?_
    refine nr ?_; intro U h; simp only [z0, z1] at h; subst h
    refine s_val 89 rfl rfl (.pointer (some ⟨gi, k, none⟩)) (bat _ _ rfl gi lb.length cap4 k (by exact congrArg (fun a => Value.slice a lb.length cap4) hgi) rfl hkn _) ?_
    refine nr ?_; intro U h; simp only [z0, z1] at h; subst h
    refine s_val 90 rfl rfl (.int .u8 ((l1.getD k 0 : Nat) : Int)) (run_ld bT _ rfl ⟨gi, k, none⟩ rfl _ _ (HW.cellv hgi (by omega))) ?_
    refine nr ?_; intro U h; simp only [z0, z1] at h; subst h
    refine s_val 91 rfl rfl (.int .u8 ((inc8 (l1.getD k 0) : Nat) : Int)) (run_inc8 _ _ _ rfl (l1.getD k 0) rfl rfl _) ?_
    refine nr ?_; intro U h; simp only [z0, z1] at h; subst h
    refine s_val 92 rfl rfl (.pointer (some ⟨gi, k, none⟩)) (bat _ _ rfl gi lb.length cap4 k (by exact congrArg (fun a => Value.slice a lb.length cap4) hgi) rfl hkn _) ?_
    refine nr ?_; intro U h; simp only [z0, z1] at h; subst h
    refine s_store rfl rfl 5 _ _ rfl gi k rfl (.int .u8 ((inc8 (l1.getD k 0) : Nat) : Int)) rfl 5 _ kgi #[.int .u8 ((inc8 (l1.getD k 0) : Nat) : Int)] rfl si5 (by simp only [List.size_toArray, List.length_cons, List.length_nil]; omega) (one1 _) _ rfl ?_
    intro w12 St
    replace HP := HP.st5 kgi St (fun x hx a ha => hF2 x hx a ha _ hgi)
    replace HR := HR.st5 kgi St (fun x hx a ha => hF3 x hx a ha _ hgi)
    replace GG := GG.store St hBi
    replace HW := HW.put hgi kgi (by omega) (inc8 (l1.getD k 0)) (inc8_le _) St
    clear St kgi
    refine wpList_nil ?_
    refine blk_n ?_
    refine then_n ?_
    refine wp_region_lit ?_
    refine s_val 93 rfl rfl (.int .i64 ((k + 1 : Nat) : Int)) (run_add64 _ _ _ rfl ((k : Nat) : Int) 1 _ rfl rfl (by omega) (by omega) (by omega) _) ?_
    refine nr ?_; intro U h; simp only [z0, z1] at h; subst h
    refine s_val 84 rfl rfl (.int .i64 ((k + 1 : Nat) : Int)) (rfl) ?_
    refine nr ?_; intro U h; simp only [z0, z1] at h; subst h
    refine wpList_nil ?_
    refine then_n ?_
    exact ⟨_, (by omega : lb.length - (k + 1) < lb.length - k), k + 1, l1.set k (inc8 (l1.getD k 0)), (fun kz => ([.int .i64 ((k : Nat) : Int), .bool true, .int .i64 ((k : Nat) : Int), .slice ao4 lb.length cap4, .int .i64 ((k : Nat) : Int), .pointer (some ⟨gi, k, none⟩), .int .u8 ((l1.getD k 0 : Nat) : Int), .int .u8 ((inc8 (l1.getD k 0) : Nat) : Int), .pointer (some ⟨gi, k, none⟩), .int .i64 ((k + 1 : Nat) : Int)] : List Value).getD kz undef), rfl, rfl, hkn, (by rw [List.length_set]; exact hl1), GG, HW, HP, HR⟩
  refine wpList_nil ?_
  refine then_n ?_
  refine wp_cond_true rfl ?_
  refine wp_exit ?_
  refine then_x ?_
  refine blk_xn (by decide) ?_
  refine then_x ?_
  refine then_x ?_
  refine blk_x ?_
  refine then_n ?_
  refine wp_seq ?_
  have kr := HR.box
  refine wp_region_exA (A := ?Ax17) 8 [(0, 153), (1, 154), (2, 155), (3, 156), (4, 157), (5, 158), (6, 159), (7, 160)] [.val (.bool true), .val (.bool true), .val (.pointer (some ⟨p, 0, none⟩)), alE (q.map (·.l)), .val (.pointer (some ⟨r, 0, none⟩)), .val (.pointer (some ⟨r, 0, none⟩)), .val (.pointer (some ⟨r, 0, none⟩)), .val (.slice so u.length sc)] follows (by kernel_rfl) rfl ?hAx17 (opsA_cons ?o0x17 (opsA_cons ?o1x17 (opsA_cons ?o2x17 (opsA_cons ?o3x17 (opsA_cons ?o4x17 (opsA_cons ?o5x17 (opsA_cons ?o6x17 (opsA_cons ?o7x17 opsA_nil)))))))) ?restx17
  case hAx17 =>
    intro ptrs
    simp only [full, foldSlots, filledE, postE, List.foldl_cons, List.foldl_nil, List.getD_cons_zero, List.getD_cons_succ, fill_val, fill_alE, List.set_cons_zero, List.set_cons_succ]
    exact rfl
  case o0x17 => exact fun _ _ hw _ => opE_call (.val (.bool true)) rfl _ 18 Try.call18 rfl rfl _ rfl [] rfl ((fixed_true _).mono fun e w' ⟨he, hg⟩ => ⟨_, he, hg, rfl⟩)
  case o1x17 => exact fun _ _ _ _ => opE_move (v := .bool true) _ rfl rfl rfl
  case o2x17 => exact fun _ _ _ _ => opE_move (v := .pointer (some ⟨p, 0, none⟩)) _ rfl rfl rfl
  case o3x17 => exact fun _ x hw _ => opE_call (alE (q.map (·.l))) rfl _ 15 Try.call15 rfl rfl _ rfl [.pointer (some ⟨p, 0, none⟩)] rfl ((all_any _ p w.heap.size ro rc q (HP.gro ((Gro.refl _).drew.trans hw))).mono fun e w' ⟨g, r, he, hg, hr, HL⟩ => ⟨_, he, hg, _, g, r, rfl, hr, HL⟩)
  case o4x17 => exact fun _ _ _ _ => opE_move (v := .pointer (some ⟨r, 0, none⟩)) _ rfl rfl rfl
  case o5x17 => exact fun _ _ hw _ => opE_value (v := .pointer (some ⟨r, 0, none⟩)) rfl (run_nc _ rfl _ rfl)
  case o6x17 => exact fun _ _ hw _ => opE_value (v := .pointer (some ⟨r, 0, none⟩)) rfl (run_fld 29 _ 0 rfl _ _ rfl _ (by kernel_rfl))
  case o7x17 => exact fun _ _ hw _ => opE_value (v := .slice so u.length sc) rfl (run_ldc 24 _ rfl r 0 rfl 29 _ (hw.has kr) (na24 _) _ rfl)
  intro ptrs w6 GD hxE
  simp only [List.drop_succ_cons, List.drop_zero]
  replace HP := HP.gro ((Gro.refl _).drew.trans GD)
  replace HR := HR.gro ((Gro.refl _).drew.trans GD)
  replace GG := GG.drew.trans GD
  obtain ⟨⟨Ma, ga, ra, hv, hra, HLa⟩, _⟩ := hxE
  simp only [hv]
  have hral : ra.length = q.length := by have := congrArg List.length hra; simpa using this
  clear kr hv
  clear GD
  refine s_gcallv 161 rfl rfl _ 16 Try.call16 rfl rfl _ rfl [.slice (some ⟨ga, 0, none⟩) ra.length ra.length, .slice so u.length sc] rfl (sameAll_t _ (some ⟨ga, 0, none⟩) ra.length _ HLa.lc so sc _ HR.ly.lc ra.length u.length (by simp) (by simp) (by omega) (hra.trans hqu)) ?_
  intro w7 G
  replace HP := HP.gro G
  replace HR := HR.gro G
  replace GG := GG.trans G
  clear G
  refine nr ?_; intro U h; simp only [z0, z1] at h; subst h
  refine s_val 162 rfl rfl (.bool true) (rfl) ?_
  refine nr ?_; intro U h; simp only [z0, z1] at h; subst h
  refine s_val 2 rfl rfl (.bool true) (rfl) ?_
  refine nr ?_; intro U h; simp only [z0, z1] at h; subst h
  refine wpList_nil ?_
  refine then_n ?_
  refine wp_ret ?_
  refine bodyPost_ret (results_tmp Try.results3 _ _ _) rfl ?_
  exact ⟨rfl, GG⟩
end Go.Proofs.Ytlonnbmkkmfmeaa
