/-
  May what is out be made behind the others: Safe.
-/
import Derived.Test.YtjljklfahmjngaaPaWithout
import Derived.Test.YtjljklfahmjngaaPaRising
import Derived.Test.YtjljklfahmjngaaPaSafeP
namespace Go.Proofs.Ytjljklfahmjngaa
open Go Go.Proofs Go.RowKit Go.Shelf
attribute [local go_sem] Oper.semAt_some
section
variable {F : Fence} {n : Nat} {ops : Array Oper} {Q : Exit → Act → World → Prop} {a : Act} {o : Oper} {rest : List Oper} {w : World}
theorem wpLIn_stored (hp : ∀ c, o.op ≠ .defer c) (ha : o.about Try.prog w a.eval = none) (hw : Region.wanted o (yielded ops a.tmps) = true) (w' : World) (hrun : (execOp a.eval o).run Try.prog w = .ok .skip w') (h : wpListIn F n Try.prog ops Q rest (a.put o.dst undef) w') : wpListIn F n Try.prog ops Q (o :: rest) a w := by
  refine BigFrame.wpListIn_want hw fun K hK => ?_
  unfold Oper.wpIn
  refine ⟨fun f hf => (by rw [ha] at hf; cases hf), ?_⟩
  rw [Oper.semAt_plain F _ _ hp, hrun, Oper.uponIn_skip]
  exact hK _ _ h
theorem exec_storeF {ev : Operand → Value} {oi : Oper} {p x : Operand} {b : Nat} {f : Nat} {cb : Array Value} {W : World} (ho : oi.op = .store 44 p x) (hp : ev p = .pointer (some ⟨b, 0, none⟩)) (hx : ev x = .func (.func f) #[] cb) (hb : W.heap[b]? = some (.cells #[.nilFunc] 44 (0, 0))) : (execOp ev oi).run Try.prog W = .ok .skip (W.setCell ⟨b, 0, none⟩ (.func (.func f) #[] cb)) := by
  have hc : W.cell? ⟨b, 0, none⟩ = some .nilFunc := by rw [blk_cell hb]; rfl
  have hf := blk_free hb 0
  have hs : (store ⟨b, 0, none⟩ (.func (.func f) #[] cb)).run Try.prog W = stored Try.prog W ⟨b, 0, none⟩ (.func (.func f) #[] cb) .plain := run_store Try.prog W _ _ _ rfl
  unfold execOp
  simp only [ho, hp, hx]
  go_simp
theorem wpLIn_storeF (p x : Operand) (ho : o.op = .store 44 p x) (hw : Region.wanted o (yielded ops a.tmps) = true) (b f : Nat) (cb : Array Value) (hp : a.eval p = .pointer (some ⟨b, 0, none⟩)) (hx : a.eval x = .func (.func f) #[] cb) (hb : w.heap[b]? = some (.cells #[.nilFunc] 44 (0, 0))) (hd : o.dst = none) (h : wpListIn F n Try.prog ops Q rest a (w.setCell ⟨b, 0, none⟩ (.func (.func f) #[] cb))) : wpListIn F n Try.prog ops Q (o :: rest) a w :=
  wpLIn_stored (by rw [ho]; intro c hc; cases hc) (by simp [Oper.about, ho]) hw _ (exec_storeF ho hp hx hb) (by rw [hd]; exact h)
end
/-- The blocks of Safe: its answer, the map and what asks it, the two heaps, the iterator's row; and the range's world. -/
structure Sb where
  b4 : Nat
  bm : Nat
  b5 : Nat
  b6 : Nat
  b7 : Nat
  bl : Nat
  z : Nat
structure Sb.Ok (B : Sb) (w : World) : Prop where
  lt : B.b4 < B.z ∧ B.bm + 1 < B.z ∧ B.b5 < B.z ∧ B.b6 < B.z ∧ B.b7 < B.z ∧ B.bl < B.z
  n6 : B.b4 ≠ B.b6 ∧ B.bm ≠ B.b6 ∧ B.bm + 1 ≠ B.b6 ∧ B.b5 ≠ B.b6 ∧ B.bl ≠ B.b6
  n7 : B.b4 ≠ B.b7 ∧ B.bm ≠ B.b7 ∧ B.bm + 1 ≠ B.b7 ∧ B.b5 ≠ B.b7 ∧ B.bl ≠ B.b7
  n67 : B.b6 ≠ B.b7
  base : w.heap.size ≤ B.b6 ∧ w.heap.size ≤ B.b7 ∧ w.heap.size ≤ B.b4 ∧ w.heap.size ≤ B.z
/-- The two heaps. -/
structure SaH (B : Sb) (L : List Pt) (outs : List Int) (s : Nat) (It : Nat → Prop) (W : World) (v6 : Value) (n6 : Nat) (G : List (Int × Pt)) (v7 : Value) (n7 : Nat) (S : List (Int × Pt)) : Prop where
  p6 : PvAt W (B.z + 2) B.b6 v6 n6 G
  h6 : HeapF (rkF G) n6
  p7 : PvAt W (B.z + 2) B.b7 v7 n7 S
  h7 : HeapF (rkF S) n7
  sf : SfI L outs s G S
  le : n6 ≤ s ∧ n7 ≤ s
  d6 : ∀ k, v6.ownBlock = some k → v7.ownBlock ≠ some k ∧ ¬ It k
  d7 : ∀ k, v7.ownBlock = some k → ¬ It k
structure SaI (w : World) (B : Sb) (ao : Option Addr) (m c : Nat) (L : List Pt) (outs : List Int) (s : Nat) (It : Nat → Prop) (W : World) : Prop where
  below : Below w.heap.size w W
  size : B.z ≤ W.heap.size
  res : W.heap[B.b4]? = some (.cells #[.bool false] 4 (0, 0))
  b5 : W.heap[B.b5]? = some (.cells #[amongV (B.bm + 1)] 44 (0, 0))
  var : W.heap[B.bm + 1]? = some (.cells #[.map (some B.bm)] 63 (0, 0))
  mem : InAt W B.bm outs
  box : W.heap[B.bl]? = some (.cells #[.slice ao m c] 23 (0, 0))
  it : ∀ k, It k → B.z ≤ k
  st : ∃ v6 n6 G v7 n7 S, SaH B L outs s It W v6 n6 G v7 n7 S
section
variable {w A A' : World} {B : Sb} {ao : Option Addr} {m c : Nat} {L : List Pt} {outs : List Int} {s : Nat} {It It' : Nat → Prop} {S : Nat → Prop}
/-- What the heaps' own turning leaves. -/
theorem SaI.turn {s' : Nat} (h : SaI w B ao m c L outs s It A) (hB : B.Ok w) (hO : Only S A A') (hS : ∀ k, S k → k = B.b6 ∨ k = B.b7 ∨ B.z ≤ k) (hit : ∀ k, It' k → B.z ≤ k) (st : ∃ v6 n6 G v7 n7 S, SaH B L outs s' It' A' v6 n6 G v7 n7 S) : SaI w B ao m c L outs s' It' A' := by
  have hne : ∀ k, k < B.z → k ≠ B.b6 → k ≠ B.b7 → A'.heap[k]? = A.heap[k]? := fun k h1 h2 h3 => hO.block k (by have := h.size; omega) (fun q => by
    rcases hS k q with e | e | e
    · exact h2 e
    · exact h3 e
    · omega)
  obtain ⟨q4, qm, q5, q6, q7, ql⟩ := hB.lt
  obtain ⟨x1, x2, x3, x4, x5⟩ := hB.n6
  obtain ⟨y1, y2, y3, y4, y5⟩ := hB.n7
  refine ⟨h.below.trans (hO.below h.below.size (fun k q => ?_)), Nat.le_trans h.size hO.size, (hne _ q4 x1 y1).trans h.res, (hne _ q5 x4 y4).trans h.b5, (hne _ qm x3 y3).trans h.var, h.mem.kept (hne _ (by omega) x2 y2), (hne _ ql x5 y5).trans h.box, hit, st⟩
  obtain ⟨z1, z2, z3, z4⟩ := hB.base
  rcases hS k q with e | e | e <;> omega
theorem SaI.side (h : SaI w B ao m c L outs s It A) (hB : B.Ok w) (hO : Only S A A') (hS : ∀ k, S k → It k ∨ k = B.z ∨ k = B.z + 1) (hI : ∀ k, It' k → It k ∨ A.heap.size ≤ k) : SaI w B ao m c L outs s It' A' := by
  refine h.turn hB hO (fun k q => ?_) (fun k q => ?_) ?_
  · rcases hS k q with e | e | e
    · exact .inr (.inr (h.it k e))
    · exact .inr (.inr (by omega))
    · exact .inr (.inr (by omega))
  · have := h.size
    rcases hI k q with e | e
    · exact h.it k e
    · omega
  · obtain ⟨v6, n6, G, v7, n7, T, q⟩ := h.st
    have nS : ∀ k, k < B.z → ¬ S k := fun k hk e => by
      rcases hS k e with e | e | e
      · have := h.it k e; omega
      · omega
      · omega
    refine ⟨v6, n6, G, v7, n7, T, q.p6.only hO (nS _ hB.lt.2.2.2.1) (fun k e1 e2 => ?_), q.h6, q.p7.only hO (nS _ hB.lt.2.2.2.2.1) (fun k e1 e2 => ?_), q.h7, q.sf, q.le, fun k e => ⟨(q.d6 k e).1, fun i => ?_⟩, fun k e i => ?_⟩
    · have := (q.p6.2.1.lt k e1).1
      rcases hS k e2 with e | e | e
      · exact (q.d6 k e1).2 e
      · omega
      · omega
    · have := (q.p7.2.1.lt k e1).1
      rcases hS k e2 with e | e | e
      · exact q.d7 k e1 e
      · omega
      · omega
    · rcases hI k i with i | i
      · exact (q.d6 k e).2 i
      · have := (q.p6.2.1.lt k e).2; omega
    · rcases hI k i with i | i
      · exact q.d7 k e i
      · have := (q.p7.2.1.lt k e).2; omega
end
section
variable {W3 : World} {B : Sb} {L : List Pt} {outs : List Int} {s i0 : Nat} {It : Nat → Prop} {v6 v7 : Value} {n6 n7 : Nat} {G S : List (Int × Pt)}
theorem rk_mem {H : List (Int × Pt)} {n : Nat} (hl : H.length = n) (hh : HeapF (rkF H) n) : ∀ x ∈ H, rkF H 0 ≤ x.1 := fun x hx => by
  obtain ⟨k, hk, e⟩ := List.getElem_of_mem hx
  have := heap_least hh k (by omega)
  have e2 : rkF H k = x.1 := by
    unfold rkF
    rw [List.getD_eq_getElem?_getD, List.getElem?_eq_getElem hk, ← e]
    rfl
  rw [e2] at this
  exact this
theorem get_mem0 {H : List (Int × Pt)} (h : 0 < H.length) : H.getD 0 noS ∈ H := by
  rw [List.getD_eq_getElem?_getD, List.getElem?_eq_getElem h]
  exact List.getElem_mem _
/-- Of those that stay the least that laps with one that is out. -/
theorem out_head (h : SaH B L outs s It W3 v6 n6 G v7 n7 S) (hb : ∀ i ∈ ordL L, I64 (pt L i).at' ∧ (pt L i).n ≤ 9223372036854775807) (hL : L.length ≤ 100) (hs : s < (ordL L).length) (hi : i0 = (ordL L).getD s 0) (ho : (pt L i0).id ∈ outs) (hsl : s ≤ 100) :
    Calls Try.prog 26 #[.pointer (some ⟨B.b7, 0, none⟩), paV (pt L i0).id (pt L i0).at' (pt L i0).val] W3 fun e W4 => ∃ (r : Int) (ok : Bool), e = .returned (.tuple #[.int .i64 r, .bool ok]) ∧ Hid ((ok = true → ∃ k : Nat, r = -(k : Int) ∧ k ≤ 100) ∧ (ok = true → (i0 : Int) < -r → safeL L outs = false) ∧ ((ok = false ∨ ¬ (i0 : Int) < -r) → ∃ v' n' H', PvAt W4 (B.z + 2) B.b7 v' n' H' ∧ HeapF (rkF H') n' ∧ v'.ownBlock = v7.ownBlock ∧ n' ≤ s ∧ ∀ G', G'.Perm (G ++ [((i0 : Int), pt L i0)]) → SfI L outs (s + 1) G' H') ∧ Only (fun k => k = B.b7 ∨ v7.ownBlock = some k) W3 W4) := by
  have hin : i0 ∈ ordL L := by rw [hi]; exact (ord_lt hs).2
  refine (head_any W3 (B.z + 2) B.b7 v7 n7 S h.p7 (by have := h.le.2; omega) h.h7 (fun x hx => ?_) (pt L i0) (hb i0 hin).1 (hb i0 hin).2).mono ?_
  · obtain ⟨i, q1, q2, _⟩ := h.sf.sin x hx
    rw [q2]
    exact hb i (in_take q1)
  · rintro e W4 ⟨r, ok, rfl, HQ⟩
    obtain ⟨v', n', H', D, hI, hc⟩ := HQ.out
    have hl' := hI.pv.len
    have hlen := hI.perm.length_eq
    rw [List.length_append, hl', h.p7.len] at hlen
    have hn's : n' ≤ s := by have := h.le.2; omega
    have hsin : ∀ x ∈ H', ∃ i ∈ (ordL L).take s, x = (-(i : Int), pt L i) ∧ (pt L i).id ∉ outs := fun x hx => h.sf.sin x (hI.perm.mem_iff.1 (List.mem_append_left _ hx))
    refine ⟨r, ok, rfl, Hid.mk ⟨fun e => ?_, fun e hlt => ?_, fun hno => ⟨v', n', H', hI.pv, hI.heap, hI.own, hn's, fun G' hG' => sf_out h.sf hs hi ho hI.perm hI.out ?_ hG'⟩, hI.only⟩⟩
    · rcases hc with ⟨e2, _⟩ | ⟨_, h0, hlp, hr⟩
      · rw [e2] at e; cases e
      · obtain ⟨k, q1, q2, _⟩ := hsin _ (get_mem0 (H := H') (by omega))
        refine ⟨k, ?_, by have := (ord_n (in_take q1)).2; omega⟩
        rw [hr]; unfold rkF; rw [q2]
    · rcases hc with ⟨e2, _⟩ | ⟨_, h0, hlp, hr⟩
      · rw [e2] at e; cases e
      · obtain ⟨k, q1, q2, q3⟩ := hsin _ (get_mem0 (H := H') (by omega))
        have er : r = -(k : Int) := by rw [hr]; unfold rkF; rw [q2]
        rw [q2] at hlp
        exact sf_clash (in_take q1) (by omega) q3 ho hlp
    · rcases hc with ⟨e2, h0⟩ | ⟨e2, h0, hlp, hr⟩
      · intro x hx
        have : H' = [] := List.eq_nil_of_length_eq_zero (by omega)
        rw [this] at hx
        cases hx
      · intro x hx
        have := rk_mem hl' hI.heap x hx
        rcases hno with q | q
        · rw [e2] at q; cases q
        · omega
/-- Of those that are out the least that laps with one that stays. -/
theorem stay_head (h : SaH B L outs s It W3 v6 n6 G v7 n7 S) (hb : ∀ i ∈ ordL L, I64 (pt L i).at' ∧ (pt L i).n ≤ 9223372036854775807) (hs : s < (ordL L).length) (hi : i0 = (ordL L).getD s 0) (ho : (pt L i0).id ∉ outs) (hsl : s ≤ 100) :
    Calls Try.prog 26 #[.pointer (some ⟨B.b6, 0, none⟩), paV (pt L i0).id (pt L i0).at' (pt L i0).val] W3 fun e W4 => ∃ (r : Int) (ok : Bool), e = .returned (.tuple #[.int .i64 r, .bool ok]) ∧ Hid ((ok = true → r < (i0 : Int) → safeL L outs = false) ∧ ((ok = false ∨ ¬ r < (i0 : Int)) → ∃ v' n' H', PvAt W4 (B.z + 2) B.b6 v' n' H' ∧ HeapF (rkF H') n' ∧ v'.ownBlock = v6.ownBlock ∧ n' ≤ s ∧ ∀ S', S'.Perm (S ++ [(-(i0 : Int), pt L i0)]) → SfI L outs (s + 1) H' S') ∧ Only (fun k => k = B.b6 ∨ v6.ownBlock = some k) W3 W4) := by
  have hin : i0 ∈ ordL L := by rw [hi]; exact (ord_lt hs).2
  refine (head_any W3 (B.z + 2) B.b6 v6 n6 G h.p6 (by have := h.le.1; omega) h.h6 (fun x hx => ?_) (pt L i0) (hb i0 hin).1 (hb i0 hin).2).mono ?_
  · obtain ⟨i, q1, q2, _⟩ := h.sf.gin x hx
    rw [q2]
    exact hb i (in_take q1)
  · rintro e W4 ⟨r, ok, rfl, HQ⟩
    obtain ⟨v', n', H', D, hI, hc⟩ := HQ.out
    have hl' := hI.pv.len
    have hlen := hI.perm.length_eq
    rw [List.length_append, hl', h.p6.len] at hlen
    have hn's : n' ≤ s := by have := h.le.1; omega
    have hgin : ∀ x ∈ H', ∃ i ∈ (ordL L).take s, x = ((i : Int), pt L i) ∧ (pt L i).id ∈ outs := fun x hx => h.sf.gin x (hI.perm.mem_iff.1 (List.mem_append_left _ hx))
    refine ⟨r, ok, rfl, Hid.mk ⟨fun e hlt => ?_, fun hno => ⟨v', n', H', hI.pv, hI.heap, hI.own, hn's, fun S' hS' => sf_stay h.sf hs hi ho hI.perm hI.out ?_ hS'⟩, hI.only⟩⟩
    · rcases hc with ⟨e2, _⟩ | ⟨_, h0, hlp, hr⟩
      · rw [e2] at e; cases e
      · obtain ⟨k, q1, q2, q3⟩ := hgin _ (get_mem0 (H := H') (by omega))
        have er : r = (k : Int) := by rw [hr]; unfold rkF; rw [q2]
        rw [q2] at hlp
        refine sf_clash hin (by omega) ho q3 ?_
        rw [lpB_comm]
        exact hlp
    · rcases hc with ⟨e2, h0⟩ | ⟨e2, h0, hlp, hr⟩
      · intro x hx
        have : H' = [] := List.eq_nil_of_length_eq_zero (by omega)
        rw [this] at hx
        cases hx
      · intro x hx
        have := rk_mem hl' hI.heap x hx
        rcases hno with q | q
        · rw [e2] at q; cases q
        · omega
/-- The one that is out goes to those that are out. -/
theorem out_push {W4 : World} {z0 n' : Nat} {v' : Value} {H' : List (Int × Pt)} (p6 : PvAt W4 (B.z + 2) B.b6 v6 n6 G) (h6 : HeapF (rkF G) n6) (p7 : PvAt W4 (B.z + 2) B.b7 v' n' H') (h7 : HeapF (rkF H') n') (hn : n6 ≤ s ∧ n' ≤ s) (hsl : s ≤ 100) (hz : B.z + 2 ≤ W4.heap.size) (hz0 : z0 ≤ W4.heap.size) (d6 : ∀ k, v6.ownBlock = some k → v'.ownBlock ≠ some k ∧ ¬ It k) (d7 : ∀ k, v'.ownBlock = some k → ¬ It k) (hsf : ∀ G', G'.Perm (G ++ [((i0 : Int), pt L i0)]) → SfI L outs (s + 1) G' H') (h67 : B.b6 ≠ B.b7) :
    Calls Try.prog 27 #[.iface 54 (.pointer (some ⟨B.b6, 0, none⟩)), .iface 56 (spV ((i0 : Int), pt L i0))] W4 fun e W5 => (∃ u, e = .returned u) ∧ Hid ((∃ v6 n6 G v7 n7 S, SaH B L outs (s + 1) (fun k => It k ∧ k < z0) W5 v6 n6 G v7 n7 S) ∧ Only (fun k => k = B.b6 ∨ v6.ownBlock = some k) W4 W5) := by
  refine (hpush_any W4 (B.z + 2) B.b6 v6 n6 (n6 + 1) rfl G ((i0 : Int), pt L i0) p6.1 p6.2.1 hz p6.2.2 (by omega) h6).mono ?_
  rintro e W5 ⟨hu, g, cap, G', HQ⟩
  obtain ⟨q1, q2, q3, q4, q5⟩ := HQ.out
  have hv7 : ∀ k, v'.ownBlock = some k → k < W4.heap.size := fun k e => (p7.2.1.lt k e).2
  have hb7 : B.b7 < W4.heap.size := lt_of_block p7.1
  have p7' : PvAt W5 (B.z + 2) B.b7 v' n' H' := p7.only q4 (fun e => e.elim (fun e => h67 e.symm) (fun e => by
    have h1 := p7.1
    rcases p6.2.1.2 with ⟨e2, _⟩ | ⟨g', cap', cur, e2, _, hh, _⟩
    · rw [e2] at e; cases e
    · rw [e2] at e
      obtain rfl : g' = B.b7 := Option.some.inj e
      rw [h1] at hh
      cases hh)) (fun k e1 e2 => e2.elim (fun e2 => by subst e2; exact (by
    rcases p7.2.1.2 with ⟨e3, _⟩ | ⟨g', cap', cur, e3, _, hh, _⟩
    · rw [e3] at e1; cases e1
    · rw [e3] at e1
      obtain rfl : g' = B.b6 := Option.some.inj e1
      rw [p6.1] at hh
      cases hh)) (fun e2 => (d6 k e2).1 e1))
  refine ⟨hu, Hid.mk ⟨⟨_, n6 + 1, G', v', n', H', q1.pv, q3, p7', h7, hsf G' q2, by omega, fun k e => ⟨fun e2 => ?_, fun i => ?_⟩, fun k e i => d7 k e i.1⟩, q4⟩⟩
  · obtain rfl : g = k := Option.some.inj e
    rcases q5 with r | r
    · exact (d6 g r).1 e2
    · have := hv7 g e2; omega
  · obtain rfl : g = k := Option.some.inj e
    rcases q5 with r | r
    · exact (d6 g r).2 i.1
    · have := i.2; omega
/-- The one that stays goes to those that stay. -/
theorem stay_push {W4 : World} {z0 n' : Nat} {v' : Value} {H' : List (Int × Pt)} (p7 : PvAt W4 (B.z + 2) B.b7 v7 n7 S) (h7 : HeapF (rkF S) n7) (p6 : PvAt W4 (B.z + 2) B.b6 v' n' H') (h6 : HeapF (rkF H') n') (hn : n7 ≤ s ∧ n' ≤ s) (hsl : s ≤ 100) (hz : B.z + 2 ≤ W4.heap.size) (hz0 : z0 ≤ W4.heap.size) (d6 : ∀ k, v'.ownBlock = some k → v7.ownBlock ≠ some k ∧ ¬ It k) (d7 : ∀ k, v7.ownBlock = some k → ¬ It k) (hsf : ∀ S', S'.Perm (S ++ [(-(i0 : Int), pt L i0)]) → SfI L outs (s + 1) H' S') (h67 : B.b6 ≠ B.b7) :
    Calls Try.prog 27 #[.iface 54 (.pointer (some ⟨B.b7, 0, none⟩)), .iface 56 (spV (-(i0 : Int), pt L i0))] W4 fun e W5 => (∃ u, e = .returned u) ∧ Hid ((∃ v6 n6 G v7 n7 S, SaH B L outs (s + 1) (fun k => It k ∧ k < z0) W5 v6 n6 G v7 n7 S) ∧ Only (fun k => k = B.b7 ∨ v7.ownBlock = some k) W4 W5) := by
  refine (hpush_any W4 (B.z + 2) B.b7 v7 n7 (n7 + 1) rfl S (-(i0 : Int), pt L i0) p7.1 p7.2.1 hz p7.2.2 (by omega) h7).mono ?_
  rintro e W5 ⟨hu, g, cap, S', HQ⟩
  obtain ⟨q1, q2, q3, q4, q5⟩ := HQ.out
  have hv6 : ∀ k, v'.ownBlock = some k → k < W4.heap.size := fun k e => (p6.2.1.lt k e).2
  have p6' : PvAt W5 (B.z + 2) B.b6 v' n' H' := p6.only q4 (fun e => e.elim h67 (fun e => by
    rcases p7.2.1.2 with ⟨e2, _⟩ | ⟨g', cap', cur, e2, _, hh, _⟩
    · rw [e2] at e; cases e
    · rw [e2] at e
      obtain rfl : g' = B.b6 := Option.some.inj e
      rw [p6.1] at hh
      cases hh)) (fun k e1 e2 => e2.elim (fun e2 => by
    subst e2
    rcases p6.2.1.2 with ⟨e3, _⟩ | ⟨g', cap', cur, e3, _, hh, _⟩
    · rw [e3] at e1; cases e1
    · rw [e3] at e1
      obtain rfl : g' = B.b7 := Option.some.inj e1
      rw [p7.1] at hh
      cases hh) (fun e2 => (d6 k e1).1 e2))
  refine ⟨hu, Hid.mk ⟨⟨v', n', H', _, n7 + 1, S', p6', h6, q1.pv, q3, hsf S' q2, by omega, fun k e => ⟨fun e2 => ?_, fun i => (d6 k e).2 i.1⟩, fun k e i => ?_⟩, q4⟩⟩
  · obtain rfl : g = k := Option.some.inj e2
    rcases q5 with r | r
    · exact (d6 g e).1 r
    · have := hv6 g e; omega
  · obtain rfl : g = k := Option.some.inj e
    rcases q5 with r | r
    · exact d7 g r i.1
    · have := i.2; omega
end
end Go.Proofs.Ytjljklfahmjngaa
