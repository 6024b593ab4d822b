/-
  A change is made in a row of bytes: lay.
-/
import Derived.Test.YtjljklfahmjngaaPaRow
namespace Go.Proofs.Ytjljklfahmjngaa
open Go Go.Proofs Go.RowKit Go.Shelf
attribute [local go_sem] Oper.semAt_some
/-- A row with these bytes from a place on; what would lie outside is left out. -/
def layL (bs : List Int) (a : Int) (ns : List Int) : List Int := (List.range bs.length).map fun (i : Nat) => if a ≤ i ∧ (i : Int) < a + ns.length then ns.getD ((i : Int) - a).toNat 0 else bs.getD i 0
theorem layL_length (bs : List Int) (a : Int) (ns : List Int) : (layL bs a ns).length = bs.length := by simp [layL]
theorem layL_get (bs : List Int) (a : Int) (ns : List Int) (i : Nat) (h : i < bs.length) : (layL bs a ns).getD i 0 = if a ≤ i ∧ (i : Int) < a + ns.length then ns.getD ((i : Int) - a).toNat 0 else bs.getD i 0 := by
  unfold layL
  rw [List.getD_eq_getElem?_getD, List.getElem?_map, List.getElem?_range h]
  rfl
theorem list_ext {xs ys : List Int} (hl : xs.length = ys.length) (h : ∀ i, i < xs.length → xs.getD i 0 = ys.getD i 0) : xs = ys := by
  apply List.ext_getElem hl
  intro i h1 h2
  have := h i h1
  rwa [List.getD_eq_getElem?_getD, List.getD_eq_getElem?_getD, List.getElem?_eq_getElem h1, List.getElem?_eq_getElem h2] at this
theorem layL_none (bs : List Int) (a : Int) (ns : List Int) (h : ∀ i : Nat, i < bs.length → ¬ (a ≤ i ∧ (i : Int) < a + ns.length)) : layL bs a ns = bs := by
  refine list_ext (layL_length _ _ _) (fun i hi => ?_)
  rw [layL_length] at hi
  rw [layL_get _ _ _ _ hi, if_neg (h i hi)]
theorem layL_splice (bs : List Int) (o : Nat) (ns : List Int) (ho : o ≤ bs.length) : splice bs o (ns.take (min ns.length (bs.length - o))) = layL bs o ns := by
  have hl : (ns.take (min ns.length (bs.length - o))).length = min ns.length (bs.length - o) := by rw [List.length_take]; omega
  refine list_ext ?_ (fun i hi => ?_)
  · rw [layL_length, splice_length _ _ _ (by rw [hl]; omega)]
  · rw [splice_length _ _ _ (by rw [hl]; omega)] at hi
    rw [layL_get _ _ _ _ hi]
    unfold splice
    have htl : (List.take o bs).length = o := by rw [List.length_take]; omega
    simp only [List.getD_eq_getElem?_getD]
    by_cases h1 : i < o
    · rw [List.getElem?_append_left (by rw [htl]; omega), List.getElem?_take, if_pos h1, if_neg (by omega)]
    · rw [List.getElem?_append_right (by rw [htl]; omega), htl]
      by_cases h2 : i - o < ns.length
      · rw [List.getElem?_append_left (by rw [hl]; omega), List.getElem?_take, if_pos (by omega), if_pos (by omega)]
        congr 2
        omega
      · rw [List.getElem?_append_right (by rw [hl]; omega), List.getElem?_drop, hl, if_neg (by omega)]
        congr 2
        omega
theorem take_splice {α : Type} (C cs : List α) (o n : Nat) (h : o + cs.length ≤ n) (hn : n ≤ C.length) : (C.take o ++ cs ++ C.drop (o + cs.length)).take n = splice (C.take n) o cs := by
  unfold splice
  have h1 : (C.take o).length = o := by rw [List.length_take]; omega
  rw [List.append_assoc, List.take_append, h1, List.take_append, List.take_take, List.take_take, Nat.min_eq_right (by omega : o ≤ n), Nat.min_eq_left (by omega : o ≤ n), List.take_of_length_le (by omega : cs.length ≤ n - o), List.drop_take]
  congr 3
  omega
/-- copy(b[o:], c). -/
theorem copy_own {W : World} {base g n cap : Nat} {bs : List Int} (hown : W.ownsRow base 5 1 (.slice (some ⟨g, 0, none⟩) n cap) n (By bs)) (o dc : Nat) (ho : o ≤ n) (ao : Option Addr) (m c : Nat) (ys : List Int) (hb : BAt W ao m ys) (hnone : ao = none → m = 0 ∧ c = 0) :
    ∃ W' r, (Builtin.copy_ #[22, 22] 3 #[.slice (some ⟨g, o, none⟩) (n - o) dc, .slice ao m c]).run Try.prog W = .ok r W' ∧ W'.ownsRow base 5 1 (.slice (some ⟨g, 0, none⟩) n cap) n (By (layL bs o ys)) ∧ Only (fun k => k = g) W W' := by
  obtain ⟨i0, hi, hz0, hz1, hz2⟩ := info5p
  have hown' := hown
  obtain ⟨hl, h2⟩ := hown
  rw [By_length, Nat.mul_one] at hl
  rcases h2 with ⟨h0, _⟩ | ⟨g', cap', cur, e, hg, hh, hnc, hm, hsz, ht⟩
  · cases h0
  cases e
  cases ao with
  | none =>
    obtain ⟨rfl, rfl⟩ := hnone rfl
    have hy : ys = [] := List.eq_nil_of_length_eq_zero hb.1
    subst hy
    refine ⟨W, _, run_copy_nil (P := Try.prog) W 22 22 3 5 ⟨g, o, none⟩ (n - o) dc Try.underlying22 (by rw [hi]; simp), ?_, Only.refl _ _⟩
    rw [layL_none _ _ _ (fun i hi h => by simp at h; omega)]
    exact hown'
  | some a =>
    have hyl := hb.1
    have hcl : (By (ys.take (min m (n - o)))).length = min m (n - o) := by rw [By_length, List.length_take]; omega
    have hcn : n ≤ cur.size := by
      have := congrArg List.length ht
      simp [By_length] at this
      omega
    have hr := run_copy_row (P := Try.prog) W 22 22 3 5 g o (n - o) dc a m c cur 5 (By (ys.take (min m (n - o)))) Try.underlying22 (by rw [hi]; simp [hz1]) hh hcl (fun j u hj => by
      have hjl := (List.getElem?_eq_some_iff.1 hj).1
      rw [By_length] at hjl
      rw [By_get _ j hjl] at hj
      have hj2 : j < min m (n - o) := by simp at hjl; omega
      obtain ⟨a', e, hc⟩ := hb.at j (by omega)
      cases e
      rw [hc]
      have e : (ys.take (min m (n - o))).getD j 0 = ys.getD j 0 := by simp only [List.getD, List.getElem?_take, if_pos hj2]
      rwa [e] at hj) (by rw [hcl]; omega) (By_one _)
    refine ⟨_, _, hr, ⟨by rw [By_length, layL_length]; omega, .inr ⟨g, cap, _, rfl, hg, setRow_heap W g _ _ 5 _ hh, hnc, hm, ?_, ?_⟩⟩, (Only.refl (fun k => k = g) W).setRow (.inl rfl) _⟩
    · have hcl2 := hcl
      simp only [List.size_toArray, List.length_append, List.length_take, List.length_drop, Array.length_toList, hcl]
      omega
    · rw [← layL_splice bs o ys (by omega), ← splice_By, hl, hyl]
      have e2 : cur.toList.take n = By bs := by have := ht; rwa [Nat.mul_one] at this
      have := take_splice cur.toList (By (ys.take (min m (n - o)))) o n (by rw [hcl]; omega) (by simpa using hcn)
      rw [e2] at this
      rw [Nat.mul_one]
      exact this
theorem exec_negs (m : Nat) (h : m ≤ 9223372036854775807) : IntKind.i64.wrap (-(m : Int)) = -(m : Int) := by rw [IntKind.wrap_i64]; omega
theorem Only.drewN {S : Nat → Prop} {a b : World} (h : Only S a b) (k : Nat) : Only S a (b.drewN k) := ⟨h.os, h.tape, h.output, h.size, h.block⟩
set_option maxRecDepth 100000 in
set_option maxHeartbeats 4000000 in
theorem lay_any (w : World) (base : Nat) (v : Value) (n : Nat) (bs : List Int) (hown : w.ownsRow base 5 1 v n (By bs)) (hn : n ≤ 1000000000) (i a : Int) (ha : I64 a) (ao : Option Addr) (m c : Nat) (ns : List Int) (hb : BAt w ao m ns) (hnone : ao = none → m = 0 ∧ c = 0) (hm : m ≤ c ∧ c ≤ 9223372036854775807) :
    Calls Try.prog 23 #[v, paV i a (.slice ao m c)] w fun e w' => e = .returned (.tuple #[]) ∧ w'.ownsRow base 5 1 v n (By (layL bs a ns)) ∧ Only (fun k => v.ownBlock = some k) w w' := by
  have hbl : bs.length = n := by have := hown.1; rw [By_length, Nat.mul_one] at this; exact this
  have hnl : ns.length = m := hb.1
  obtain ⟨W1, hW1⟩ : ∃ W1, W1 = w.alloc (.cells #[.int .i64 i, .int .i64 a, .slice ao m c] 31) := ⟨_, rfl⟩
  have hB1 : Below w.heap.size w W1 := by rw [hW1]; exact (Below.refl _ w).alloc (Nat.le_refl _) _
  have hown1 : W1.ownsRow base 5 1 v n (By bs) := by rw [hW1]; exact hown.alloc _
  have hb1 : BAt W1 ao m ns := hb.below hB1
  have hO1 : Only (fun k => v.ownBlock = some k) w W1 := Only.of_new _ hB1
  have HW1 := Hid.mk hW1
  have c1 : W1.cell? ⟨w.heap.size, 1, none⟩ = some (.int .i64 a) := by rw [hW1]; simp
  have c2 : W1.cell? ⟨w.heap.size, 2, none⟩ = some (.slice ao m c) := by rw [hW1]; simp
  obtain ⟨vo, vc, rfl, -, hvo, hvn⟩ := owns_BAt hown
  unfold paV
  clear hb
  by_cases h0 : a < 0
  · have un := exec_negs m (by omega)
    by_cases h1 : a ≤ -(m : Int)
    · have HF : Hid (W1.ownsRow base 5 1 (.slice vo n vc) n (By (layL bs a ns)) ∧ Only (fun k => (Value.slice vo n vc).ownBlock = some k) w W1) := Hid.mk ⟨by rw [layL_none _ _ _ (fun j hj h => by omega)]; exact hown1, hO1⟩
      clear hown hown1 hO1 hB1 hb1 hm hn
      go_enter Try.func23, Try.ntmps23
      go_wp2
      rw [← HW1.out]
      clear hW1 HW1
      go_quiet (fail)
      go_wp2
      refine bodyPost_ret (results_none rfl _ _ _) rfl ?_
      exact ⟨rfl, HF.out.1, HF.out.2.drewN _⟩
    · obtain ⟨k, hk⟩ : ∃ k : Nat, a = -(k : Int) := ⟨(-a).toNat, by omega⟩
      subst hk
      have hk1 : 0 < k := by omega
      have hk2 : k < m := by omega
      obtain ⟨p, hp⟩ : ∃ p, ao = some p := by
        cases ao with
        | none => have := (hnone rfl).1; omega
        | some p => exact ⟨p, rfl⟩
      subst hp
      have ng : IntKind.i64.wrap (- -(k : Int)) = (k : Int) := by rw [IntKind.wrap_i64]; omega
      have ng2 : IntKind.i64.wrap (k : Int) = (k : Int) := by rw [IntKind.wrap_i64]; omega
      have g1 : (k : Int) ≤ (m : Int) := by omega
      have g2 : (m : Int) ≤ (c : Int) := by omega
      have g3 : ¬ m = k := by omega
      have hb2 : BAt W1 (some (p.add k)) (m - k) (ns.drop k) := hb1.from k (by omega)
      have hly : layL bs 0 (ns.drop k) = layL bs (-(k : Int)) ns := by
        refine list_ext (by rw [layL_length, layL_length]) (fun j hj => ?_)
        rw [layL_length] at hj
        rw [layL_get _ _ _ _ hj, layL_get _ _ _ _ hj, List.length_drop, hnl]
        by_cases hjm : (j : Int) < -(k : Int) + m
        · rw [if_pos (by omega), if_pos (by omega)]
          simp only [List.getD_eq_getElem?_getD, List.getElem?_drop]
          congr 2
          omega
        · rw [if_neg (by omega), if_neg (by omega)]
      by_cases h2 : 0 < n
      · obtain ⟨z, hz⟩ : ∃ z, vo = some z := by
          cases vo with
          | none => exact absurd rfl (hvn h2)
          | some z => exact ⟨z, rfl⟩
        subst hz
        obtain ⟨zg, zo, zs⟩ := z
        obtain ⟨-, hob, z1, z2⟩ := hvo _ rfl
        dsimp only at z1 z2 hob
        subst z1 z2
        have HC : Hid (∀ q, ∃ W' r, (Builtin.copy_ #[22, 22] 3 #[.slice (some ⟨zg, 0, none⟩) n n, .slice (some (p.add k)) (m - k) (m - k)]).run Try.prog (W1.drewN q) = .ok r W' ∧ W'.ownsRow base 5 1 (.slice (some ⟨zg, 0, none⟩) n vc) n (By (layL bs (-(k : Int)) ns)) ∧ Only (fun k => k = zg) (W1.drewN q) W') := Hid.mk (fun q => by
          have := copy_own (W := W1.drewN q) hown1 0 n (by omega) (some (p.add k)) (m - k) (m - k) (ns.drop k) hb2 (fun e => by cases e)
          rw [Nat.sub_zero] at this
          rw [show ((0 : Nat) : Int) = 0 from rfl, hly] at this
          exact this)
        have HO := Hid.mk hO1
        have hd : decide (0 < n) = true := decide_eq_true h2
        have hvc : (n : Int) ≤ (vc : Int) := by
          rcases hown.2 with ⟨e, _⟩ | ⟨g', cap', cur, e, hg, hh, hnc, hmx, hsz, ht⟩
          · cases e
          · cases e; omega
        clear hown hown1 hO1 hB1 hb1 hb2 hly hm hn hnone hvo hvn h1
        go_enter Try.func23, Try.ntmps23
        go_wp2
        rw [← HW1.out]
        clear hW1 HW1
        go_quiet (fail)
        revert nq
        intro q1
        go_wp2
        go_quiet (fail)
        obtain ⟨W9, r9, hr9, ho9, hO9⟩ := HC.out (q1 + nq)
        have H9 := Hid.mk (And.intro ho9 hO9)
        have HR9 := Hid.mk hr9
        clear hr9 ho9 hO9 HC
        go_wp2_with (first | (refine wpList_copy_known rfl (.tmp 35) (.tmp 36) 22 22 rfl _ _ _ _ rfl rfl HR9.out ?_))
        go_end0
        refine ⟨rfl, H9.out.1, ((HO.out.drewN _).trans H9.out.2 (fun j hj => .inl ?_)).mono (fun j _ h => Option.some.inj h)⟩
        rw [hj]
        rfl
      · have HF : Hid (W1.ownsRow base 5 1 (.slice vo n vc) n (By (layL bs (-(k : Int)) ns)) ∧ Only (fun k => (Value.slice vo n vc).ownBlock = some k) w W1) := Hid.mk ⟨by rw [layL_none _ _ _ (fun j hj h => by omega)]; exact hown1, hO1⟩
        obtain rfl : n = 0 := by omega
        clear hown hown1 hO1 hB1 hb1 hb2 hly hm hn hnone hvo hvn h1
        go_enter Try.func23, Try.ntmps23
        go_wp2
        rw [← HW1.out]
        clear hW1 HW1
        go_quiet (fail)
        go_wp2
        go_quiet (fail)
        go_wp2
        go_end0
        exact ⟨rfl, HF.out.1, HF.out.2.drewN _⟩
  · obtain ⟨s, hs⟩ : ∃ s : Nat, a = (s : Int) := ⟨a.toNat, by omega⟩
    subst hs
    by_cases h2 : s < n
    · obtain ⟨z, hz⟩ : ∃ z, vo = some z := by
        cases vo with
        | none => exact absurd rfl (hvn (by omega))
        | some z => exact ⟨z, rfl⟩
      subst hz
      obtain ⟨zg, zo, zs⟩ := z
      obtain ⟨-, hob, z1, z2⟩ := hvo _ rfl
      dsimp only at z1 z2 hob
      subst z1 z2
      have HC : Hid (∀ q, ∃ W' r, (Builtin.copy_ #[22, 22] 3 #[.slice (some ⟨zg, s, none⟩) (n - s) (n - s), .slice ao m c]).run Try.prog (W1.drewN q) = .ok r W' ∧ W'.ownsRow base 5 1 (.slice (some ⟨zg, 0, none⟩) n vc) n (By (layL bs (s : Int) ns)) ∧ Only (fun k => k = zg) (W1.drewN q) W') := Hid.mk (fun q =>
        copy_own (W := W1.drewN q) hown1 s (n - s) (by omega) ao m c ns hb1 hnone)
      have HO := Hid.mk hO1
      have h2' : (s : Int) < (n : Int) := by omega
      have g1 : (s : Int) ≤ (n : Int) := by omega
      have g3 : ¬ n = s := by omega
      have hadd : (⟨zg, 0, none⟩ : Addr).add s = ⟨zg, s, none⟩ := by rw [add_at]; simp
      have hvc : (n : Int) ≤ (vc : Int) := by
        rcases hown.2 with ⟨e, _⟩ | ⟨g', cap', cur, e, hg, hh, hnc, hmx, hsz, ht⟩
        · cases e
        · cases e; omega
      clear hown hown1 hO1 hB1 hb1 hm hn hnone hvo hvn
      go_enter Try.func23, Try.ntmps23
      go_wp2
      rw [← HW1.out]
      clear hW1 HW1
      go_quiet (fail)
      obtain ⟨W9, r9, hr9, ho9, hO9⟩ := HC.out nq
      have H9 := Hid.mk (And.intro ho9 hO9)
      have HR9 := Hid.mk hr9
      clear hr9 ho9 hO9 HC
      go_wp2_with (first | (refine wpList_copy_known rfl (.tmp 35) (.tmp 36) 22 22 rfl _ _ _ _ rfl rfl HR9.out ?_))
      go_end0
      refine ⟨rfl, H9.out.1, ((HO.out.drewN _).trans H9.out.2 (fun j hj => .inl ?_)).mono (fun j _ h => Option.some.inj h)⟩
      rw [hj]
      rfl
    · have HF : Hid (W1.ownsRow base 5 1 (.slice vo n vc) n (By (layL bs (s : Int) ns)) ∧ Only (fun k => (Value.slice vo n vc).ownBlock = some k) w W1) := Hid.mk ⟨by rw [layL_none _ _ _ (fun j hj h => by omega)]; exact hown1, hO1⟩
      have h2' : ¬ (s : Int) < (n : Int) := by omega
      clear hown hown1 hO1 hB1 hb1 hm hn hnone hvo hvn
      go_enter Try.func23, Try.ntmps23
      go_wp2
      rw [← HW1.out]
      clear hW1 HW1
      go_quiet (fail)
      go_wp2
      go_end0
      exact ⟨rfl, HF.out.1, HF.out.2.drewN _⟩
end Go.Proofs.Ytjljklfahmjngaa
