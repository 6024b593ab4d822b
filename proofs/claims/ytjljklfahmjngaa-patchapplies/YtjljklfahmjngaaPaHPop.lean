/-
  The least change of a heap is thrown away, a change more comes in: container/heap's Pop and Push.
-/
import Derived.Test.YtjljklfahmjngaaPaPop
import Derived.Test.YtjljklfahmjngaaPaPush
import Derived.Test.YtjljklfahmjngaaPaDown
namespace Go.Proofs.Ytjljklfahmjngaa
open Go Go.Proofs Go.RowKit Go.Shelf
attribute [local go_sem] Oper.semAt_some
theorem getD_swl (H : List (Int × Pt)) (n : Nat) (hl : H.length = n + 1) : (swL H 0 n).getD n noS = H.getD 0 noS := by
  unfold swL
  rw [List.getD_eq_getElem?_getD, List.getElem?_set_self (by simp; omega)]
  rfl
theorem split_last (H : List (Int × Pt)) (n : Nat) (hl : H.length = n + 1) : H = H.take n ++ [H.getD n noS] := by
  have h := List.take_append_drop n H
  have h2 : H.drop n = [H.getD n noS] := by
    rw [List.drop_eq_getElem_cons (by omega), List.drop_of_length_le (by omega), List.getD_eq_getElem?_getD, List.getElem?_eq_getElem (by omega)]
    rfl
  rw [h2] at h
  exact h.symm
set_option maxRecDepth 100000 in
set_option maxHeartbeats 1000000 in
theorem hpop_any (w : World) (base b g n n1 cap : Nat) (H : List (Int × Pt)) (e1 : n1 = n + 1) (h : PlAt w base b g n1 cap H) (hn : n ≤ 900) (hh : HeapF (rkF H) n1) :
    Calls Try.prog 37 #[.iface 54 (.pointer (some ⟨b, 0, none⟩))] w fun e w' => (∃ u, e = .returned u) ∧ ∃ H', Hid (PlAt w' base b g n cap H' ∧ (H' ++ [H.getD 0 noS]).Perm H ∧ HeapF (rkF H') n ∧ Only (fun k => k = b ∨ k = g) w w') := by
  have hl := h.len
  have hml := m_len w b _ n1 cap h.cell
  have hms := m_swap w b _ n1 cap h.cell
  have HSW : Hid (Calls Try.prog 78 #[.slice (some ⟨g, 0, none⟩) n1 cap, .int .i64 0, .int .i64 n] w fun e w' => (∃ u, e = .returned u) ∧ Hid (PlAt w' base b g n1 cap (swL H 0 n) ∧ Only (fun k => k = g) w w')) := Hid.mk (h.swap 0 n (by omega) (by omega))
  have HDN : Hid (∀ W, PlAt W base b g n1 cap (swL H 0 n) → Calls Try.prog 43 #[.iface 54 (.pointer (some ⟨b, 0, none⟩)), .int .i64 0, .int .i64 n] W fun e w' => (∃ u, e = .returned u) ∧ ∃ H', Hid (PlAt w' base b g n1 cap H' ∧ H'.Perm H ∧ H'.getD n noS = H.getD 0 noS ∧ HeapF (rkF H') n ∧ Only (fun k => k = g) W w')) := Hid.mk (fun W hW => by
    refine (down_any W base b g n1 n cap (swL H 0 n) hW (by omega) (by omega) ?_).mono ?_
    · rw [swL_rk H 0 n (by omega) (by omega)]
      exact down_start (by rw [← e1]; exact hh)
    · rintro e w' ⟨hu, H', H2⟩
      refine ⟨hu, H', Hid.mk ⟨H2.out.1, H2.out.2.1.trans (swL_perm H 0 n (by omega) (by omega)), ?_, H2.out.2.2.2.1, H2.out.2.2.2.2⟩⟩
      rw [H2.out.2.2.1 n (Nat.le_refl _)]
      exact getD_swl H n (by omega))
  have HPP : Hid (∀ W H', PlAt W base b g n1 cap H' → H'.getD n noS = H.getD 0 noS → H'.Perm H → HeapF (rkF H') n → Calls Try.prog 79 #[.pointer (some ⟨b, 0, none⟩)] W fun e w' => (∃ u, e = .returned u) ∧ ∃ H', Hid (PlAt w' base b g n cap H' ∧ (H' ++ [H.getD 0 noS]).Perm H ∧ HeapF (rkF H') n ∧ Only (fun k => k = b) W w')) := Hid.mk (fun W H' hW hg hp hhf => by
    have hl' := hW.len
    have e := split_last H' n (by omega)
    have ho := hW.2.1
    have hb := hW.1
    rw [e] at ho
    rw [e1] at ho hb
    refine (ppop_any W base b g n cap (H'.take n) (H'.getD n noS) hb ho hW.2.2 (by omega)).mono ?_
    rintro e2 w' ⟨hu, H2⟩
    refine ⟨hu, H'.take n, Hid.mk ⟨⟨H2.out.1, H2.out.2.1, hW.2.2⟩, ?_, ?_, H2.out.2.2⟩⟩
    · rw [← hg, ← e]
      exact hp
    · intro k h0 hk
      have r : ∀ i, i < n → rkF (H'.take n) i = rkF H' i := fun i hi => by
        simp only [rkF, List.getD_eq_getElem?_getD]
        rw [List.getElem?_take, if_pos hi]
      rw [r k hk, r _ (by omega)]
      exact hhf k h0 hk)
  have u1 : IntKind.i64.wrap ((n1 : Int) - 1) = (n : Int) := by rw [IntKind.wrap_i64]; omega
  clear h hh hl hn e1
  go_enter Try.func37, Try.ntmps37
  go_wp2_with (go_at_call 76; refine (len_any w _ n1 cap).mono ?_; rintro e w2 ⟨rfl, hw2⟩; have hw2' := hw2.symm; clear hw2; subst hw2')
  go_wp2_with (go_at_call 78; refine HSW.out.mono ?_; rintro e w3 ⟨⟨u, rfl⟩, H3⟩; clear HSW hms hml; have HD3 := Hid.mk (HDN.out w3 H3.out.1); clear HDN)
  go_wp2_with (go_at_call 43; refine HD3.out.mono ?_; rintro e w4 ⟨⟨u, rfl⟩, H', H4⟩; clear HD3; have hmp := m_pop w4 b; have HP4 := Hid.mk (HPP.out w4 H' H4.out.1 H4.out.2.2.1 H4.out.2.1 H4.out.2.2.2.1); clear HPP)
  go_wp2_with (go_at_call 79; refine HP4.out.mono ?_; rintro e w5 ⟨⟨u, rfl⟩, H5', H5⟩; clear HP4 hmp)
  go_ret
  refine ⟨⟨_, rfl⟩, H5', Hid.mk ⟨H5.out.1, H5.out.2.1, H5.out.2.2.1, ?_⟩⟩
  have o1 : Only (fun k => k = b ∨ k = g) w w3 := H3.out.2.mono (fun _ _ e => .inr e)
  have o2 := o1.trans H4.out.2.2.2.2 (fun _ e => .inl (.inr e))
  exact o2.trans H5.out.2.2.2 (fun _ e => .inl (.inl e))
theorem heap_snoc {H : List (Int × Pt)} {n : Nat} (s : Int × Pt) (hl : H.length = n) (h : HeapF (rkF H) n) : HeapF (rkF (H ++ [s])) n := by
  intro k hk hkn
  have e : ∀ i, i < n → rkF (H ++ [s]) i = rkF H i := fun i hi => by
    simp only [rkF, List.getD_eq_getElem?_getD]
    rw [List.getElem?_append_left (by omega)]
  rw [e k hkn, e _ (by omega)]
  exact h k hk hkn
set_option maxRecDepth 100000 in
set_option maxHeartbeats 1000000 in
/-- A change more. -/
theorem hpush_any (w : World) (base b : Nat) (v : Value) (n n1 : Nat) (e1 : n1 = n + 1) (H : List (Int × Pt)) (s : Int × Pt) (hb : w.heap[b]? = some (.cells #[v] 47 (0, 0))) (h : w.ownsRow base 56 4 v n (Sy H)) (hbb : base ≤ w.heap.size) (hgb : v.ownBlock ≠ some b) (hn : n ≤ 900) (hh : HeapF (rkF H) n) :
    Calls Try.prog 27 #[.iface 54 (.pointer (some ⟨b, 0, none⟩)), .iface 56 (spV s)] w fun e w' => (∃ u, e = .returned u) ∧ ∃ g cap H', Hid (PlAt w' base b g n1 cap H' ∧ H'.Perm (H ++ [s]) ∧ HeapF (rkF H') n1 ∧ Only (fun k => k = b ∨ v.ownBlock = some k) w w' ∧ (v.ownBlock = some g ∨ w.heap.size ≤ g)) := by
  have hl : H.length = n := by have := h.1; rw [Sy_length] at this; omega
  have HPU : Hid (Calls Try.prog 80 #[.pointer (some ⟨b, 0, none⟩), .iface 56 (spV s)] w fun e w' => (∃ u, e = .returned u) ∧ ∃ g cap, Hid (PlAt w' base b g n1 cap (H ++ [s]) ∧ Only (fun k => k = b ∨ v.ownBlock = some k) w w' ∧ (v.ownBlock = some g ∨ w.heap.size ≤ g))) := Hid.mk ((ppush_any w base b v n H s hb h hbb hgb (by omega)).mono (by
    rintro e w' ⟨hu, v', H2⟩
    obtain ⟨q1, q2, q3, q4, q5⟩ := H2.out
    obtain ⟨g, cap, rfl, -, -, -, -⟩ := owns_spots q2 (by omega)
    refine ⟨hu, g, cap, Hid.mk ⟨⟨by rw [e1]; exact q1, by rw [e1]; exact q2, fun e => q3 (by rw [← e]; rfl)⟩, q4, q5 g rfl⟩⟩))
  have HUP : Hid (∀ W g cap, PlAt W base b g n1 cap (H ++ [s]) → Calls Try.prog 38 #[.iface 54 (.pointer (some ⟨b, 0, none⟩)), .int .i64 n] W fun e w' => (∃ u, e = .returned u) ∧ ∃ H', Hid (PlAt w' base b g n1 cap H' ∧ H'.Perm (H ++ [s]) ∧ HeapF (rkF H') n1 ∧ Only (fun k => k = g) W w')) := Hid.mk (fun W g cap hW => up_any W base b g n1 cap (H ++ [s]) hW n (by omega) (by omega) (by rw [e1]; exact up_start (heap_snoc s hl hh)))
  have u1 : IntKind.i64.wrap ((n1 : Int) - 1) = (n : Int) := by rw [IntKind.wrap_i64]; omega
  have hmp := m_push w b
  clear h hb hbb hgb hn hh hl e1
  go_enter Try.func27, Try.ntmps27
  go_wp2_with (go_at_call 80; refine HPU.out.mono ?_; rintro e w1 ⟨⟨u, rfl⟩, g, cap, H1⟩; clear HPU hmp; have hml := m_len w1 b _ n1 cap H1.out.1.cell; have HU1 := Hid.mk (HUP.out w1 g cap H1.out.1); clear HUP)
  go_wp2_with (go_at_call 76; refine (len_any w1 _ n1 cap).mono ?_; rintro e w2 ⟨rfl, hw2⟩; have hw2' := hw2.symm; clear hw2; subst hw2')
  go_wp2_with (go_at_call 38; refine HU1.out.mono ?_; rintro e w2 ⟨⟨u, rfl⟩, H', H2⟩; clear HU1 hml)
  go_end0
  exact ⟨⟨_, rfl⟩, g, cap, H', Hid.mk ⟨H2.out.1, H2.out.2.1, H2.out.2.2.1, H1.out.2.1.trans H2.out.2.2.2 (fun k e => by
    have e : k = g := e
    subst e
    exact H1.out.2.2.elim (fun q => .inl (.inr q)) .inr), H1.out.2.2⟩⟩
end Go.Proofs.Ytjljklfahmjngaa
