/-
  A heap's last change goes up: container/heap's up.
-/
import Derived.Test.YtjljklfahmjngaaPaHeapL
namespace Go.Proofs.Ytjljklfahmjngaa
open Go Go.Proofs Go.RowKit Go.Shelf
attribute [local go_sem] Oper.semAt_some
/-- The heap in the block b, its row in the block g. -/
def PlAt (W : World) (base b g n cap : Nat) (H : List (Int × Pt)) : Prop := W.heap[b]? = some (.cells #[.slice (some ⟨g, 0, none⟩) n cap] 47 (0, 0)) ∧ W.ownsRow base 56 4 (.slice (some ⟨g, 0, none⟩) n cap) n (Sy H) ∧ g ≠ b
theorem PlAt.len {W : World} {base b g n cap : Nat} {H : List (Int × Pt)} (h : PlAt W base b g n cap H) : H.length = n := by
  have := h.2.1.1
  rw [Sy_length] at this
  omega
theorem PlAt.cell {W : World} {base b g n cap : Nat} {H : List (Int × Pt)} (h : PlAt W base b g n cap H) : W.cell? ⟨b, 0, none⟩ = some (.slice (some ⟨g, 0, none⟩) n cap) := by rw [blk_cell h.1]; rfl
theorem PlAt.drewN {W : World} {base b g n cap : Nat} {H : List (Int × Pt)} (h : PlAt W base b g n cap H) (q : Nat) : PlAt (W.drewN q) base b g n cap H := h
theorem PlAt.less {W : World} {base b g n cap : Nat} {H : List (Int × Pt)} (h : PlAt W base b g n cap H) (i j : Nat) (hi : i < n) (hj : j < n) : Calls Try.prog 77 #[.slice (some ⟨g, 0, none⟩) n cap, .int .i64 i, .int .i64 j] W fun e w' => e = .returned (.bool (decide (rkF H i < rkF H j))) ∧ ∃ q, w' = W.drewN q := less_any W base _ n H h.2.1 i j hi hj
theorem PlAt.swap {W : World} {base b g n cap : Nat} {H : List (Int × Pt)} (h : PlAt W base b g n cap H) (i j : Nat) (hi : i < n) (hj : j < n) : Calls Try.prog 78 #[.slice (some ⟨g, 0, none⟩) n cap, .int .i64 i, .int .i64 j] W fun e w' => (∃ u, e = .returned u) ∧ Hid (PlAt w' base b g n cap (swL H i j) ∧ Only (fun k => k = g) W w') :=
  (swap_any W base g n cap H i j h.2.1 hi hj).mono (fun _ _ h' => ⟨h'.1, Hid.mk ⟨⟨(h'.2.out.2.block b (lt_of_block h.1) (fun e => h.2.2 e.symm)).trans h.1, h'.2.out.1, h.2.2⟩, h'.2.out.2⟩⟩)
set_option maxRecDepth 100000 in
set_option maxHeartbeats 2000000 in
theorem up_any (w : World) (base b g n cap : Nat) (H : List (Int × Pt)) (h : PlAt w base b g n cap H) (j : Nat) (hj : j < n) (hn : n ≤ 1000) (hu : UpF (rkF H) n j) :
    Calls Try.prog 38 #[.iface 54 (.pointer (some ⟨b, 0, none⟩)), .int .i64 j] w fun e w' => (∃ u, e = .returned u) ∧ ∃ H', Hid (PlAt w' base b g n cap H' ∧ H'.Perm H ∧ HeapF (rkF H') n ∧ Only (fun k => k = g) w w') := by
  have HA := Hid.mk h
  have HU := Hid.mk hu
  have HJ := Hid.mk hj
  have HN := Hid.mk hn
  clear h hu hj hn
  go_enter Try.func38, Try.ntmps38
  go_wp2
  go_loopw [1, 4] (fun jv _ wr => ∃ i : Nat, jv = .int .i64 i ∧ Hid (i < n ∧ ∃ H', PlAt wr base b g n cap H' ∧ H'.Perm H ∧ UpF (rkF H') n i ∧ Only (fun k => k = g) w wr)) (fun jv _ _ => (Go.RowKit.intOf jv).toNat)
  case atStart => exact ⟨j, rfl, Hid.mk ⟨HJ.out, H, HA.out, List.Perm.refl _, HU.out, Only.refl _ _⟩⟩
  case round =>
    obtain ⟨i, rfl, HI⟩ := hrel
    clear HA HU HJ
    obtain ⟨hin, H1, h1, hp1, hu1, ho1⟩ := HI.out
    have hc := h1.cell
    have HP1 := Hid.mk hp1
    have HO1 := Hid.mk ho1
    have HU1 := Hid.mk hu1
    have HL1 := Hid.mk h1
    have HIN := Hid.mk hin
    have u1 : IntKind.i64.wrap ((i : Int) - 1) = (i : Int) - 1 := by have := HN.out; rw [IntKind.wrap_i64]; omega
    clear HI h1 hp1 hu1 ho1 hin
    by_cases h0 : i = 0
    · subst h0
      have HF : Hid (PlAt wr base b g n cap H1 ∧ H1.Perm H ∧ HeapF (rkF H1) n ∧ Only (fun k => k = g) w wr) := Hid.mk ⟨HL1.out, HP1.out, up_stop HU1.out (.inl rfl), HO1.out⟩
      clear HL1 HP1 HU1 HO1
      go_wp2
      go_end0
      exact ⟨⟨_, rfl⟩, _, HF⟩
    · obtain ⟨p, hp⟩ : ∃ p, p = (i - 1) / 2 := ⟨_, rfl⟩
      have HPN : Hid (p < i) := Hid.mk (by omega)
      have HP := Hid.mk hp
      have u2 : IntKind.i64.wrap (Int.tdiv ((i : Int) - 1) 2) = (p : Int) := by
        have := HN.out
        have := HIN.out
        rw [show (i : Int) - 1 = ((i - 1 : Nat) : Int) by omega, Int.tdiv_eq_ediv_of_nonneg (by omega), IntKind.wrap_i64]
        omega
      have hne : ¬ (p : Int) = (i : Int) := by have := HPN.out; omega
      have HLS := Hid.mk (HL1.out.less i p HIN.out (by have := HPN.out; have := HIN.out; omega))
      clear hp
      have hml := m_less wr b _ n cap hc
      clear hc
      by_cases hlt : rkF H1 i < rkF H1 p
      · rw [decide_eq_true hlt] at HLS
        have HLT := Hid.mk hlt
        clear hlt
        go_wp2_with (go_at_call 77; refine HLS.out.mono ?_; rintro e w3 ⟨rfl, q, rfl⟩; clear HLS; have hms := m_swap (wr.drewN q) b _ n cap (HL1.out.drewN q).cell)
        have HSW := Hid.mk ((HL1.out.drewN q).swap p i (by have := HPN.out; have := HIN.out; omega) HIN.out)
        go_wp2_with (go_at_call 78; refine HSW.out.mono ?_; rintro e w4 ⟨⟨u, rfl⟩, H4⟩; clear HSW hms hml)
        have HNX : Hid (p < n ∧ ∃ H', PlAt w4 base b g n cap H' ∧ H'.Perm H ∧ UpF (rkF H') n p ∧ Only (fun k => k = g) w w4) := Hid.mk ⟨by have := HPN.out; have := HIN.out; omega, swL H1 p i, H4.out.1, (swL_perm H1 p i (by rw [HL1.out.len]; have := HPN.out; have := HIN.out; omega) (by rw [HL1.out.len]; exact HIN.out)).trans HP1.out, by
          have hpn := HPN.out
          have hin := HIN.out
          have hp := HP.out
          have hlt := HLT.out
          rw [swL_rk H1 p i (by rw [HL1.out.len]; omega) (by rw [HL1.out.len]; exact hin), hp]
          rw [hp] at hlt
          exact up_step HU1.out (by omega) hin hlt, (HO1.out.drewN q).trans H4.out.2 (fun _ h => .inl h)⟩
        clear H4 HL1 HP1 HU1 HO1 HLT
        go_roundw
        case rel => exact ⟨p, rfl, HNX⟩
        case measure => (have := HPN.out; simp [Go.RowKit.intOf]; omega)
      · rw [decide_eq_false hlt] at HLS
        have HF : Hid (∀ q, PlAt (wr.drewN q) base b g n cap H1 ∧ H1.Perm H ∧ HeapF (rkF H1) n ∧ Only (fun k => k = g) w (wr.drewN q)) := Hid.mk (fun q => ⟨HL1.out, HP1.out, up_stop HU1.out (.inr (by rw [← HP.out]; exact hlt)), HO1.out.drewN q⟩)
        clear hlt HL1 HP1 HU1 HO1
        go_wp2_with (go_at_call 77; refine HLS.out.mono ?_; rintro e w3 ⟨rfl, q, rfl⟩; clear HLS)
        go_end0
        exact ⟨⟨_, rfl⟩, _, Hid.mk (HF.out _)⟩
end Go.Proofs.Ytjljklfahmjngaa
