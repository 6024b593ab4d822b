/-
  A heap's change goes down: container/heap's down.
-/
import Derived.Test.YtjljklfahmjngaaPaUp0
import Derived.Deep.Cut
import Derived.Deep.CutRange
import Derived.Deep.CutBlock
namespace Go.Proofs.Ytjljklfahmjngaa
open Go Go.Proofs Go.RowKit Go.Shelf
attribute [local go_sem] Oper.semAt_some
theorem child {k i : Nat} (h0 : 0 < k) (h : (k - 1) / 2 = i) : k = 2 * i + 1 ∨ k = 2 * i + 2 := by omega
set_option maxRecDepth 100000 in
set_option maxHeartbeats 4000000 in
theorem down_any (w : World) (base b g m n cap : Nat) (H : List (Int × Pt)) (h : PlAt w base b g m cap H) (hnm : n ≤ m) (hm : m ≤ 1000) (hu : DownF (rkF H) n 0) :
    Calls Try.prog 43 #[.iface 54 (.pointer (some ⟨b, 0, none⟩)), .int .i64 0, .int .i64 n] w fun e w' => (∃ u, e = .returned u) ∧ ∃ H', Hid (PlAt w' base b g m cap H' ∧ H'.Perm H ∧ (∀ k, n ≤ k → H'.getD k noS = H.getD k noS) ∧ HeapF (rkF H') n ∧ Only (fun k => k = g) w w') := by
  have HA := Hid.mk h
  have HU := Hid.mk hu
  have HN := Hid.mk (And.intro hnm hm)
  clear h hu hnm hm
  go_enter Try.func43, Try.ntmps43
  go_wp2
  go_loopw [7, 8, 9, 10] (fun iv _ _ _ wr => ∃ i : Nat, iv = .int .i64 i ∧ Hid ((i < n ∨ n = 0 ∧ i = 0) ∧ ∃ H', PlAt wr base b g m cap H' ∧ H'.Perm H ∧ (∀ k, n ≤ k → H'.getD k noS = H.getD k noS) ∧ DownF (rkF H') n i ∧ Only (fun k => k = g) w wr)) (fun iv _ _ _ _ => n - (Go.RowKit.intOf iv).toNat)
  case atStart => exact ⟨0, rfl, Hid.mk ⟨by omega, H, HA.out, List.Perm.refl _, fun _ _ => rfl, HU.out, Only.refl _ _⟩⟩
  case round =>
    obtain ⟨i, rfl, HI⟩ := hrel
    clear HA HU
    obtain ⟨hin, H1, h1, hp1, hk1, hu1, ho1⟩ := HI.out
    have hc := h1.cell
    have HP1 := Hid.mk hp1
    have HK1 := Hid.mk hk1
    have HO1 := Hid.mk ho1
    have HU1 := Hid.mk hu1
    have HL1 := Hid.mk h1
    have HIN := Hid.mk hin
    have hle : i ≤ n := by omega
    have u1 : IntKind.i64.wrap (2 * (i : Int)) = 2 * (i : Int) := by have := HN.out; rw [IntKind.wrap_i64]; omega
    have u2 : IntKind.i64.wrap (2 * (i : Int) + 1) = ((2 * i + 1 : Nat) : Int) := by have := HN.out; rw [IntKind.wrap_i64]; omega
    have u3 : IntKind.i64.wrap (((2 * i + 1 : Nat) : Int) + 1) = ((2 * i + 2 : Nat) : Int) := by have := HN.out; rw [IntKind.wrap_i64]; omega
    clear HI h1 hp1 hk1 hu1 ho1 hin hle
    obtain ⟨j1, hj1⟩ : ∃ j, j = 2 * i + 1 := ⟨_, rfl⟩
    obtain ⟨j2, hj2⟩ : ∃ j, j = 2 * i + 2 := ⟨_, rfl⟩
    rw [← hj1] at u2 u3
    rw [← hj2] at u3
    have HJ := Hid.mk (And.intro hj1 hj2)
    clear hj1 hj2
    by_cases hlt : (n : Int) ≤ (j1 : Int)
    · have hd1 : decide ((n : Int) ≤ (j1 : Int)) = true := decide_eq_true hlt
      have hd2 : decide (n ≤ j1) = true := decide_eq_true (by omega)
      have HF : Hid (PlAt wr base b g m cap H1 ∧ H1.Perm H ∧ (∀ k, n ≤ k → H1.getD k noS = H.getD k noS) ∧ HeapF (rkF H1) n ∧ Only (fun k => k = g) w wr) := Hid.mk ⟨HL1.out, HP1.out, HK1.out, down_stop HU1.out (fun k h0 hkn hk => by have := child h0 hk; have := HJ.out; omega), HO1.out⟩
      clear HL1 HP1 HU1 HO1 HK1
      go_wp2
      go_ret
      exact ⟨⟨_, rfl⟩, _, HF⟩
    · have hd1 : decide ((n : Int) ≤ (j1 : Int)) = false := decide_eq_false hlt
      have hd2 : decide (n ≤ j1) = false := decide_eq_false (by omega)
      have HLT : Hid (j1 < n) := Hid.mk (by omega)
      have hneg : ¬ (j1 : Int) < 0 := by omega
      have hneg2 : decide ((j1 : Int) < 0) = false := decide_eq_false hneg
      have hml := m_less wr b _ m cap hc
      have HML : Hid (∀ W, (∃ q, W = wr.drewN q) → (method 216 54 (.pointer (some ⟨b, 0, none⟩)) "Less").run Try.prog W = .ok (77, .slice (some ⟨g, 0, none⟩) m cap) W ∧ (method 216 54 (.pointer (some ⟨b, 0, none⟩)) "Swap").run Try.prog W = .ok (78, .slice (some ⟨g, 0, none⟩) m cap) W) := Hid.mk (fun W h => by
        obtain ⟨q, rfl⟩ := h
        exact ⟨m_less _ b _ m cap (HL1.out.drewN q).cell, m_swap _ b _ m cap (HL1.out.drewN q).cell⟩)
      have HLA : Hid (∀ W, (∃ q, W = wr.drewN q) → PlAt W base b g m cap H1 ∧ Only (fun k => k = g) w W) := Hid.mk (fun W h => by
        obtain ⟨q, rfl⟩ := h
        exact ⟨HL1.out.drewN q, HO1.out.drewN q⟩)
      go_upto_region 6 with fail
      go_cut [33] from 25 to 33 (fun v W => ∃ t : Bool, v = .bool t ∧ Hid (t = decide (j2 < n ∧ rkF H1 j2 < rkF H1 j1) ∧ ∃ q, W = wr.drewN q))
      case first =>
        by_cases h2 : (j2 : Int) < (n : Int)
        · have hd3 : decide ((j2 : Int) < (n : Int)) = true := decide_eq_true h2
          have hd4 : decide (j2 < n) = true := decide_eq_true (by omega)
          have HLS := Hid.mk (HL1.out.less j2 j1 (by have := HN.out; omega) (by have := HN.out; have := HLT.out; omega))
          obtain ⟨t, ht⟩ : ∃ t : Bool, t = decide (rkF H1 j2 < rkF H1 j1) := ⟨_, rfl⟩
          rw [← ht] at HLS
          have HT := Hid.mk ht
          have H2 : Hid (j2 < n) := Hid.mk (by omega)
          clear ht
          go_wp2_with (go_at_call 77; refine HLS.out.mono ?_; rintro e w3 ⟨rfl, q, rfl⟩; clear HLS)
          go_meet
          case rel => exact ⟨t, rfl, Hid.mk ⟨by rw [HT.out, decide_eq_decide]; have := H2.out; simp [this], _, rfl⟩⟩
        · have hd3 : decide ((j2 : Int) < (n : Int)) = false := decide_eq_false h2
          have hd4 : decide (j2 < n) = false := decide_eq_false (by omega)
          have H2 : Hid (¬ j2 < n) := Hid.mk (by omega)
          go_wp2
          go_meet
          case rel => exact ⟨false, rfl, Hid.mk ⟨by have := H2.out; simp [this], 0, rfl⟩⟩
      case rest =>
      obtain ⟨t, rfl, HT⟩ := hcut
      clear hml hd1 hd2 hneg hneg2 hlt
      go_upto_if 33 with fail
      go_cut [9] from 34 to 34 (fun v W => ∃ j : Nat, v = .int .i64 j ∧ Hid ((j = j1 ∨ j = j2) ∧ j < n ∧ (∀ k, 0 < k → k < n → (k - 1) / 2 = i → rkF H1 j ≤ rkF H1 k) ∧ ∃ q, W = wr.drewN q))
      case first =>
        cases t with
        | true =>
          go_wp2
          go_meet
          case rel =>
            refine ⟨j2, rfl, Hid.mk ⟨.inr rfl, ?_, ?_, HT.out.2⟩⟩
            · exact (decide_eq_true_iff.1 HT.out.1.symm).1
            · intro k h0 hkn hk
              have q := (decide_eq_true_iff.1 HT.out.1.symm).2
              rcases child h0 hk with e | e
              · rw [e, ← HJ.out.1]; omega
              · rw [e, ← HJ.out.2]; exact Int.le_refl _
        | false =>
          go_wp2
          go_meet
          case rel =>
            refine ⟨j1, rfl, Hid.mk ⟨.inl rfl, HLT.out, ?_, HT.out.2⟩⟩
            intro k h0 hkn hk
            have q := decide_eq_false_iff_not.1 HT.out.1.symm
            rcases child h0 hk with e | e
            · rw [e, ← HJ.out.1]; exact Int.le_refl _
            · rw [e, ← HJ.out.2]
              have : j2 < n := by have := HJ.out.2; omega
              exact Int.not_lt.1 (fun h => q ⟨this, h⟩)
      case rest =>
      obtain ⟨j, rfl, HJJ⟩ := hcut
      obtain ⟨hja, hjn, hjm, hq⟩ := HJJ.out
      have hji : 0 < j ∧ (j - 1) / 2 = i ∧ i < j := by have := HJ.out; omega
      have HJN := Hid.mk (And.intro hjn (And.intro hji hjm))
      obtain ⟨hml, -⟩ := HML.out _ hq
      obtain ⟨hla, hoa⟩ := HLA.out _ hq
      have HLS := Hid.mk (hla.less j i (by have := HN.out; omega) (by have := HN.out; omega))
      have HQ := Hid.mk hq
      clear hja hjn hjm hji hq hla hoa HJJ HT
      by_cases hls : rkF H1 j < rkF H1 i
      · rw [decide_eq_true hls] at HLS
        have HSW : Hid (∀ q, Calls Try.prog 78 #[.slice (some ⟨g, 0, none⟩) m cap, .int .i64 i, .int .i64 j] (wc.drewN q) fun e w' => (∃ u, e = .returned u) ∧ Hid (j < n ∧ ∃ H', PlAt w' base b g m cap H' ∧ H'.Perm H ∧ (∀ k, n ≤ k → H'.getD k noS = H.getD k noS) ∧ DownF (rkF H') n j ∧ Only (fun k => k = g) w w')) := Hid.mk (fun q => by
          obtain ⟨h1, h2⟩ := HLA.out _ HQ.out
          obtain ⟨hjn, ⟨j0, jp, ji⟩, jm⟩ := HJN.out
          have hl := HL1.out.len
          have hn := HN.out
          refine ((h1.drewN q).swap i j (by omega) (by omega)).mono ?_
          rintro e w' ⟨hu, HS⟩
          refine ⟨hu, Hid.mk ⟨hjn, swL H1 i j, HS.out.1, (swL_perm H1 i j (by omega) (by omega)).trans HP1.out, fun k hk => ?_, ?_, (h2.drewN q).trans HS.out.2 (fun _ h => .inl h)⟩⟩
          · rw [← HK1.out k hk]
            unfold swL
            simp only [List.getD_eq_getElem?_getD]
            rw [List.getElem?_set_ne (by omega), List.getElem?_set_ne (by omega)]
          · rw [swL_rk H1 i j (by omega) (by omega)]
            exact down_step HU1.out j0 hjn jp jm hls)
        have HMS : Hid (∀ q, (method 216 54 (.pointer (some ⟨b, 0, none⟩)) "Swap").run Try.prog (wc.drewN q) = .ok (78, .slice (some ⟨g, 0, none⟩) m cap) (wc.drewN q)) := Hid.mk (fun q => m_swap _ b _ m cap ((HLA.out _ HQ.out).1.drewN q).cell)
        clear hls HML
        go_wp2_with (go_at_call 77; refine HLS.out.mono ?_; rintro e w3 ⟨rfl, q, rfl⟩; clear HLS hml; have hms := HMS.out q; have HSQ := Hid.mk (HSW.out q); clear HSW HMS)
        go_wp2_with (go_at_call 78; refine HSQ.out.mono ?_; rintro e w4 ⟨⟨u, rfl⟩, H4⟩; clear HSQ hms)
        have HNX : Hid ((j < n ∨ n = 0 ∧ j = 0) ∧ ∃ H', PlAt w4 base b g m cap H' ∧ H'.Perm H ∧ (∀ k, n ≤ k → H'.getD k noS = H.getD k noS) ∧ DownF (rkF H') n j ∧ Only (fun k => k = g) w w4) := Hid.mk ⟨.inl H4.out.1, H4.out.2⟩
        go_roundw
        case rel => exact ⟨j, rfl, HNX⟩
        case measure => (have := HJN.out; simp [Go.RowKit.intOf]; omega)
      · rw [decide_eq_false hls] at HLS
        have HF : Hid (∀ q, PlAt (wc.drewN q) base b g m cap H1 ∧ H1.Perm H ∧ (∀ k, n ≤ k → H1.getD k noS = H.getD k noS) ∧ HeapF (rkF H1) n ∧ Only (fun k => k = g) w (wc.drewN q)) := Hid.mk (fun q => by
          obtain ⟨h1, h2⟩ := HLA.out _ HQ.out
          refine ⟨h1.drewN q, HP1.out, HK1.out, down_stop HU1.out (fun k h0 hkn hk => ?_), h2.drewN q⟩
          have := HJN.out.2.2 k h0 hkn hk
          omega)
        clear hls HML
        go_wp2_with (go_at_call 77; refine HLS.out.mono ?_; rintro e w3 ⟨rfl, q, rfl⟩; clear HLS hml)
        go_ret
        exact ⟨⟨_, rfl⟩, _, Hid.mk (HF.out _)⟩
end Go.Proofs.Ytjljklfahmjngaa
