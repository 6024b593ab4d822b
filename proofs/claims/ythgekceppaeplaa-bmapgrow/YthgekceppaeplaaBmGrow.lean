/-
  BmapGrow: its walk.
-/
import Derived.Test.YthgekceppaeplaaBmMetaLaw
namespace Go.Proofs.Ythgekceppaeplaa
open Go Go.Proofs Go.RowKit Go.Shelf

/-- 'append(l, i)', with the one-cell row that is made for it. -/
theorem appendi_one (W : World) (B : Nat) (v : Value) (n : Nat) (xs : List Int) (hown : W.ownsRow B 3 1 v n (Iy xs)) (hB : B ≤ W.heap.size) (x : Int) (hn : n + 1 ≤ 16777216) :
    ∃ v' W', (Builtin.append_ #[29, 29] 29 #[v, .slice (some ⟨W.heap.size, 0, none⟩) 1 1]).run Try.prog (W.alloc (.cells #[.int .i64 x] 3)) = .ok v' W' ∧ W'.ownsRow B 3 1 v' (n + 1) (Iy (xs ++ [x])) ∧ Below B W W' := by
  have h1 : (W.alloc (.cells #[.int .i64 x] 3)).ownsRow B 3 1 v n (Iy xs) := hown.alloc _
  obtain ⟨v', W', hr, h2, h3⟩ := appendi_run (W.alloc (.cells #[.int .i64 x] 3)) B v n xs h1 (by simp; omega) ⟨W.heap.size, 0, none⟩ 1 1 [x] (lat_newi W [x]) hn
  exact ⟨v', W', hr, h2, ((Below.refl B W).alloc hB _).trans h3⟩
theorem upto_length (n : Nat) : (upto n).length = n := by simp [upto]

set_option maxRecDepth 100000 in
set_option maxHeartbeats 4000000 in
theorem grow_any (w : World) (nI : Int) : Calls Try.prog 7 #[.int .i64 nI] w fun e w' => e = .returned (.bool true) ∧ Below w.heap.size w w' := by
  have HA := Hid.mk (alive_any w)
  by_cases h0 : nI < 0
  · go_enter Try.func7, Try.ntmps7
    go_wp2_with (go_at_call 8; refine HA.out.mono ?_; rintro e W0 ⟨rfl, hw⟩; have HB := Hid.mk hw; clear hw)
    go_ret
    exact ⟨rfl, HB.out⟩
  · by_cases h1 : 3000 < nI
    · go_enter Try.func7, Try.ntmps7
      go_wp2_with (go_at_call 8; refine HA.out.mono ?_; rintro e W0 ⟨rfl, hw⟩; have HB := Hid.mk hw; clear hw)
      go_ret
      exact ⟨rfl, HB.out⟩
    · obtain ⟨n, rfl⟩ : ∃ n : Nat, nI = n := ⟨nI.toNat, by omega⟩
      have hn : n ≤ 3000 := by omega
      have HN := Hid.mk hn
      clear hn
      have h0' : (0 : Int) ≤ n := by omega
      have h1' : (n : Int) ≤ 3000 := by omega
      obtain ⟨B, hB⟩ : ∃ B, w.heap.size = B := ⟨_, rfl⟩
      rw [hB] at HA
      have HBB := Hid.mk hB
      clear hB
      go_enter Try.func7, Try.ntmps7
      go_wp2_with (go_at_call 8; refine HA.out.mono ?_; rintro e W0 ⟨rfl, hw⟩; have HB := Hid.mk hw; clear hw)
      go_loopw [4, 5] (fun v i wr => ∃ k : Nat, k ≤ n ∧ i = .int .i64 k ∧ wr.ownsRow B 3 1 v k (Iy (upto k)) ∧ Below B w wr ∧ B ≤ wr.heap.size) (fun _ i _ => n - (intOf i).toNat)
      case atStart => exact ⟨0, by omega, rfl, World.ownsRow_nil _ _ _ _, HB.out, by have h1 := HB.out.size; have h2 := HBB.out; omega⟩
      case round =>
        obtain ⟨k, hk, rfl, hown, hbl, hsz⟩ := hrel
        have HO := Hid.mk hown
        have HB1 := Hid.mk hbl
        have HZ := Hid.mk hsz
        clear hown hbl hsz
        by_cases hlt : k < n
        · have hi : (k : Int) < n := by omega
          have hw1 : IntKind.i64.wrap ((k : Int) + 1) = (k : Int) + 1 := by rw [IntKind.wrap_i64]; omega
          obtain ⟨v', W1, hr, ho1, hb1⟩ := appendi_one wr B u4 k (upto k) HO.out HZ.out k (by have := HN.out; omega)
          rw [← upto_succ] at ho1
          have HR := Hid.mk hr
          have HO1 := Hid.mk ho1
          have HB2 := Hid.mk (HB1.out.trans hb1)
          have HZ1 := Hid.mk (Nat.le_trans HZ.out hb1.size)
          clear hr ho1 hb1
          go_wp2_with (at_builtin; refine wpList_append_known rfl _ _ _ rfl _ _ _ _ rfl rfl HR.out ?_; simp only [Act.put, List.setIfInBounds_toArray, List.set_cons_zero, List.set_cons_succ])
          go_roundw
          case rel => exact ⟨k + 1, by omega, by go_num, HO1.out, HB2.out, HZ1.out⟩
          case measure => simp [intOf]; omega
        · have hi : ¬ (k : Int) < n := by omega
          have hi2 : (n : Int) ≤ k := by omega
          obtain rfl : k = n := by omega
          have hk3 := HN.out
          obtain ⟨ao, d, ev, hl, _⟩ := owns_LAt2 HO.out
          subst ev
          have HL := Hid.mk hl
          clear hl
          have HM := Hid.mk (mt_upto k (by omega))
          have HC := Hid.mk (fun W => count_any W ((k : Int) * 1024))
          have HD := Hid.mk (fun W => count_any W ((k : Int) * 1024 + 1))
          rw [show cnI ((k : Int) * 1024) = k by unfold cnI; rw [if_pos (by omega)]; omega] at HC
          rw [show cnI ((k : Int) * 1024 + 1) = k + 1 by unfold cnI; rw [if_pos (by omega)]; omega] at HD
          have hw1 : IntKind.i64.wrap ((k : Int) + 1) = (k : Int) + 1 := by rw [IntKind.wrap_i64]; omega
          have hw2 : IntKind.i64.wrap ((k : Int) * 1024) = (k : Int) * 1024 := by rw [IntKind.wrap_i64]; omega
          have hw3 : IntKind.i64.wrap ((k : Int) * 1024 + 1) = (k : Int) * 1024 + 1 := by rw [IntKind.wrap_i64]; omega
          by_cases g1 : 264 < k
          · have g1' : (264 : Int) < k := by omega
            have g2' : (8 : Int) < k := by omega
            rw [if_pos g1] at HM
            have HM2 : Hid ((mtN (upto k) : Int) = 2 + ((k : Int) - 264 + 255) / 256) := Hid.mk (by rw [HM.out]; omega)
            clear HM
            have hw4 : IntKind.i64.wrap ((k : Int) - 264) = (k : Int) - 264 := by rw [IntKind.wrap_i64]; omega
            have hw5 : IntKind.i64.wrap ((k : Int) - 264 + 255) = (k : Int) - 264 + 255 := by rw [IntKind.wrap_i64]; omega
            have hd : Int.tdiv ((k : Int) - 264 + 255) 256 = ((k : Int) - 264 + 255) / 256 := by rw [Int.tdiv_eq_ediv_of_nonneg (by omega)]
            have hw6 : IntKind.i64.wrap (((k : Int) - 264 + 255) / 256) = ((k : Int) - 264 + 255) / 256 := by rw [IntKind.wrap_i64]; omega
            have hw7 : IntKind.i64.wrap (2 + ((k : Int) - 264 + 255) / 256) = 2 + ((k : Int) - 264 + 255) / 256 := by rw [IntKind.wrap_i64]; omega
            go_wp2_with (first
              | (go_at_call 15; refine (meta_any _ _ _ _ (upto k) HL.out (by omega)).mono ?_; rintro e W2 ⟨rfl, hw⟩; rw [HM2.out]; have HB2 := Hid.mk (HB1.out.trans (hw.mono HZ.out)); clear hw)
              | (have hc := HC; go_at_call 13; refine (hc.out _).mono ?_; clear hc HC; rintro e w'' ⟨rfl, hw⟩; subst w'')
              | (go_at_call 13; refine (HD.out _).mono ?_; rintro e w'' ⟨rfl, hw⟩; subst w''))
            go_ret
            exact ⟨rfl, by rw [HBB.out]; exact HB2.out⟩
          · have g1' : ¬ (264 : Int) < k := by omega
            rw [if_neg g1] at HM
            by_cases g2 : 8 < k
            · have g2' : (8 : Int) < k := by omega
              rw [if_pos g2] at HM
              go_wp2_with (first
                | (go_at_call 15; refine (meta_any _ _ _ _ (upto k) HL.out (by omega)).mono ?_; rintro e W2 ⟨rfl, hw⟩; rw [HM.out]; have HB2 := Hid.mk (HB1.out.trans (hw.mono HZ.out)); clear hw)
                | (have hc := HC; go_at_call 13; refine (hc.out _).mono ?_; clear hc HC; rintro e w'' ⟨rfl, hw⟩; subst w'')
                | (go_at_call 13; refine (HD.out _).mono ?_; rintro e w'' ⟨rfl, hw⟩; subst w''))
              go_ret
              exact ⟨rfl, by rw [HBB.out]; exact HB2.out⟩
            · have g2' : ¬ (8 : Int) < k := by omega
              rw [if_neg g2] at HM
              go_wp2_with (first
                | (go_at_call 15; refine (meta_any _ _ _ _ (upto k) HL.out (by omega)).mono ?_; rintro e W2 ⟨rfl, hw⟩; rw [HM.out]; have HB2 := Hid.mk (HB1.out.trans (hw.mono HZ.out)); clear hw)
                | (have hc := HC; go_at_call 13; refine (hc.out _).mono ?_; clear hc HC; rintro e w'' ⟨rfl, hw⟩; subst w'')
                | (go_at_call 13; refine (HD.out _).mono ?_; rintro e w'' ⟨rfl, hw⟩; subst w''))
              go_ret
              exact ⟨rfl, by rw [HBB.out]; exact HB2.out⟩
end Go.Proofs.Ythgekceppaeplaa
