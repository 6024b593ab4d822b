/-
  EntryNames: how long a name may be, and which bytes it may have.
-/
import Derived.Test.YtpdekpdlmfnndaaAlive
namespace Go.Proofs.Ytpdekpdlmfnndaa
open Go Go.Proofs Go.RowKit Go.Shelf

/-- n bytes 'n'. -/
def enL (n : Nat) : List Int := List.replicate n 110
theorem enL_length (n : Nat) : (enL n).length = n := by simp [enL]
theorem en_step (n k : Nat) (h : k < n) : (enL k ++ zeros (n - k)).set k 110 = enL (k + 1) ++ zeros (n - (k + 1)) := by
  obtain ⟨m, rfl⟩ : ∃ m, n = k + 1 + m := ⟨n - (k + 1), by omega⟩
  have e1 : k + 1 + m - k = m + 1 := by omega
  have e2 : k + 1 + m - (k + 1) = m := by omega
  have e3 : enL (k + 1) = enL k ++ [110] := by simp [enL, List.replicate_succ']
  have e4 : zeros (m + 1) = 0 :: zeros m := rfl
  rw [e1, e2, e3, e4, List.set_append_right _ _ (by simp [enL])]
  simp [enL]
theorem en_bound (n : Nat) : ∀ x ∈ enL n, 0 ≤ x ∧ x ≤ 255 := by
  intro x hx
  have := List.eq_of_mem_replicate hx
  omega
theorem set_bound (xs : List Int) (h : ∀ x ∈ xs, 0 ≤ x ∧ x ≤ 255) (i : Nat) (y : Int) (hy : 0 ≤ y ∧ y ≤ 255) : ∀ x ∈ xs.set i y, 0 ≤ x ∧ x ≤ 255 := by
  intro x hx
  rcases List.mem_or_eq_of_mem_set hx with h' | h'
  · exact h x h'
  · rw [h']; exact hy
theorem en_name (n : Nat) : nameB (enL n) = decide (1 ≤ n ∧ n ≤ 27) := by
  unfold nameB
  rw [enL_length]
  congr 1
  rw [eq_iff_iff]
  refine ⟨fun h => ⟨h.1, h.2.1⟩, fun h => ⟨h.1, h.2, fun hm => ?_, fun hm => ?_⟩⟩
  · have := List.eq_of_mem_replicate hm; omega
  · have := List.eq_of_mem_replicate hm; omega
theorem en_set_name (n k : Nat) (c : Int) (hk : k < n) : nameB ((enL n).set k c) = (decide (1 ≤ n ∧ n ≤ 27) && (decide (c ≠ 0) && decide (c ≠ 47))) := by
  unfold nameB
  rw [List.length_set, enL_length, ← Bool.decide_and, ← Bool.decide_and]
  congr 1
  rw [eq_iff_iff]
  have hm : c ∈ (enL n).set k c := List.mem_set (by rw [enL_length]; exact hk) c
  have ho : ∀ d : Int, d ≠ 110 → d ∈ (enL n).set k c → d = c := by
    intro d hd hmem
    rcases List.mem_or_eq_of_mem_set hmem with h | h
    · exact absurd (List.eq_of_mem_replicate h) hd
    · exact h
  constructor
  · rintro ⟨h1, h2, h3, h4⟩
    refine ⟨⟨h1, h2⟩, fun e => ?_, fun e => ?_⟩
    · subst e; exact h3 hm
    · subst e; exact h4 hm
  · rintro ⟨⟨h1, h2⟩, h3, h4⟩
    exact ⟨h1, h2, fun h => h3 (ho 0 (by decide) h).symm, fun h => h4 (ho 47 (by decide) h).symm⟩
theorem is9 (l : List Int) : isB 9 l = nameB l := by
  rw [isB_some (by decide)]
  have : fitB 4294967295 9 = true := by decide
  rw [this]
  rfl
theorem str_size (xs : List Int) : (strOfNums xs).size = xs.length := by simp [strOfNums, ByteArray.size]

set_option maxHeartbeats 4000000 in
theorem names_any (w : World) (m at_ c : Int) (hc : 0 ≤ c ∧ c ≤ 255) : Calls Try.prog 7 #[.int .i64 m, .int .i64 at_, .int .u8 c] w fun e w' => e = .returned (.bool true) ∧ Below w.heap.size w w' := by
  by_cases h1 : m < 0
  · go_enter Try.func7, Try.ntmps7
    go_wp2_with (go_at_call 8; refine (alive_any _).mono ?_; rintro e W1 ⟨rfl, hB⟩; have HB := Hid.mk hB; clear hB)
    go_ret
    exact ⟨rfl, HB.out⟩
  by_cases h2 : 60 < m
  · go_enter Try.func7, Try.ntmps7
    go_wp2_with (go_at_call 8; refine (alive_any _).mono ?_; rintro e W1 ⟨rfl, hB⟩; have HB := Hid.mk hB; clear hB)
    go_ret
    exact ⟨rfl, HB.out⟩
  by_cases h3 : at_ < 0
  · go_enter Try.func7, Try.ntmps7
    go_wp2_with (go_at_call 8; refine (alive_any _).mono ?_; rintro e W1 ⟨rfl, hB⟩; have HB := Hid.mk hB; clear hB)
    go_ret
    exact ⟨rfl, HB.out⟩
  by_cases h4 : 60 ≤ at_
  · go_enter Try.func7, Try.ntmps7
    go_wp2_with (go_at_call 8; refine (alive_any _).mono ?_; rintro e W1 ⟨rfl, hB⟩; have HB := Hid.mk hB; clear hB)
    go_ret
    exact ⟨rfl, HB.out⟩
  obtain ⟨n, rfl⟩ : ∃ n : Nat, m = n := ⟨m.toNat, by omega⟩
  obtain ⟨k, rfl⟩ : ∃ k : Nat, at_ = k := ⟨at_.toNat, by omega⟩
  have hn : n ≤ 60 := by omega
  have hk : k < 60 := by omega
  clear h1 h2 h3 h4
  go_enter Try.func7, Try.ntmps7
  go_upto_region 4 with (go_at_call 8; refine (alive_any _).mono ?_; rintro e W1 ⟨rfl, hB⟩; have HB := Hid.mk hB; clear hB)
  obtain ⟨g, hg⟩ : ∃ g, g = W1.heap.size := ⟨_, rfl⟩
  obtain ⟨W2, hW2⟩ : ∃ W2, W2 = W1.alloc (.cells (By (zeros n)).toArray 5) := ⟨_, rfl⟩
  have hMK := make_run W1 n (by omega)
  rw [← hg] at hMK
  change _ = Result.ok _ (W1.alloc (.cells (By (zeros n)).toArray 5)) at hMK
  rw [← hW2] at hMK
  have hR2 : RAt W2 g (zeros n) := by rw [hW2, hg]; exact blk_new _ _
  have hB2 : Below w.heap.size w W2 := by rw [hW2]; exact HB.out.alloc HB.out.size _
  have HGE : Hid (w.heap.size ≤ g) := Hid.mk (by rw [hg]; exact HB.out.size)
  have HMK := Hid.mk hMK
  have HR2 := Hid.mk hR2
  have HB2 := Hid.mk hB2
  clear hMK hR2 hB2 hW2 hg HB
  go_wp2_with (at_make; refine wpList_make_known rfl _ _ 27 rfl _ _ _ _ rfl rfl HMK.out ?_)
  go_loopw [9] (fun i wr => ∃ j : Nat, j ≤ n ∧ i = .int .i64 j ∧ RAt wr g (enL j ++ zeros (n - j)) ∧ Below w.heap.size w wr) (fun i _ => n - (intOf i).toNat)
  case atStart => exact ⟨0, by omega, rfl, by simpa [enL] using HR2.out, HB2.out⟩
  case round =>
    obtain ⟨j, hj, rfl, hr, hb⟩ := hrel
    by_cases hlt : j < n
    · obtain ⟨hc1, hc2⟩ := hr.cell j (by simp [enL_length, zeros_length]; omega)
      generalize (enL j ++ zeros (n - j)).getD j 0 = old at hc1
      have HR := Hid.mk hr
      have HB := Hid.mk hb
      clear hr hb
      go_wp2
      go_roundw
      case rel =>
        refine ⟨j + 1, by omega, by go_num, ?_, HB.out.setCell (p := ⟨g, j, none⟩) HGE.out _⟩
        unfold RAt
        rw [blk_set HR.out, By_setArr, en_step n j hlt]
      case measure => simp [intOf]; omega
    · have hge : (n : Int) ≤ j := by omega
      obtain rfl : j = n := by omega
      have hrn : RAt wr g (enL j) := by simpa [zeros] using hr
      have HR5 := Hid.mk hrn
      have HB5 := Hid.mk hb
      clear hr hb hrn HR2 HB2 HMK
      by_cases hkn : k < j
      · -- a byte is turned
        obtain ⟨hc1, hc2⟩ := HR5.out.cell k (by rw [enL_length]; exact hkn)
        generalize (enL j).getD k 0 = old at hc1
        obtain ⟨xs, hxs⟩ : ∃ xs, xs = (enL j).set k c := ⟨_, rfl⟩
        have HR6 : Hid (RAt (wr.setCell ⟨g, k, none⟩ (.int .u8 c)) g xs) := Hid.mk (by
          unfold RAt
          rw [blk_set HR5.out, By_setArr, hxs])
        have HB6 : Hid (Below w.heap.size w (wr.setCell ⟨g, k, none⟩ (.int .u8 c))) := Hid.mk (HB5.out.setCell (p := ⟨g, k, none⟩) HGE.out _)
        have hlen : xs.length = j := by rw [hxs, List.length_set, enL_length]
        have hbd : ∀ x ∈ xs, 0 ≤ x ∧ x ≤ 255 := by rw [hxs]; exact set_bound _ (en_bound j) _ _ hc
        have hnb := en_set_name j k c hkn
        rw [← hxs] at hnb
        obtain ⟨S, hS⟩ : ∃ S, S = strOfNums xs := ⟨_, rfl⟩
        have HSE := Hid.mk hS
        have HSZ : Hid (S.size = j) := Hid.mk (by rw [hS, str_size, hlen])
        have HFU : Hid (∀ W, RAt W g xs → BAt W (some ⟨g, 0, none⟩) j xs) := Hid.mk (fun W h => h.full hlen)
        have hnm : nm S = xs := by rw [hS, nm_str _ hbd]
        clear hS hxs hlen hbd
        by_cases hj1 : 1 ≤ j ∧ j ≤ 27
        · obtain ⟨hj1, hj2⟩ := hj1
          by_cases hz : c = 0
          · subst hz
            have HNM : Hid (nameB (nm S) = false) := Hid.mk (by rw [hnm, hnb]; simp)
            have HIS : Hid (isB 9 (nm S) = false) := Hid.mk (by rw [is9]; exact HNM.out)
            clear hnb hnm
            go_wp2_with (first
              | (refine wpL_conv (.tmp 66) rfl rfl (some ⟨g, 0, none⟩) j j xs rfl (HFU.out _ HR6.out) S HSE.out ?_)
              | (refine wpL_buildtwo _ _ rfl rfl 9 S rfl rfl ?_)
              | (go_at_call 12; refine (pack_no _ 9 S (by rw [HSZ.out]; omega) (by rw [HIS.out])).mono ?_; rintro e W7 ⟨rfl, hB7⟩; have HB7 := Hid.mk hB7; clear hB7; have HR7 := Hid.mk (HR6.out.below HB7.out HR6.out.lt))
              | (refine wpL_conv (.tmp 72) rfl rfl (some ⟨g, 0, none⟩) j j xs rfl (HFU.out _ HR7.out) S HSE.out ?_)
              | (go_at_call 14; refine (name_any _ S (by rw [HSZ.out]; omega)).mono ?_; rintro e w' ⟨rfl, hw⟩; subst w'; rw [HNM.out])
              | (go_at_call 10; refine (num_any _ _).mono ?_; rintro e w' ⟨rfl, hw⟩; subst w'))
            go_ret
            exact ⟨rfl, HB6.out.trans (HB7.out.mono (Nat.le_trans HGE.out (Nat.le_of_lt HR6.out.lt)))⟩
          · by_cases hs : c = 47
            · subst hs
              have HNM : Hid (nameB (nm S) = false) := Hid.mk (by rw [hnm, hnb]; simp)
              have HIS : Hid (isB 9 (nm S) = false) := Hid.mk (by rw [is9]; exact HNM.out)
              clear hnb hnm
              go_wp2_with (first
                | (refine wpL_conv (.tmp 66) rfl rfl (some ⟨g, 0, none⟩) j j xs rfl (HFU.out _ HR6.out) S HSE.out ?_)
                | (refine wpL_buildtwo _ _ rfl rfl 9 S rfl rfl ?_)
                | (go_at_call 12; refine (pack_no _ 9 S (by rw [HSZ.out]; omega) (by rw [HIS.out])).mono ?_; rintro e W7 ⟨rfl, hB7⟩; have HB7 := Hid.mk hB7; clear hB7; have HR7 := Hid.mk (HR6.out.below HB7.out HR6.out.lt))
                | (refine wpL_conv (.tmp 72) rfl rfl (some ⟨g, 0, none⟩) j j xs rfl (HFU.out _ HR7.out) S HSE.out ?_)
                | (go_at_call 14; refine (name_any _ S (by rw [HSZ.out]; omega)).mono ?_; rintro e w' ⟨rfl, hw⟩; subst w'; rw [HNM.out])
                | (go_at_call 10; refine (num_any _ _).mono ?_; rintro e w' ⟨rfl, hw⟩; subst w'))
              go_ret
              exact ⟨rfl, HB6.out.trans (HB7.out.mono (Nat.le_trans HGE.out (Nat.le_of_lt HR6.out.lt)))⟩
            · have HNM : Hid (nameB (nm S) = true) := Hid.mk (by rw [hnm, hnb]; simp [hj1, hj2, hz, hs])
              have HIS : Hid (isB 9 (nm S) = true) := Hid.mk (by rw [is9]; exact HNM.out)
              have hz1 : (c == 0) = false := by simp [hz]
              have hz2 : (c == 47) = false := by simp [hs]
              have hz3 : (c != 0) = true := by simp [hz]
              have hz4 : (c != 47) = true := by simp [hs]
              clear hnb hnm
              go_wp2_with (first
                | (refine wpL_conv (.tmp 66) rfl rfl (some ⟨g, 0, none⟩) j j xs rfl (HFU.out _ HR6.out) S HSE.out ?_)
                | (refine wpL_buildtwo _ _ rfl rfl 9 S rfl rfl ?_)
                | (go_at_call 12; refine (pack_yes _ 9 S (by rw [HIS.out])).mono ?_; rintro e W7 ⟨q, rfl, -, -, hB7⟩; have HB7 := Hid.mk hB7; clear hB7; have HR7 := Hid.mk (HR6.out.below HB7.out HR6.out.lt))
                | (refine wpL_conv (.tmp 72) rfl rfl (some ⟨g, 0, none⟩) j j xs rfl (HFU.out _ HR7.out) S HSE.out ?_)
                | (go_at_call 14; refine (name_any _ S (by rw [HSZ.out]; omega)).mono ?_; rintro e w' ⟨rfl, hw⟩; subst w'; rw [HNM.out])
                | (go_at_call 10; refine (num_any _ _).mono ?_; rintro e w' ⟨rfl, hw⟩; subst w'))
              go_ret
              exact ⟨rfl, HB6.out.trans (HB7.out.mono (Nat.le_trans HGE.out (Nat.le_of_lt HR6.out.lt)))⟩
        · have HNM : Hid (nameB (nm S) = false) := Hid.mk (by rw [hnm, hnb, decide_eq_false hj1]; rfl)
          have HIS : Hid (isB 9 (nm S) = false) := Hid.mk (by rw [is9]; exact HNM.out)
          have hj2 : 27 < j := by omega
          clear hnb hnm hj1
          go_wp2_with (first
            | (refine wpL_conv (.tmp 66) rfl rfl (some ⟨g, 0, none⟩) j j xs rfl (HFU.out _ HR6.out) S HSE.out ?_)
            | (refine wpL_buildtwo _ _ rfl rfl 9 S rfl rfl ?_)
            | (go_at_call 12; refine (pack_no _ 9 S (by rw [HSZ.out]; omega) (by rw [HIS.out])).mono ?_; rintro e W7 ⟨rfl, hB7⟩; have HB7 := Hid.mk hB7; clear hB7; have HR7 := Hid.mk (HR6.out.below HB7.out HR6.out.lt))
            | (refine wpL_conv (.tmp 72) rfl rfl (some ⟨g, 0, none⟩) j j xs rfl (HFU.out _ HR7.out) S HSE.out ?_)
            | (go_at_call 14; refine (name_any _ S (by rw [HSZ.out]; omega)).mono ?_; rintro e w' ⟨rfl, hw⟩; subst w'; rw [HNM.out])
            | (go_at_call 10; refine (num_any _ _).mono ?_; rintro e w' ⟨rfl, hw⟩; subst w'))
          go_ret
          exact ⟨rfl, HB6.out.trans (HB7.out.mono (Nat.le_trans HGE.out (Nat.le_of_lt HR6.out.lt)))⟩
      · obtain ⟨xs, hxs⟩ : ∃ xs, xs = enL j := ⟨_, rfl⟩
        have HR6 : Hid (RAt wr g xs) := Hid.mk (by rw [hxs]; exact HR5.out)
        have HB6 := HB5
        have hlen : xs.length = j := by rw [hxs, enL_length]
        have hbd : ∀ x ∈ xs, 0 ≤ x ∧ x ≤ 255 := by rw [hxs]; exact en_bound j
        have hnb := en_name j
        rw [← hxs] at hnb
        obtain ⟨S, hS⟩ : ∃ S, S = strOfNums xs := ⟨_, rfl⟩
        have HSE := Hid.mk hS
        have HSZ : Hid (S.size = j) := Hid.mk (by rw [hS, str_size, hlen])
        have HFU : Hid (∀ W, RAt W g xs → BAt W (some ⟨g, 0, none⟩) j xs) := Hid.mk (fun W h => h.full hlen)
        have hnm : nm S = xs := by rw [hS, nm_str _ hbd]
        clear hS hxs hlen hbd
        by_cases hj1 : 1 ≤ j ∧ j ≤ 27
        · have HNM : Hid (nameB (nm S) = true) := Hid.mk (by rw [hnm, hnb, decide_eq_true hj1])
          have HIS : Hid (isB 9 (nm S) = true) := Hid.mk (by rw [is9]; exact HNM.out)
          obtain ⟨hj1, hj2⟩ := hj1
          have hj5 : decide ((j : Int) ≤ 27) = true := decide_eq_true (by omega)
          clear hnb hnm
          go_wp2_with (first
            | (refine wpL_conv (.tmp 66) rfl rfl (some ⟨g, 0, none⟩) j j xs rfl (HFU.out _ HR6.out) S HSE.out ?_)
            | (refine wpL_buildtwo _ _ rfl rfl 9 S rfl rfl ?_)
            | (go_at_call 12; refine (pack_yes _ 9 S (by rw [HIS.out])).mono ?_; rintro e W7 ⟨q, rfl, -, -, hB7⟩; have HB7 := Hid.mk hB7; clear hB7; have HR7 := Hid.mk (HR6.out.below HB7.out HR6.out.lt))
            | (refine wpL_conv (.tmp 72) rfl rfl (some ⟨g, 0, none⟩) j j xs rfl (HFU.out _ HR7.out) S HSE.out ?_)
            | (go_at_call 14; refine (name_any _ S (by rw [HSZ.out]; omega)).mono ?_; rintro e w' ⟨rfl, hw⟩; subst w'; rw [HNM.out])
            | (go_at_call 10; refine (num_any _ _).mono ?_; rintro e w' ⟨rfl, hw⟩; subst w'))
          go_ret
          exact ⟨rfl, HB6.out.trans (HB7.out.mono (Nat.le_trans HGE.out (Nat.le_of_lt HR6.out.lt)))⟩
        · have HNM : Hid (nameB (nm S) = false) := Hid.mk (by rw [hnm, hnb, decide_eq_false hj1])
          have HIS : Hid (isB 9 (nm S) = false) := Hid.mk (by rw [is9]; exact HNM.out)
          clear hnb hnm
          by_cases hj2 : j = 0
          · have hj3 : (j : Int) < 1 := by omega
            clear hj2
            go_wp2_with (first
              | (refine wpL_conv (.tmp 66) rfl rfl (some ⟨g, 0, none⟩) j j xs rfl (HFU.out _ HR6.out) S HSE.out ?_)
              | (refine wpL_buildtwo _ _ rfl rfl 9 S rfl rfl ?_)
              | (go_at_call 12; refine (pack_no _ 9 S (by rw [HSZ.out]; omega) (by rw [HIS.out])).mono ?_; rintro e W7 ⟨rfl, hB7⟩; have HB7 := Hid.mk hB7; clear hB7; have HR7 := Hid.mk (HR6.out.below HB7.out HR6.out.lt))
              | (refine wpL_conv (.tmp 72) rfl rfl (some ⟨g, 0, none⟩) j j xs rfl (HFU.out _ HR7.out) S HSE.out ?_)
              | (go_at_call 14; refine (name_any _ S (by rw [HSZ.out]; omega)).mono ?_; rintro e w' ⟨rfl, hw⟩; subst w'; rw [HNM.out])
              | (go_at_call 10; refine (num_any _ _).mono ?_; rintro e w' ⟨rfl, hw⟩; subst w'))
            go_ret
            exact ⟨rfl, HB6.out.trans (HB7.out.mono (Nat.le_trans HGE.out (Nat.le_of_lt HR6.out.lt)))⟩
          · have hj3 : 1 ≤ j := by omega
            have hj4 : 27 < j := by omega
            have hj5 : decide ((j : Int) ≤ 27) = false := decide_eq_false (by omega)
            go_wp2_with (first
              | (refine wpL_conv (.tmp 66) rfl rfl (some ⟨g, 0, none⟩) j j xs rfl (HFU.out _ HR6.out) S HSE.out ?_)
              | (refine wpL_buildtwo _ _ rfl rfl 9 S rfl rfl ?_)
              | (go_at_call 12; refine (pack_no _ 9 S (by rw [HSZ.out]; omega) (by rw [HIS.out])).mono ?_; rintro e W7 ⟨rfl, hB7⟩; have HB7 := Hid.mk hB7; clear hB7; have HR7 := Hid.mk (HR6.out.below HB7.out HR6.out.lt))
              | (refine wpL_conv (.tmp 72) rfl rfl (some ⟨g, 0, none⟩) j j xs rfl (HFU.out _ HR7.out) S HSE.out ?_)
              | (go_at_call 14; refine (name_any _ S (by rw [HSZ.out]; omega)).mono ?_; rintro e w' ⟨rfl, hw⟩; subst w'; rw [HNM.out])
              | (go_at_call 10; refine (num_any _ _).mono ?_; rintro e w' ⟨rfl, hw⟩; subst w'))
            go_ret
            exact ⟨rfl, HB6.out.trans (HB7.out.mono (Nat.le_trans HGE.out (Nat.le_of_lt HR6.out.lt)))⟩
end Go.Proofs.Ytpdekpdlmfnndaa
