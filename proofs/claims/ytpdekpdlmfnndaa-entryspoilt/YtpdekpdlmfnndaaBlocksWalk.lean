/-
  EntryBlocks: the entries of any block, and the block of any entries.
-/
import Derived.Test.YtpdekpdlmfnndaaBlock
namespace Go.Proofs.Ytpdekpdlmfnndaa
open Go Go.Proofs Go.RowKit Go.Shelf

/-- The entries of these bytes, where they are a block. -/
def blkE (xs : List Int) : List (Int × ByteArray) := if xs.length = 1024 then entsL xs 32 else []
theorem blkE_len (xs : List Int) : (blkE xs).length ≤ 32 := by
  unfold blkE
  split
  · rw [entsL_length]; omega
  · simp
theorem block_any (w : World) (ao : Option Addr) (n c : Nat) (xs : List Int) (h : BAt w ao n xs) (hx : ∀ x ∈ xs, 0 ≤ x ∧ x ≤ 255) (hc : n ≤ c) (hc2 : c ≤ 9223372036854775807) : Calls Try.prog 11 #[.slice ao n c] w fun e w' => ∃ ap cp, e = .returned (.slice ap (blkE xs).length cp) ∧ EAt w' ap (blkE xs).length (blkE xs) ∧ Below w.heap.size w w' := by
  unfold blkE
  rw [h.1]
  by_cases hn : n = 1024
  · subst hn
    obtain ⟨a, rfl, -⟩ := h.at 0 (by omega)
    rw [if_pos rfl, entsL_length]
    refine (block_full w a c xs h hx hc hc2).mono ?_
    rintro e w' ⟨v, rfl, ho, hB⟩
    obtain ⟨ap, cp, rfl, hE, -⟩ := owns_EAt ho
    exact ⟨ap, cp, rfl, hE, hB⟩
  · rw [if_neg hn]
    refine (block_short w ao n c hn).mono ?_
    rintro e w' ⟨rfl, rfl⟩
    exact ⟨none, 0, rfl, EAt.nil _ _, Below.refl _ _⟩
theorem rents_any (w : World) (ao : Option Addr) (n c : Nat) (xs : List Int) (h : BAt w ao n xs) (hx : ∀ x ∈ xs, 0 ≤ x ∧ x ≤ 255) (hc : n ≤ c) (hc2 : c ≤ 9223372036854775807) : Calls Try.prog 18 #[.slice ao n c] w fun e w' => ∃ ap cp, e = .returned (.slice ap (blkE xs).length cp) ∧ EAt w' ap (blkE xs).length (blkE xs) ∧ Below w.heap.size w w' := by
  unfold blkE
  rw [h.1]
  by_cases hn : n = 1024
  · subst hn
    obtain ⟨a, rfl, -⟩ := h.at 0 (by omega)
    rw [if_pos rfl, entsL_length]
    refine (rents_full w a c xs h hx hc hc2).mono ?_
    rintro e w' ⟨v, rfl, ho, hB⟩
    obtain ⟨ap, cp, rfl, hE, -⟩ := owns_EAt ho
    exact ⟨ap, cp, rfl, hE, hB⟩
  · rw [if_neg hn]
    refine (rents_short w ao n c hn).mono ?_
    rintro e w' ⟨rfl, rfl⟩
    exact ⟨none, 0, rfl, EAt.nil _ _, Below.refl _ _⟩

theorem pblock_no (w : World) (ao : Option Addr) (n c : Nat) (L : List (Int × ByteArray)) (h : EAt w ao n L) (hL : ∀ e ∈ L, e.2.size ≤ 1000) (hn2 : n ≤ 9223372036854775807) (hf : okB L = false) : Calls Try.prog 9 #[.slice ao n c] w fun e w' => e = .returned (.tuple #[.slice none 0 0, .int .i64 1]) ∧ Below w.heap.size w w' := by
  by_cases hn : 32 < n
  · refine (pblock_long w ao n c hn hn2).mono ?_
    rintro e w' ⟨rfl, rfl⟩
    exact ⟨rfl, Below.refl _ _⟩
  · refine (pblock_short w ao n c L h hL (by omega)).mono ?_
    rintro e w' ⟨hB, ⟨-, rfl⟩ | ⟨h2, -⟩⟩
    · exact ⟨rfl, hB⟩
    · rw [hf] at h2; cases h2
theorem okB_len {L : List (Int × ByteArray)} (h : okB L = true) : L.length ≤ 32 ∧ allB L = true := by
  unfold okB at h
  simpa using h
theorem pblock_yes (w : World) (ao : Option Addr) (n c : Nat) (L : List (Int × ByteArray)) (h : EAt w ao n L) (hL : ∀ e ∈ L, e.2.size ≤ 1000) (hf : okB L = true) : Calls Try.prog 9 #[.slice ao n c] w fun e w' => ∃ g, e = .returned (.tuple #[.slice (some ⟨g, 0, none⟩) 1024 1024, .int .i64 0]) ∧ RAt w' g (blockL L) ∧ w.heap.size ≤ g ∧ Below w.heap.size w w' := by
  refine (pblock_short w ao n c L h hL (by rw [← h.1]; exact (okB_len hf).1)).mono ?_
  rintro e w' ⟨hB, ⟨h2, -⟩ | ⟨-, g, rfl, h3, h4⟩⟩
  · rw [hf] at h2; cases h2
  · exact ⟨g, rfl, h3, h4, hB⟩
theorem rpblock_no (w : World) (ao : Option Addr) (n c : Nat) (L : List (Int × ByteArray)) (h : EAt w ao n L) (hL : ∀ e ∈ L, e.2.size ≤ 1000) (hn2 : n ≤ 9223372036854775807) (hf : okB L = false) : Calls Try.prog 19 #[.slice ao n c] w fun e w' => e = .returned (.tuple #[.slice none 0 0, .bool false]) ∧ Below w.heap.size w w' := by
  by_cases hn : 32 < n
  · refine (rpblock_long w ao n c hn hn2).mono ?_
    rintro e w' ⟨rfl, rfl⟩
    exact ⟨rfl, Below.refl _ _⟩
  · refine (rpblock_short w ao n c L h hL (by omega)).mono ?_
    rintro e w' ⟨hB, ⟨-, rfl⟩ | ⟨h2, -⟩⟩
    · exact ⟨rfl, hB⟩
    · rw [hf] at h2; cases h2
theorem rpblock_yes (w : World) (ao : Option Addr) (n c : Nat) (L : List (Int × ByteArray)) (h : EAt w ao n L) (hL : ∀ e ∈ L, e.2.size ≤ 1000) (hf : okB L = true) : Calls Try.prog 19 #[.slice ao n c] w fun e w' => ∃ ap cp, e = .returned (.tuple #[.slice ap 1024 cp, .bool true]) ∧ BAt w' ap 1024 (blockL L) ∧ Below w.heap.size w w' := by
  refine (rpblock_short w ao n c L h hL (by rw [← h.1]; exact (okB_len hf).1)).mono ?_
  rintro e w' ⟨hB, ⟨h2, -⟩ | ⟨-, v, rfl, ho⟩⟩
  · rw [hf] at h2; cases h2
  · obtain ⟨ap, cp, rfl, hb, -⟩ := owns_BAt ho
    exact ⟨ap, cp, rfl, hb, hB⟩
theorem blockL_length {L : List (Int × ByteArray)} (h : okB L = true) : (blockL L).length = 1024 := by
  unfold blockL
  rw [List.length_append, catL_length _ (okB_len h).2, zeros_length]
  have := (okB_len h).1
  omega

theorem add1 (a : Addr) : a.add 1 = ⟨a.block, a.off + 1, none⟩ := by simp [Addr.add]

set_option maxRecDepth 100000 in
set_option maxHeartbeats 4000000 in
theorem blocks_any (w : World) (ao : Option Addr) (n c : Nat) (xs : List Int) (h : BAt w ao n xs) (hx : ∀ x ∈ xs, 0 ≤ x ∧ x ≤ 255) (hc : n ≤ c) (hc2 : c ≤ 9223372036854775807) (bo : Option Addr) (m d : Nat) (L : List (Int × ByteArray)) (hE : EAt w bo m L) (hm2 : m ≤ 9223372036854775807) :
    Calls Try.prog 6 #[.slice ao n c, .slice bo m d] w fun e w' => e = .returned (.bool true) ∧ Below w.heap.size w w' := by
  have hn2 : n ≤ 9223372036854775807 := by omega
  by_cases hn : 3000 < n
  · go_enter Try.func6, Try.ntmps6
    go_wp2_with (go_at_call 8; refine (alive_any _).mono ?_; rintro e W2 ⟨rfl, hB⟩; have HB := Hid.mk hB; clear hB)
    go_ret
    exact ⟨rfl, HB.out⟩
  by_cases hm : 100 < m
  · go_enter Try.func6, Try.ntmps6
    go_wp2_with (go_at_call 8; refine (alive_any _).mono ?_; rintro e W2 ⟨rfl, hB⟩; have HB := Hid.mk hB; clear hB)
    go_ret
    exact ⟨rfl, HB.out⟩
  have HBX : Hid (∀ W, Below w.heap.size w W → BAt W ao n xs) := Hid.mk (fun W hB => h.below hB)
  have HEX : Hid (∀ W, Below w.heap.size w W → EAt W bo m L) := Hid.mk (fun W hB => hE.below hB)
  have HBL : Hid (∀ W, Below w.heap.size w W → Calls Try.prog 11 #[.slice ao n c] W fun e w' => ∃ ap cp, e = .returned (.slice ap (blkE xs).length cp) ∧ EAt w' ap (blkE xs).length (blkE xs) ∧ Below W.heap.size W w') := Hid.mk (fun W hB => block_any W ao n c xs (HBX.out W hB) hx hc hc2)
  have HRL : Hid (∀ W, Below w.heap.size w W → Calls Try.prog 18 #[.slice ao n c] W fun e w' => ∃ ap cp, e = .returned (.slice ap (blkE xs).length cp) ∧ EAt w' ap (blkE xs).length (blkE xs) ∧ Below W.heap.size W w') := Hid.mk (fun W hB => rents_any W ao n c xs (HBX.out W hB) hx hc hc2)
  have HLL := Hid.mk hE.1
  have hk32 := blkE_len xs
  generalize blkE xs = E at *
  generalize hK : E.length = K at *
  have HKL := Hid.mk hK
  have hnn : n ≤ 3000 := by omega
  have hmm : m ≤ 100 := by omega
  clear h hx hE hK hn hm hc hc2 HBX
  go_enter Try.func6, Try.ntmps6
  go_wp2_with (first
    | (go_at_call 8; refine (alive_any _).mono ?_; rintro e W2 ⟨rfl, hB⟩; have HB := Hid.mk hB; clear hB)
    | (go_at_call 11; refine (HBL.out _ HB.out).mono ?_; rintro e W3 ⟨ap, cp, rfl, hP, hB⟩; replace HB := Hid.mk (HB.out.trans (hB.mono HB.out.size)); have HP := Hid.mk hP; clear hB hP)
    | (go_at_call 18; refine (HRL.out _ HB.out).mono ?_; rintro e W4 ⟨aq, cq, rfl, hQ, hB⟩; replace HB := Hid.mk (HB.out.trans (hB.mono HB.out.size)); replace HP := Hid.mk (HP.out.below hB); have HQ := Hid.mk hQ; clear hB hQ))
  go_loopw [8] (fun i wr => ∃ k : Nat, k ≤ K ∧ i = .int .i64 k ∧ EAt wr ap K E ∧ EAt wr aq K E ∧ Below w.heap.size w wr) (fun i _ => K - (intOf i).toNat)
  case atStart => exact ⟨0, by omega, rfl, HP.out, HQ.out, HB.out⟩
  case round =>
    obtain ⟨k, hk, rfl, hp, hq, hb⟩ := hrel
    by_cases hlt : k < K
    · obtain ⟨a1, e1, -, hl1, -⟩ := EAt.at (W := wr.drew) hp k hlt
      obtain ⟨a2, e2, -, hl2, -⟩ := EAt.at (W := wr.drew) hq k hlt
      subst e1 e2
      generalize (E.getD k noE).1 = i at *
      generalize (E.getD k noE).2 = s at *
      have HL1 : Hid ((Instr.loadAt 26 (.pointer (some (a1.add (k * 2))))).run Try.prog wr.drew = .ok (entV i s) wr.drew) := Hid.mk hl1
      have HL2 : Hid ((Instr.loadAt 26 (.pointer (some (a2.add (k * 2))))).run Try.prog wr.drew = .ok (entV i s) wr.drew) := Hid.mk hl2
      have HFIN : Hid (EAt wr.drew (some a1) K E ∧ EAt wr.drew (some a2) K E ∧ Below w.heap.size w wr.drew) := Hid.mk ⟨hp, hq, hb.drew⟩
      clear hp hq hb hl1 hl2 HP HQ HB
      go_upto_region 11 with fail
      refine wp_region_held_drew (S := fun W => W = wr.drew) (by kernel_rfl) rfl (fun hH => ?_)
      change wpAnyH Try.prog Region.Mode.any _ _ _ 9 _ _ _
      refine takeH 0 43 (.slice (some a1) K cp) rfl (by kernel_rfl) (by kernel_rfl) (by kernel_rfl) (by kernel_rfl) (fun _ _ _ h => h) (by kernel_rfl) (fun w hw => by kernel_rfl) hH ?_
      simp only [List.setIfInBounds_toArray, List.set_cons_zero, List.set_cons_succ]
      refine takeH 1 44 (.int .i64 k) rfl (by kernel_rfl) (by kernel_rfl) (by kernel_rfl) (by kernel_rfl) (fun _ _ _ h => h) (by kernel_rfl) (fun w hw => by kernel_rfl) hH ?_
      simp only [List.setIfInBounds_toArray, List.set_cons_zero, List.set_cons_succ]
      refine takeH 2 45 (.pointer (some (a1.add (k * 2)))) rfl (by kernel_rfl) (by kernel_rfl) (by kernel_rfl) (by kernel_rfl) (fun _ _ _ h => h) (by kernel_rfl) (fun w hw => by go_simp) hH ?_
      simp only [List.setIfInBounds_toArray, List.set_cons_zero, List.set_cons_succ]
      refine takeH 3 46 (entV i s) rfl (by kernel_rfl) (by kernel_rfl) (by kernel_rfl) (by kernel_rfl) (fun _ _ _ h => h) (by kernel_rfl) (fun w hw => by subst hw; exact exec_load26 (x := .tmp 45) rfl (by kernel_rfl) HL1.out) hH ?_
      simp only [List.setIfInBounds_toArray, List.set_cons_zero, List.set_cons_succ]
      refine takeH 4 47 (.slice (some a2) K cq) rfl (by kernel_rfl) (by kernel_rfl) (by kernel_rfl) (by kernel_rfl) (fun _ _ _ h => h) (by kernel_rfl) (fun w hw => by kernel_rfl) hH ?_
      simp only [List.setIfInBounds_toArray, List.set_cons_zero, List.set_cons_succ]
      refine takeH 5 48 (.int .i64 k) rfl (by kernel_rfl) (by kernel_rfl) (by kernel_rfl) (by kernel_rfl) (fun _ _ _ h => h) (by kernel_rfl) (fun w hw => by kernel_rfl) hH ?_
      simp only [List.setIfInBounds_toArray, List.set_cons_zero, List.set_cons_succ]
      refine takeH 6 49 (.pointer (some (a2.add (k * 2)))) rfl (by kernel_rfl) (by kernel_rfl) (by kernel_rfl) (by kernel_rfl) (fun _ _ _ h => h) (by kernel_rfl) (fun w hw => by go_simp) hH ?_
      simp only [List.setIfInBounds_toArray, List.set_cons_zero, List.set_cons_succ]
      refine takeH 7 50 (entV i s) rfl (by kernel_rfl) (by kernel_rfl) (by kernel_rfl) (by kernel_rfl) (fun _ _ _ h => h) (by kernel_rfl) (fun w hw => by subst hw; exact exec_load26 (x := .tmp 49) rfl (by kernel_rfl) HL2.out) hH ?_
      simp only [List.setIfInBounds_toArray, List.set_cons_zero, List.set_cons_succ]
      refine takeH 8 51 (.bool (!eqE i s i s)) rfl (by kernel_rfl) (by kernel_rfl) (by kernel_rfl) (by kernel_rfl) (fun _ _ _ h => h) (by kernel_rfl) (fun w hw => by exact exec_neq (x := .tmp 46) (y := .tmp 50) rfl (by kernel_rfl) (by kernel_rfl)) hH ?_
      simp only [List.setIfInBounds_toArray, List.set_cons_zero, List.set_cons_succ]
      refine wpAnyH_done (by kernel_rfl) ?_ _
      clear hH
      rw [eqE_self]
      go_wp2_with fail
      go_roundw
      case rel => exact ⟨k + 1, by omega, by go_num, HFIN.out.1, HFIN.out.2.1, HFIN.out.2.2⟩
      case measure => simp [intOf]; omega
    · have hge : (K : Int) ≤ k := by omega
      obtain rfl : k = K := by omega
      clear hp hq HP HQ HB HBL HRL
      have HB := Hid.mk hb
      clear hb
      go_wp2
      go_loopw [9] (fun i wx => ∃ j : Nat, j ≤ m ∧ i = .int .i64 j ∧ wx = wr ∧ ∀ q, q < j → (L.getD q noE).2.size ≤ 1000) (fun i _ => m - (intOf i).toNat)
      case atStart => exact ⟨0, by omega, rfl, rfl, fun q hq => by omega⟩
      case round =>
        obtain ⟨j, hj, rfl, rfl, hall⟩ := hrel
        have HA := Hid.mk hall
        clear hall
        by_cases hjl : j < m
        · obtain ⟨a, e, -, -, hcell⟩ := (HEX.out _ HB.out).at j hjl
          subst e
          have HA2 : Hid ((L.getD j noE).2.size ≤ 1000 → ∀ q, q < j + 1 → (L.getD q noE).2.size ≤ 1000) := Hid.mk (fun hs q hq => by
            rcases Nat.lt_or_ge q j with h | h
            · exact HA.out q h
            · obtain rfl : q = j := by omega
              exact hs)
          generalize (L.getD j noE).2 = s at *
          have hcell2 := hcell
          rw [← add_add, add1] at hcell2
          by_cases hs : 1000 < s.size
          · go_wp2
            go_ret
            exact ⟨rfl, HB.out⟩
          · have HA3 := Hid.mk (HA2.out (by omega))
            go_wp2
            go_roundw
            case rel => exact ⟨j + 1, by omega, by go_num, trivial, HA3.out⟩
            case measure => simp [intOf]; omega
        · have hge2 : (m : Int) ≤ j := by omega
          obtain rfl : j = m := by omega
          have HL : Hid (∀ e ∈ L, e.2.size ≤ 1000) := Hid.mk (fun e he => by
            obtain ⟨q, hq, rfl⟩ := List.getElem_of_mem he
            have := HA.out q (by rw [← HLL.out]; exact hq)
            rwa [show L.getD q noE = L[q] by simp [List.getD, List.getElem?_eq_getElem hq]] at this)
          cases hf : okB L with
          | false =>
            have HP := Hid.mk (fun W hB => pblock_no W bo j d L (HEX.out W hB) HL.out hm2 hf)
            have HQ := Hid.mk (fun W hB => rpblock_no W bo j d L (HEX.out W hB) HL.out hm2 hf)
            obtain ⟨SX, hSX⟩ : ∃ SX, SX = strOfNums [] := ⟨_, rfl⟩
            have HSX := Hid.mk hSX
            clear hf hSX
            go_wp2_with (first
              | (go_at_call 9; refine (HP.out _ HB.out).mono ?_; rintro e W5 ⟨rfl, hB⟩; replace HB := Hid.mk (HB.out.trans (hB.mono HB.out.size)); clear hB)
              | (go_at_call 19; refine (HQ.out _ HB.out).mono ?_; rintro e W6 ⟨rfl, hB⟩; replace HB := Hid.mk (HB.out.trans (hB.mono HB.out.size)); clear hB)
              | (go_at_call 10; refine (num_any _ _).mono ?_; rintro e w3 ⟨rfl, hw⟩; subst w3)
              | (refine wpL_conv (.tmp 89) rfl rfl none 0 0 [] rfl (BAt.nil _) SX HSX.out ?_)
              | (refine wpL_conv (.tmp 91) rfl rfl none 0 0 [] rfl (BAt.nil _) SX HSX.out ?_)
              | (refine wpL_streql (.tmp 90) (.tmp 92) 9 rfl rfl SX SX true (by simp) rfl rfl ?_))
            go_ret
            exact ⟨rfl, HB.out⟩
          | true =>
            have HP := Hid.mk (fun W hB => pblock_yes W bo j d L (HEX.out W hB) HL.out hf)
            have HQ := Hid.mk (fun W hB => rpblock_yes W bo j d L (HEX.out W hB) HL.out hf)
            have HBLL := Hid.mk (blockL_length hf)
            obtain ⟨SX, hSX⟩ : ∃ SX, SX = strOfNums (blockL L) := ⟨_, rfl⟩
            have HSX := Hid.mk hSX
            clear hf hSX
            go_wp2_with (first
              | (go_at_call 9; refine (HP.out _ HB.out).mono ?_; rintro e W5 ⟨g, rfl, hrow, hge5, hB⟩; replace HB := Hid.mk (HB.out.trans (hB.mono HB.out.size)); have HRW := Hid.mk hrow; clear hB hrow hge5)
              | (go_at_call 19; refine (HQ.out _ HB.out).mono ?_; rintro e W6 ⟨ar, cr, rfl, hba, hB⟩; replace HRW := Hid.mk (HRW.out.below hB HRW.out.lt); replace HB := Hid.mk (HB.out.trans (hB.mono HB.out.size)); have HBA := Hid.mk hba; clear hB hba)
              | (go_at_call 10; refine (num_any _ _).mono ?_; rintro e w3 ⟨rfl, hw⟩; subst w3)
              | (refine wpL_conv (.tmp 89) rfl rfl (some ⟨g, 0, none⟩) 1024 1024 (blockL L) rfl (HRW.out.full HBLL.out) SX HSX.out ?_)
              | (refine wpL_conv (.tmp 91) rfl rfl ar 1024 cr (blockL L) rfl HBA.out SX HSX.out ?_)
              | (refine wpL_streql (.tmp 90) (.tmp 92) 9 rfl rfl SX SX true (by simp) rfl rfl ?_))
            go_ret
            exact ⟨rfl, HB.out⟩
end Go.Proofs.Ytpdekpdlmfnndaa
