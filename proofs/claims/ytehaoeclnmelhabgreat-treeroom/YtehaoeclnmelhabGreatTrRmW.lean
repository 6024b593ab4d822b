/-
  TreeRoom: its walk.
-/
import Derived.Test.YtehaoeclnmelhabGreatLayRo
namespace Go.Proofs.YtehaoeclnmelhabGreat
open Go Go.Proofs Go.RowKit Go.Shelf Go.Sort

set_option maxRecDepth 100000 in
set_option maxHeartbeats 4000000 in
theorem room_law (w : World) (d nI : Int) : Calls Tryz.prog 3 #[.int .i64 d, .int .i64 nI] w fun e w' => e = .returned (.bool true) ∧ Below w.heap.size w w' := by
  have HA := Hid.mk (alive_any w)
  by_cases c1 : d < 8
  · go_enter Tryz.func3, Tryz.ntmps3
    go_wp2_with (go_at_call 9; refine HA.out.mono ?_; rintro e W0 ⟨rfl, hw⟩; have HB := Hid.mk hw; clear hw)
    go_ret
    exact ⟨rfl, HB.out⟩
  by_cases c2 : 100 < d
  · go_enter Tryz.func3, Tryz.ntmps3
    go_wp2_with (go_at_call 9; refine HA.out.mono ?_; rintro e W0 ⟨rfl, hw⟩; have HB := Hid.mk hw; clear hw)
    go_ret
    exact ⟨rfl, HB.out⟩
  by_cases c3 : nI < 0
  · go_enter Tryz.func3, Tryz.ntmps3
    go_wp2_with (go_at_call 9; refine HA.out.mono ?_; rintro e W0 ⟨rfl, hw⟩; have HB := Hid.mk hw; clear hw)
    go_ret
    exact ⟨rfl, HB.out⟩
  by_cases c4 : 200 < nI
  · go_enter Tryz.func3, Tryz.ntmps3
    go_wp2_with (go_at_call 9; refine HA.out.mono ?_; rintro e W0 ⟨rfl, hw⟩; have HB := Hid.mk hw; clear hw)
    go_ret
    exact ⟨rfl, HB.out⟩
  obtain ⟨N, rfl⟩ : ∃ n : Nat, nI = n := ⟨nI.toNat, by omega⟩
  have HD : Hid (8 ≤ d ∧ d ≤ 100 ∧ N ≤ 200) := Hid.mk (by omega)
  have hRb : rmR d ≤ 100 := by unfold rmR; split <;> omega
  have HR : Hid (rmR d ≤ 100 ∧ (rmR d : Int) = if 8 < d - 1 then d - 2 else d - 1) := Hid.mk (by refine ⟨hRb, ?_⟩; unfold rmR; split <;> omega)
  clear hRb
  go_enter Tryz.func3, Tryz.ntmps3
  go_wp2_with (first
    | (go_at_call 9; refine HA.out.mono ?_; rintro e W0 ⟨rfl, hw⟩; have HB := Hid.mk hw; clear hw)
    | (go_at_call 11; refine (lG_any _ _).mono ?_; rintro e W1 ⟨rfl, hB1⟩; have B1 := Hid.mk (HB.out.trans (hB1.mono HB.out.size)); clear hB1)
    | (go_at_call 10; refine (new_any _ 1 1 d).mono ?_; rintro e W2 ⟨rfl, hT2, hB2⟩; have O0 : Hid (OwnT w W2 (W1.heap.size + 4) (rmA d (min 0 15)) (fun _ => False)) := Hid.mk ⟨B1.out.trans (hB2.mono B1.out.size), _, hT2, fun k hk => ⟨by simp [feet, Lay.foot] at hk; have := B1.out.size; omega, fun h => h⟩⟩; unfold ptrV; clear hT2 hB2))
  generalize W1.heap.size + 4 = t at *
  clear HB B1
  go_loopw [7, 8] (fun c i wr => ∃ k : Nat, k ≤ 20 ∧ i = .int .i64 k ∧ c = .int .i64 ((min k 15 : Nat) : Int) ∧ OwnT w wr t (rmA d (min k 15)) (fun _ => False)) (fun _ i _ => 20 - (intOf i).toNat)
  case atStart => exact ⟨0, by omega, rfl, rfl, O0.out⟩
  case round =>
    obtain ⟨k, hk, rfl, rfl, hO⟩ := hrel
    have OK := Hid.mk hO
    clear hO O0
    by_cases hlt : k < 20
    · have hi : (k : Int) < 20 := by omega
      have HLT := Hid.mk hlt
      have hw1 : IntKind.i64.wrap ((k : Int) + 1) = (k : Int) + 1 := by rw [IntKind.wrap_i64]; omega
      have hw2 : k < 15 → IntKind.i64.wrap (((min k 15 : Nat) : Int) + 1) = ((min (k + 1) 15 : Nat) : Int) := fun h => by rw [IntKind.wrap_i64]; omega
      have HW2 := Hid.mk hw2
      have hcat := rm_cat k
      have hls := rm_let_size k
      have hcl : ¬ 9223372036854775807 < 2 + (rmLet k).size := by rw [hls]; omega
      have hcl2 : 2 + (rmLet k).size ≤ 9223372036854775807 := by rw [hls]; omega
      have hcl3 : ¬ 9223372036854775807 < (2 : Int) + ((rmLet k).size : Int) := by rw [hls]; omega
      clear hlt hk hls hw2
      go_upto_region 10 with (first
        | (refine wpList_knownR (by kernel_rfl) (.string (rmLet k)) _ (exec_rm (x := .tmp 45) (y := .tmp 47) k HLT.out rfl (by kernel_rfl) (by kernel_rfl) (by kernel_rfl)) ?_; simp only [Act.put, List.setIfInBounds_toArray, List.set_cons_zero, List.set_cons_succ])
        | (go_at_call 13; refine (lC_any _ _ _).mono ?_; rintro e W5 ⟨rfl, hB5⟩; have O1 := Hid.mk (OK.out.then hB5); unfold callV; try rw [hcat]
           clear hB5)
        | (go_at_call 12; refine (rm_do1 w _ t d k _ HD.out.1 HD.out.2.1 HLT.out O1.out (fun k h => h.elim)).mono ?_; rintro e W6 ⟨rfl, hO, -, -⟩; have O2 := Hid.mk hO; unfold errV; clear hO))
      obtain ⟨z, hz⟩ : ∃ z : Int, z = if k < 15 then 0 else 16 := ⟨_, rfl⟩
      rw [← hz]
      obtain ⟨Y6, hY6⟩ : ∃ Y6, Y6 = W6.alloc (.cells #[.int .i64 z, .slice none 0 0, .int .i64 0, .int .i64 0, .int .i64 0, .slice none 0 0, .int .i64 0] 32) := ⟨_, rfl⟩
      have P6 : Hid (OwnT w Y6 t (rmA d (min (k + 1) 15)) (fun _ => False)) := Hid.mk (by rw [hY6]; exact (O2.out.box _).less (fun k h => h.elim))
      have q6 : Y6.heap[W6.heap.size]? = some (.cells #[.int .i64 z, .slice none 0 0, .int .i64 0, .int .i64 0, .int .i64 0, .slice none 0 0, .int .i64 0] 32 (0, 0)) := by rw [hY6]; exact blk_new W6 _
      rw [← hY6]
      generalize W6.heap.size = b6 at *
      have c6 := blk_cell q6 0
      simp at c6
      clear hY6 O1 O2 OK q6 hcat hcl hcl2 hcl3
      by_cases h15 : k < 15
      · obtain rfl : z = 0 := by rw [hz, if_pos h15]
        have hw3 := HW2.out h15
        clear hz
        go_wp2_with (go_at_call 14; refine (lnum_any _ _).mono ?_; rintro e W9 ⟨rfl, hw⟩; subst hw)
        go_roundw
        case rel => exact ⟨k + 1, by have := HLT.out; omega, by go_num, by rw [← hw3], P6.out⟩
        case measure => have := HLT.out; simp [intOf]; omega
      · obtain rfl : z = 16 := by rw [hz, if_neg h15]
        have he : min (k + 1) 15 = min k 15 := by omega
        have HE := Hid.mk he
        clear hz he
        go_wp2_with (go_at_call 14; refine (lnum_any _ _).mono ?_; rintro e W9 ⟨rfl, hw⟩; subst hw)
        go_roundw
        case rel => exact ⟨k + 1, by have := HLT.out; omega, by go_num, by rw [HE.out], P6.out⟩
        case measure => have := HLT.out; simp [intOf]; omega
    · have hi : ¬ (k : Int) < 20 := by omega
      obtain rfl : k = 20 := by omega
      have OW : Hid (OwnT w wr t (rmW d (min 0 (rmR d))) (fun _ => False)) := Hid.mk (by rw [Nat.zero_min]; exact OK.out)
      clear hlt hk OK
      go_wp2_with fail
      go_loopw [10, 11] (fun c i wr => ∃ k : Nat, k ≤ N ∧ i = .int .i64 k ∧ c = .int .i64 ((min k (rmR d) : Nat) : Int) ∧ OwnT w wr t (rmW d (min k (rmR d))) (fun _ => False)) (fun _ i _ => N - (intOf i).toNat)
      case atStart => exact ⟨0, by omega, rfl, by rw [Nat.zero_min]; rfl, OW.out⟩
      case round =>
        obtain ⟨k, hk, rfl, rfl, hO⟩ := hrel
        have OK := Hid.mk hO
        clear hO OW
        by_cases hlt : k < N
        · have hi2 : (k : Int) < N := by omega
          have HLT := Hid.mk hlt
          have hw1 : IntKind.i64.wrap ((k : Int) + 1) = (k : Int) + 1 := by rw [IntKind.wrap_i64]; have := HD.out; omega
          have hw4 : IntKind.i64.wrap (1024 * (k : Int)) = 1024 * (k : Int) := by rw [IntKind.wrap_i64]; have := HD.out; omega
          have HW2 : Hid (k < rmR d → IntKind.i64.wrap (((min k (rmR d) : Nat) : Int) + 1) = ((min (k + 1) (rmR d) : Nat) : Int)) := Hid.mk (fun h => by rw [IntKind.wrap_i64]; have := HD.out; omega)
          clear hlt hk
          go_upto_region 19 with (first
            | (go_at_call 15; refine (lW_any _ _ _ _ _ _).mono ?_; rintro e W5 ⟨rfl, hB5⟩
               have O1 : Hid (OwnT w W5 t (rmW d (min k (rmR d))) (fun q => q = wr.heap.size)) := Hid.mk (((OK.out.box (.cells #[.int .u8 1] 5)).less (fun q h => .inr h)).then hB5)
               have hx5 := (hB5.block _ (lt_of_block (blk_new wr (.cells #[.int .u8 1] 5)))).trans (blk_new wr (.cells #[.int .u8 1] 5))
               have X5 : Hid (BAt W5 (some ⟨wr.heap.size, 0, none⟩) 1 [1]) := Hid.mk (RAt.full (xs := [1]) hx5 rfl)
               have L5 : Hid (wr.heap.size < W5.heap.size) := Hid.mk (lt_of_block hx5)
               unfold callV; clear hB5 hx5)
            | (go_at_call 12; refine (rm_do2 w _ t d k ⟨wr.heap.size, 0, none⟩ _ HD.out.1 HD.out.2.1 (by have := HD.out; have := HLT.out; omega) O1.out X5.out rfl (fun q h => by rw [h]; exact L5.out)).mono ?_; rintro e W6 ⟨rfl, hO, -, -⟩; have O2 := Hid.mk hO; clear hO))
          obtain ⟨z, hz⟩ : ∃ z : Int, z = if k < rmR d then 0 else 16 := ⟨_, rfl⟩
          obtain ⟨y, hy⟩ : ∃ y : Int, y = if k < rmR d then 1 else 0 := ⟨_, rfl⟩
          rw [← hz, ← hy]
          obtain ⟨Y6, hY6⟩ : ∃ Y6, Y6 = W6.alloc (.cells #[.int .i64 z, .slice none 0 0, .int .i64 0, .int .i64 0, .int .i64 0, .slice none 0 0, .int .i64 y] 32) := ⟨_, rfl⟩
          have P6 : Hid (OwnT w Y6 t (rmW d (min (k + 1) (rmR d))) (fun _ => False)) := Hid.mk (by rw [hY6]; exact (O2.out.box _).less (fun k h => h.elim))
          have q6 : Y6.heap[W6.heap.size]? = some (.cells #[.int .i64 z, .slice none 0 0, .int .i64 0, .int .i64 0, .int .i64 0, .slice none 0 0, .int .i64 y] 32 (0, 0)) := by rw [hY6]; exact blk_new W6 _
          rw [← hY6]
          generalize W6.heap.size = b6 at *
          have c6 := blk_cell q6 0
          simp at c6
          clear hY6 O1 O2 OK q6 X5 L5 hy
          by_cases h15 : k < rmR d
          · obtain rfl : z = 0 := by rw [hz, if_pos h15]
            have hw3 := HW2.out h15
            clear hz
            go_wp2_with (go_at_call 14; refine (lnum_any _ _).mono ?_; rintro e W9 ⟨rfl, hw⟩; subst hw)
            go_roundw
            case rel => exact ⟨k + 1, by have := HLT.out; omega, by go_num, by rw [← hw3], P6.out⟩
            case measure => have := HLT.out; simp [intOf]; omega
          · obtain rfl : z = 16 := by rw [hz, if_neg h15]
            have HE : Hid (min (k + 1) (rmR d) = min k (rmR d)) := Hid.mk (by omega)
            clear hz
            go_wp2_with (go_at_call 14; refine (lnum_any _ _).mono ?_; rintro e W9 ⟨rfl, hw⟩; subst hw)
            go_roundw
            case rel => exact ⟨k + 1, by have := HLT.out; omega, by go_num, by rw [HE.out], P6.out⟩
            case measure => have := HLT.out; simp [intOf]; omega
        · obtain rfl : k = N := by omega
          have hi2 : ¬ (k : Int) < (k : Int) := by omega
          have hd1 := HD.out
          have hr1 := HR.out
          obtain ⟨n, hn⟩ : ∃ n, n = min k (rmR d) := ⟨_, rfl⟩
          have HNB : Hid (n ≤ 200) := Hid.mk (by omega)
          have HN : Hid ((n : Int) = min (k : Int) (rmR d : Int)) := Hid.mk (by omega)
          rw [← hn] at OK ⊢
          have hs1 : IntKind.i64.wrap (d - 1) = d - 1 := by rw [IntKind.wrap_i64]; omega
          have hs2 : IntKind.i64.wrap (d - 1 - 1) = d - 1 - 1 := by rw [IntKind.wrap_i64]; omega
          obtain ⟨hu1, hu2⟩ := rmG_used d n HNB.out
          have HU : Hid (∀ W B, OwnT w W t (rmG d n) B → Calls Tryz.prog 16 #[ptrV t] W fun e w' => e = .returned (.tuple #[.int .i64 15, .int .i64 1]) ∧ Below W.heap.size W w') := Hid.mk (fun W B h => by
            obtain ⟨h1, Ls, h2, h3⟩ := h
            have := used_any W t _ _ _ _ _ _ h2.1
            rw [hu1, hu2] at this
            exact this)
          unfold ptrV at HU
          have hcmp : ∀ (g : Int), g = min (k : Int) (rmR d : Int) → (n : Int) = g := fun g hg => by rw [hg]; exact HN.out
          clear hlt hk hn hu1 hu2
          by_cases e1 : 8 < d - 1
          · by_cases e2 : (k : Int) < d - 1 - 1
            · have hfin : (n : Int) = (k : Int) := hcmp _ (by rw [hr1.2, if_pos e1]; omega)
              clear hcmp hd1 hr1
              go_upto_region 27 with (first
                | (go_at_call 13; refine (lC_any _ _ _).mono ?_; rintro e W5 ⟨rfl, hB5⟩; have O1 := Hid.mk (OK.out.then hB5); unfold callV; clear hB5)
                | (go_at_call 12; refine (rm_do3 w _ t d n _ HNB.out O1.out (fun q h => h.elim)).mono ?_; rintro e W6 ⟨rfl, hO, -, -⟩; have O2 := Hid.mk hO; unfold errV; clear hO))
              obtain ⟨Y6, hY6⟩ : ∃ Y6, Y6 = W6.alloc (.cells #[.int .i64 0, .slice none 0 0, .int .i64 0, .int .i64 0, .int .i64 0, .slice none 0 0, .int .i64 0] 32) := ⟨_, rfl⟩
              have P6 : Hid (OwnT w Y6 t (rmG d n) (fun q => q = W6.heap.size)) := Hid.mk (by rw [hY6]; exact (O2.out.box _).less (fun k h => .inr h))
              have q6 : Y6.heap[W6.heap.size]? = some (.cells #[.int .i64 0, .slice none 0 0, .int .i64 0, .int .i64 0, .int .i64 0, .slice none 0 0, .int .i64 0] 32 (0, 0)) := by rw [hY6]; exact blk_new W6 _
              rw [← hY6]
              generalize W6.heap.size = b6 at *
              have Q6 := Hid.mk q6
              clear hY6 O1 O2 OK q6
              go_wp2_with (first
                | (go_at_call 16; refine (HU.out _ _ P6.out).mono ?_; rintro e W7 ⟨rfl, hB7⟩; have c6 := blk_cell ((hB7.block _ (lt_of_block Q6.out)).trans Q6.out) 0; simp at c6; have P7 := Hid.mk (P6.out.then hB7).below; clear hB7)
                | (go_at_call 14; refine (lnum_any _ _).mono ?_; rintro e W9 ⟨rfl, hw⟩; subst hw))
              go_ret
              exact ⟨rfl, P7.out⟩
            · have hfin : (n : Int) = d - 1 - 1 := hcmp _ (by rw [hr1.2, if_pos e1]; omega)
              clear hcmp hd1 hr1
              go_upto_region 27 with (first
                | (go_at_call 13; refine (lC_any _ _ _).mono ?_; rintro e W5 ⟨rfl, hB5⟩; have O1 := Hid.mk (OK.out.then hB5); unfold callV; clear hB5)
                | (go_at_call 12; refine (rm_do3 w _ t d n _ HNB.out O1.out (fun q h => h.elim)).mono ?_; rintro e W6 ⟨rfl, hO, -, -⟩; have O2 := Hid.mk hO; unfold errV; clear hO))
              obtain ⟨Y6, hY6⟩ : ∃ Y6, Y6 = W6.alloc (.cells #[.int .i64 0, .slice none 0 0, .int .i64 0, .int .i64 0, .int .i64 0, .slice none 0 0, .int .i64 0] 32) := ⟨_, rfl⟩
              have P6 : Hid (OwnT w Y6 t (rmG d n) (fun q => q = W6.heap.size)) := Hid.mk (by rw [hY6]; exact (O2.out.box _).less (fun k h => .inr h))
              have q6 : Y6.heap[W6.heap.size]? = some (.cells #[.int .i64 0, .slice none 0 0, .int .i64 0, .int .i64 0, .int .i64 0, .slice none 0 0, .int .i64 0] 32 (0, 0)) := by rw [hY6]; exact blk_new W6 _
              rw [← hY6]
              generalize W6.heap.size = b6 at *
              have Q6 := Hid.mk q6
              clear hY6 O1 O2 OK q6
              go_wp2_with (first
                | (go_at_call 16; refine (HU.out _ _ P6.out).mono ?_; rintro e W7 ⟨rfl, hB7⟩; have c6 := blk_cell ((hB7.block _ (lt_of_block Q6.out)).trans Q6.out) 0; simp at c6; have P7 := Hid.mk (P6.out.then hB7).below; clear hB7)
                | (go_at_call 14; refine (lnum_any _ _).mono ?_; rintro e W9 ⟨rfl, hw⟩; subst hw))
              go_ret
              exact ⟨rfl, P7.out⟩
          · by_cases e2 : (k : Int) < d - 1
            · have hfin : (n : Int) = (k : Int) := hcmp _ (by rw [hr1.2, if_neg e1]; omega)
              clear hcmp hd1 hr1
              go_upto_region 27 with (first
                | (go_at_call 13; refine (lC_any _ _ _).mono ?_; rintro e W5 ⟨rfl, hB5⟩; have O1 := Hid.mk (OK.out.then hB5); unfold callV; clear hB5)
                | (go_at_call 12; refine (rm_do3 w _ t d n _ HNB.out O1.out (fun q h => h.elim)).mono ?_; rintro e W6 ⟨rfl, hO, -, -⟩; have O2 := Hid.mk hO; unfold errV; clear hO))
              obtain ⟨Y6, hY6⟩ : ∃ Y6, Y6 = W6.alloc (.cells #[.int .i64 0, .slice none 0 0, .int .i64 0, .int .i64 0, .int .i64 0, .slice none 0 0, .int .i64 0] 32) := ⟨_, rfl⟩
              have P6 : Hid (OwnT w Y6 t (rmG d n) (fun q => q = W6.heap.size)) := Hid.mk (by rw [hY6]; exact (O2.out.box _).less (fun k h => .inr h))
              have q6 : Y6.heap[W6.heap.size]? = some (.cells #[.int .i64 0, .slice none 0 0, .int .i64 0, .int .i64 0, .int .i64 0, .slice none 0 0, .int .i64 0] 32 (0, 0)) := by rw [hY6]; exact blk_new W6 _
              rw [← hY6]
              generalize W6.heap.size = b6 at *
              have Q6 := Hid.mk q6
              clear hY6 O1 O2 OK q6
              go_wp2_with (first
                | (go_at_call 16; refine (HU.out _ _ P6.out).mono ?_; rintro e W7 ⟨rfl, hB7⟩; have c6 := blk_cell ((hB7.block _ (lt_of_block Q6.out)).trans Q6.out) 0; simp at c6; have P7 := Hid.mk (P6.out.then hB7).below; clear hB7)
                | (go_at_call 14; refine (lnum_any _ _).mono ?_; rintro e W9 ⟨rfl, hw⟩; subst hw))
              go_ret
              exact ⟨rfl, P7.out⟩
            · have hfin : (n : Int) = d - 1 := hcmp _ (by rw [hr1.2, if_neg e1]; omega)
              clear hcmp hd1 hr1
              go_upto_region 27 with (first
                | (go_at_call 13; refine (lC_any _ _ _).mono ?_; rintro e W5 ⟨rfl, hB5⟩; have O1 := Hid.mk (OK.out.then hB5); unfold callV; clear hB5)
                | (go_at_call 12; refine (rm_do3 w _ t d n _ HNB.out O1.out (fun q h => h.elim)).mono ?_; rintro e W6 ⟨rfl, hO, -, -⟩; have O2 := Hid.mk hO; unfold errV; clear hO))
              obtain ⟨Y6, hY6⟩ : ∃ Y6, Y6 = W6.alloc (.cells #[.int .i64 0, .slice none 0 0, .int .i64 0, .int .i64 0, .int .i64 0, .slice none 0 0, .int .i64 0] 32) := ⟨_, rfl⟩
              have P6 : Hid (OwnT w Y6 t (rmG d n) (fun q => q = W6.heap.size)) := Hid.mk (by rw [hY6]; exact (O2.out.box _).less (fun k h => .inr h))
              have q6 : Y6.heap[W6.heap.size]? = some (.cells #[.int .i64 0, .slice none 0 0, .int .i64 0, .int .i64 0, .int .i64 0, .slice none 0 0, .int .i64 0] 32 (0, 0)) := by rw [hY6]; exact blk_new W6 _
              rw [← hY6]
              generalize W6.heap.size = b6 at *
              have Q6 := Hid.mk q6
              clear hY6 O1 O2 OK q6
              go_wp2_with (first
                | (go_at_call 16; refine (HU.out _ _ P6.out).mono ?_; rintro e W7 ⟨rfl, hB7⟩; have c6 := blk_cell ((hB7.block _ (lt_of_block Q6.out)).trans Q6.out) 0; simp at c6; have P7 := Hid.mk (P6.out.then hB7).below; clear hB7)
                | (go_at_call 14; refine (lnum_any _ _).mono ?_; rintro e W9 ⟨rfl, hw⟩; subst hw))
              go_ret
              exact ⟨rfl, P7.out⟩
end Go.Proofs.YtehaoeclnmelhabGreat
