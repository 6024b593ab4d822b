/-
  TreeHard: its walk.
-/
import Derived.Test.YtehaoeclnmelhabGreatLayHd
namespace Go.Proofs.YtehaoeclnmelhabGreat
open Go Go.Proofs Go.RowKit Go.Shelf Go.Sort

def abcS : ByteArray := ⟨#[97, 98, 99, 100, 101, 102, 103, 104, 105, 106, 107, 108, 109, 110, 111, 112, 113, 114, 115, 116, 117, 118, 119, 120, 121, 122]⟩
theorem exec_hd2 {ev : Operand → Value} {oi : Oper} {x y : Operand} {s : Operand} {w : World} (k : Nat) (h0 : 0 < k) (hk : k ≤ 26) (ho : oi.op = .slice 9 s (some x) (some y) none) (hv : ev s = .string ⟨#[97, 98, 99, 100, 101, 102, 103, 104, 105, 106, 107, 108, 109, 110, 111, 112, 113, 114, 115, 116, 117, 118, 119, 120, 121, 122]⟩) (hx : ev x = .int .i64 ((k : Int) - 1)) (hy : ev y = .int .i64 k) :
    (execOp ev oi).run Tryz.prog w = .ok (.value (.string (rmLet (k - 1)))) w :=
  exec_hd (k - 1) (by omega) ho hv (by rw [hx]; congr 1; omega) (by rw [hy]; congr 1; omega)
set_option maxRecDepth 100000 in
set_option maxHeartbeats 4000000 in
theorem hard_law (w : World) (nI : Int) (ao : Option Addr) (dl dc : Nat) (xs : List Int) (hX : BAt w ao dl xs) (hdc : dl ≤ dc) (hdc2 : dc ≤ 9223372036854775807) : Calls Tryz.prog 5 #[.int .i64 nI, .slice ao dl dc] w fun e w' => e = .returned (.bool true) ∧ Below w.heap.size w w' := by
  have HA := Hid.mk (alive_any w)
  by_cases c1 : nI < 1
  · go_enter Tryz.func5, Tryz.ntmps5
    go_wp2_with (go_at_call 9; refine HA.out.mono ?_; rintro e W0 ⟨rfl, hw⟩; have HB := Hid.mk hw; clear hw)
    go_ret
    exact ⟨rfl, HB.out⟩
  by_cases c2 : 26 < nI
  · go_enter Tryz.func5, Tryz.ntmps5
    go_wp2_with (go_at_call 9; refine HA.out.mono ?_; rintro e W0 ⟨rfl, hw⟩; have HB := Hid.mk hw; clear hw)
    go_ret
    exact ⟨rfl, HB.out⟩
  by_cases c3 : (dl : Int) < 1
  · go_enter Tryz.func5, Tryz.ntmps5
    go_wp2_with (go_at_call 9; refine HA.out.mono ?_; rintro e W0 ⟨rfl, hw⟩; have HB := Hid.mk hw; clear hw)
    go_ret
    exact ⟨rfl, HB.out⟩
  by_cases c4 : (2000 : Int) < dl
  · go_enter Tryz.func5, Tryz.ntmps5
    go_wp2_with (go_at_call 9; refine HA.out.mono ?_; rintro e W0 ⟨rfl, hw⟩; have HB := Hid.mk hw; clear hw)
    go_ret
    exact ⟨rfl, HB.out⟩
  obtain ⟨N, rfl⟩ : ∃ n : Nat, nI = n := ⟨nI.toNat, by omega⟩
  have hxl : xs.length = dl := hX.1
  subst hxl
  obtain ⟨a, rfl, hal, _⟩ : ∃ a, ao = some a ∧ a.block < w.heap.size ∧ True := by
    obtain ⟨a, e1, e2, _⟩ := hX.2 (by omega)
    exact ⟨a, e1, e2, trivial⟩
  have HD : Hid (1 ≤ N ∧ N ≤ 26 ∧ 0 < xs.length ∧ xs.length ≤ 2000) := Hid.mk (by omega)
  have HX := Hid.mk hX
  have HAL := Hid.mk hal
  have HDC : Hid (xs.length ≤ dc ∧ dc ≤ 9223372036854775807) := Hid.mk ⟨hdc, hdc2⟩
  clear hX hal hdc hdc2
  go_enter Tryz.func5, Tryz.ntmps5
  go_wp2_with (first
    | (go_at_call 9; refine HA.out.mono ?_; rintro e W0 ⟨rfl, hw⟩; have HB := Hid.mk hw; clear hw)
    | (go_at_call 11; refine (lG_any _ _).mono ?_; rintro e W1 ⟨rfl, hB1⟩; have B1 := Hid.mk (HB.out.trans (hB1.mono HB.out.size)); clear hB1)
    | (go_at_call 10; refine (new_any _ 1 1 60).mono ?_; rintro e W2 ⟨rfl, hT2, hB2⟩; have O0 : Hid (OwnT w W2 (W1.heap.size + 4) (newT 1 1 60) (fun _ => False)) := Hid.mk ⟨B1.out.trans (hB2.mono B1.out.size), _, hT2, fun k hk => ⟨by simp [feet, Lay.foot] at hk; have := B1.out.size; omega, fun h => h⟩⟩; unfold ptrV; clear hT2 hB2)
    | (go_at_call 13; refine (lC_any _ _ _).mono ?_; rintro e W3 ⟨rfl, hB3⟩; have O1 := Hid.mk (O0.out.then hB3); unfold callV; clear hB3)
    | (go_at_call 12; refine (hd_do1 w _ _ _ O1.out (fun k h => h.elim)).mono ?_; rintro e W4 ⟨rfl, hO, -, -⟩; have O2 := Hid.mk hO; unfold errV; clear hO))
  generalize W1.heap.size + 4 = t at *
  clear HB B1 O0 O1
  go_loopw [8] (fun i wr => ∃ k : Nat, 1 ≤ k ∧ k ≤ N ∧ i = .int .i64 k ∧ OwnT w wr t (hdT k) (fun _ => False)) (fun i _ => N - (intOf i).toNat)
  case atStart => exact ⟨1, by omega, by omega, rfl, O2.out⟩
  case round =>
    obtain ⟨k, hk0, hk, rfl, hO⟩ := hrel
    have OK := Hid.mk hO
    clear hO O2
    by_cases hlt : k < N
    · have hi : (k : Int) < N := by omega
      have HLT : Hid (0 < k ∧ k < N ∧ k < 26) := Hid.mk (by omega)
      have hw1 : IntKind.i64.wrap ((k : Int) + 1) = (k : Int) + 1 := by rw [IntKind.wrap_i64]; omega
      have hcat := hd_cat k
      have hls := rm_let_size k
      have hcl : ¬ 9223372036854775807 < 1 + (rmLet k).size := by rw [hls]; omega
      have hcl2 : 1 + (rmLet k).size ≤ 9223372036854775807 := by rw [hls]; omega
      have hcl3 : ¬ 9223372036854775807 < (1 : Int) + ((rmLet k).size : Int) := by rw [hls]; omega
      clear hlt hk0 hk hls c1 c2 c3 c4
      go_wp2_with (first
        | (refine wpList_knownR (by kernel_rfl) (.string (rmLet k)) _ (exec_hd (s := .tmp 50) (x := .tmp 51) (y := .tmp 53) k HLT.out.2.2 rfl (by kernel_rfl) (by kernel_rfl) (by kernel_rfl)) ?_; simp only [Act.put, List.setIfInBounds_toArray, List.set_cons_zero, List.set_cons_succ])
        | (go_at_call 17; refine (lTo_any _ _ _ _).mono ?_; rintro e W5 ⟨rfl, hB5⟩; have O3 := Hid.mk (OK.out.then hB5); unfold callV; try rw [hcat]
           clear hB5)
        | (go_at_call 12; refine (hd_do2 w _ t k _ HLT.out.1 HLT.out.2.2 O3.out (fun k h => h.elim)).mono ?_; rintro e W6 ⟨rfl, hO, -, -⟩; have O4 := Hid.mk hO; unfold errV; clear hO)
        | (go_at_call 14; refine (lnum_any _ _).mono ?_; rintro e W9 ⟨rfl, hw⟩; subst hw))
      go_roundw
      case rel => exact ⟨k + 1, by omega, by have := HLT.out; omega, by go_num, (O4.out.box _).less (fun k h => h.elim)⟩
      case measure => have := HLT.out; simp [intOf]; omega
    · obtain rfl : k = N := by omega
      have hi2 : ¬ (k : Int) < (k : Int) := by omega
      have hw0 : IntKind.i64.wrap ((k : Int) - 1) = (k : Int) - 1 := by rw [IntKind.wrap_i64]; omega
      have hd := HD.out
      have hcat := hd_cat (k - 1)
      have hls := rm_let_size (k - 1)
      have hcl : ¬ 9223372036854775807 < 1 + (rmLet (k - 1)).size := by rw [hls]; omega
      have hcl2 : 1 + (rmLet (k - 1)).size ≤ 9223372036854775807 := by rw [hls]; omega
      have hcl3 : ¬ 9223372036854775807 < (1 : Int) + ((rmLet (k - 1)).size : Int) := by rw [hls]; omega
      clear hlt hk hk0 hls c1 c2 c3 c4 hd
      go_wp2_with (first
        | (refine wpList_knownR (by kernel_rfl) (.string (rmLet (k - 1))) _ (exec_hd2 (s := .tmp 63) (x := .tmp 65) (y := .tmp 66) k HD.out.1 HD.out.2.1 rfl (by kernel_rfl) (by kernel_rfl) (by kernel_rfl)) ?_; simp only [Act.put, List.setIfInBounds_toArray, List.set_cons_zero, List.set_cons_succ])
        | (go_at_call 15; refine (lW_any _ _ _ _ _ _).mono ?_; rintro e W5 ⟨rfl, hB5⟩; have O3 := Hid.mk (OK.out.then hB5); unfold callV; try rw [hcat]
           clear hB5)
        | (go_at_call 12; refine (hd_do3 w _ t k xs a dc _ HD.out.1 HD.out.2.1 HD.out.2.2.1 HD.out.2.2.2 HDC.out.1 HDC.out.2 O3.out (HX.out.only (Only.of_new (fun _ => False) O3.out.below) (fun _ _ _ h => h)) HAL.out (fun k h => h.elim)).mono ?_; rintro e W6 ⟨rfl, hO, -, -⟩; have O4 : Hid (OwnT w W6 t (hdE xs k 0) (fun _ => False)) := Hid.mk (by rw [hdE_lt HD.out.1]; exact hO); clear hO))
      clear OK O3 hcat hcl hcl2 hcl3 hw0 hi2
      go_loopw [10] (fun i wr => ∃ j : Nat, j ≤ k ∧ i = .int .i64 j ∧ OwnT w wr t (hdE xs k j) (fun _ => False)) (fun i _ => k - (intOf i).toNat)
      case atStart => exact ⟨0, by omega, rfl, O4.out⟩
      case round =>
        obtain ⟨j, hj, rfl, hO⟩ := hrel
        have OK := Hid.mk hO
        clear hO O4
        by_cases hlt : j < k
        · have hi : (j : Int) < k := by omega
          have hd := HD.out
          have HLT : Hid (j < k ∧ j < 26) := Hid.mk (by omega)
          have hw1 : IntKind.i64.wrap ((j : Int) + 1) = (j : Int) + 1 := by rw [IntKind.wrap_i64]; omega
          have hw2 : IntKind.i64.wrap ((k : Int) - (j : Int)) = (k : Int) - (j : Int) := by rw [IntKind.wrap_i64]; omega
          have hcat := hd_cat j
          have hls := rm_let_size j
          have hcl : ¬ 9223372036854775807 < 1 + (rmLet j).size := by rw [hls]; omega
          have hcl2 : 1 + (rmLet j).size ≤ 9223372036854775807 := by rw [hls]; omega
          have hcl3 : ¬ 9223372036854775807 < (1 : Int) + ((rmLet j).size : Int) := by rw [hls]; omega
          clear hlt hj hls hd
          go_upto_region 20 with (first
            | (refine wpList_knownR (by kernel_rfl) (.string (rmLet j)) _ (exec_hd (s := .tmp 77) (x := .tmp 78) (y := .tmp 80) j HLT.out.2 rfl (by kernel_rfl) (by kernel_rfl) (by kernel_rfl)) ?_; simp only [Act.put, List.setIfInBounds_toArray, List.set_cons_zero, List.set_cons_succ]; try rw [hcat])
            | (go_at_call 13; refine (lC_any _ _ _).mono ?_; rintro e W5 ⟨rfl, hB5⟩; have O3 := Hid.mk (OK.out.then hB5); unfold callV; clear hB5 OK)
            | (go_at_call 12; refine (hd_do4 w _ t xs k j _ HD.out.2.1 HLT.out.1 O3.out (fun k h => h.elim)).mono ?_; rintro e W6 ⟨rfl, hO, -, -⟩; have O4 : Hid (OwnT w (W6.alloc (.cells #[.int .i64 0, .slice none 0 0, .int .i64 1, .int .i64 xs.length, .int .i64 ((k : Int) - j), .slice none 0 0, .int .i64 0] 32)) t (hdE xs k j) (fun q => q = W6.heap.size)) := Hid.mk ((hO.box _).less (fun k h => .inr h)); have q6 := Hid.mk (blk_new W6 (.cells #[.int .i64 0, .slice none 0 0, .int .i64 1, .int .i64 xs.length, .int .i64 ((k : Int) - j), .slice none 0 0, .int .i64 0] 32)); unfold hdStat; clear hO O3)
            | (go_at_call 18; refine (lR_any _ _ _ _).mono ?_; rintro e W7 ⟨rfl, hB7⟩; have O5 := Hid.mk (O4.out.then hB7); have q7 := Hid.mk ((hB7.block _ (lt_of_block q6.out)).trans q6.out); unfold callV; clear hB7 O4 q6)
            | (go_at_call 12; refine (hd_do5 w _ t xs k j _ HD.out.2.2.1 HD.out.2.2.2 HD.out.2.1 HLT.out.1 O5.out (fun k h => by rw [h]; exact lt_of_block q7.out)).mono ?_; rintro e W8 ⟨⟨g, rfl, hg, hg2⟩, hO, hkp, -⟩; have q8 := Hid.mk ((hkp _ rfl).trans q7.out); have G8 := Hid.mk hg; have G9 := Hid.mk hg2; have O6 := Hid.mk hO; unfold readV; clear hO hkp hg hg2 O5 q7))
          obtain ⟨Y8, hY8⟩ : ∃ Y8, Y8 = W8.alloc (.cells #[.int .i64 0, .slice (some ⟨g, 0, none⟩) xs.length xs.length, .int .i64 0, .int .i64 0, .int .i64 0, .slice none 0 0, .int .i64 0] 32) := ⟨_, rfl⟩
          have O8 : Hid (OwnT w Y8 t (hdE xs k j) (fun _ => False)) := Hid.mk (by rw [hY8]; exact (O6.out.box _).less (fun k h => h.elim))
          have hB8 : Below W8.heap.size W8 Y8 := by rw [hY8]; exact (Below.refl _ _).alloc (Nat.le_refl _) _
          have e8 := (hB8.block _ (lt_of_block q8.out)).trans q8.out
          have r8 : Y8.heap[W8.heap.size]? = some (.cells #[.int .i64 0, .slice (some ⟨g, 0, none⟩) xs.length xs.length, .int .i64 0, .int .i64 0, .int .i64 0, .slice none 0 0, .int .i64 0] 32 (0, 0)) := by rw [hY8]; exact blk_new W8 (.cells #[.int .i64 0, .slice (some ⟨g, 0, none⟩) xs.length xs.length, .int .i64 0, .int .i64 0, .int .i64 0, .slice none 0 0, .int .i64 0] 32)
          have hg8 : RAt Y8 g xs := (hB8.block g (lt_of_block G8.out)).trans G8.out
          have x1 : BAt Y8 (some ⟨g, 0, none⟩) xs.length xs := RAt.full hg8 rfl
          have x2 : BAt Y8 (some a) xs.length xs := HX.out.only (Only.of_new (fun _ => False) O8.out.below) (fun _ _ _ h => h)
          have HX1 := Hid.mk x1
          have HX2 := Hid.mk x2
          have c84 := blk_cell e8 4
          have c81 := blk_cell r8 1
          simp at c84 c81
          rw [← hY8]
          generalize W8.heap.size = b8 at *
          generalize W6.heap.size = b6 at *
          clear hY8 O6 q8 hB8 e8 r8 hg8 x1 x2 G8 G9
          go_upto_region 22 with (first
            | (refine wpList_knownR (by kernel_rfl) (.string (strOfNums xs)) _ (exec_convert (x := .tmp 99) rfl (by kernel_rfl) (conv_bytes _ _ _ xs.length xs HX1.out)) ?_; simp only [Act.put, List.setIfInBounds_toArray, List.set_cons_zero, List.set_cons_succ])
            | (refine wpList_knownR (by kernel_rfl) (.string (strOfNums xs)) _ (exec_convert (x := .tmp 101) rfl (by kernel_rfl) (conv_bytes _ _ _ dc xs HX2.out)) ?_; simp only [Act.put, List.setIfInBounds_toArray, List.set_cons_zero, List.set_cons_succ]))
          clear c84 c81 HX1 HX2
          go_wp2_with (first
            | (go_at_call 13; refine (lC_any _ _ _).mono ?_; rintro e W5 ⟨rfl, hB5⟩; have O9 := Hid.mk (O8.out.then hB5); unfold callV; clear hB5 O8)
            | (go_at_call 12; refine (hd_do6 w _ t xs k j _ HD.out.2.2.1 HD.out.2.2.2 HD.out.2.1 HLT.out.1 O9.out (fun k h => h.elim)).mono ?_; rintro e V6 ⟨rfl, hO, -, -⟩; have OA := Hid.mk hO; unfold errV; clear hO O9)
            | (go_at_call 14; refine (lnum_any _ _).mono ?_; rintro e W9 ⟨rfl, hw⟩; subst hw))
          go_roundw
          case rel => exact ⟨j + 1, by have := HLT.out; omega, by go_num, (OA.out.box _).less (fun k h => h.elim)⟩
          case measure => have := HLT.out; simp [intOf]; omega
        · obtain rfl : j = k := by omega
          have hi2 : ¬ (j : Int) < (j : Int) := by omega
          have he : hdE xs j j = hdG xs j := if_neg (by omega)
          rw [he] at OK
          obtain ⟨hu1, hu2⟩ := hd_used HD.out.2.2.1 HD.out.2.2.2 j
          have HU : Hid (∀ W B, OwnT w W t (hdG xs j) B → Calls Tryz.prog 16 #[ptrV t] W fun e w' => e = .returned (.tuple #[.int .i64 1, .int .i64 1]) ∧ Below W.heap.size W w') := Hid.mk (fun W B h => by
            obtain ⟨h1, Ls, h2, h3⟩ := h
            have := used_any W t _ _ _ _ _ _ h2.1
            rw [hu1, hu2] at this
            exact this)
          unfold ptrV at HU
          clear hlt hj he hu1 hu2
          go_wp2_with (go_at_call 16; refine (HU.out _ _ OK.out).mono ?_; rintro e W7 ⟨rfl, hB7⟩; have P7 := Hid.mk (OK.out.then hB7).below; clear hB7)
          go_ret
          exact ⟨rfl, P7.out⟩
end Go.Proofs.YtehaoeclnmelhabGreat
