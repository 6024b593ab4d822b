/-
  DiskCuts, walked: it returns true for every three numbers, and nothing that lay has turned.
-/
import Derived.Test.YtochgjajlojfeaaCutting
import Derived.BigQuiet
import Derived.Deep.QuietTactic
namespace Go.Proofs.Ytochgjajlojfeaa
open Go Go.Proofs Go.RowKit Go.Shelf

set_option maxRecDepth 100000 in
set_option maxHeartbeats 4000000 in
theorem cuts_no (blocks writes cut : Int) (w : World) (h : blocks < 1 ∨ 40 < blocks ∨ writes < 0 ∨ 60 < writes ∨ cut < 0 ∨ 200 < cut) :
    Calls Try.prog 5 #[.int .i64 blocks, .int .i64 writes, .int .i64 cut] w fun e w' => e = .returned (.bool true) ∧ Below w.heap.size w w' := by
  by_cases h1 : blocks < 1
  · clear h
    go_enter Try.func5, Try.ntmps5
    go_wp2_with (go_at_call 7; refine (alive_any w).mono ?_; rintro e w1 ⟨rfl, hb⟩)
    go_ret
    exact ⟨rfl, hb⟩
  by_cases h2 : 40 < blocks
  · clear h
    go_enter Try.func5, Try.ntmps5
    go_wp2_with (go_at_call 7; refine (alive_any w).mono ?_; rintro e w1 ⟨rfl, hb⟩)
    go_ret
    exact ⟨rfl, hb⟩
  by_cases h3 : writes < 0
  · clear h
    go_enter Try.func5, Try.ntmps5
    go_wp2_with (go_at_call 7; refine (alive_any w).mono ?_; rintro e w1 ⟨rfl, hb⟩)
    go_ret
    exact ⟨rfl, hb⟩
  by_cases h4 : 60 < writes
  · clear h
    go_enter Try.func5, Try.ntmps5
    go_wp2_with (go_at_call 7; refine (alive_any w).mono ?_; rintro e w1 ⟨rfl, hb⟩)
    go_ret
    exact ⟨rfl, hb⟩
  by_cases h5 : cut < 0
  · clear h
    go_enter Try.func5, Try.ntmps5
    go_wp2_with (go_at_call 7; refine (alive_any w).mono ?_; rintro e w1 ⟨rfl, hb⟩)
    go_ret
    exact ⟨rfl, hb⟩
  have h6 : 200 < cut := by omega
  clear h
  go_enter Try.func5, Try.ntmps5
  go_wp2_with (go_at_call 7; refine (alive_any w).mono ?_; rintro e w1 ⟨rfl, hb⟩)
  go_ret
  exact ⟨rfl, hb⟩

theorem CI.start {B C : Nat} : CI B C 0 { (⟨List.replicate (1024 * B) 0, [], false, false, 0⟩ : DS) with cut := decide ((0 : Int) ≤ (C : Int)), left := max (C : Int) 0 } := by
  refine ⟨List.length_replicate, by simp, fun j hj => by simp at hj, .inl ⟨by omega, rfl, ?_, rfl⟩⟩
  show max (C : Int) 0 = _
  omega

theorem below_draws {B : Nat} {a w : World} (h : Below B a w) (q : Nat) : Below B a (w.drewN q) := ⟨h.os, h.tape, h.output, h.size, h.block⟩

theorem cuts_entry {w : World} {B L g0 : Nat} {cells : List Value} {G : Nat → Prop} {log : List (Int × List Int)} (hL : log.length = L) (hown : w.ownsRow 0 41 2 (.slice (some ⟨g0, 0, none⟩) L L) L cells) (hlc : LogCells G w cells log) (hok : LogOk B log) (j : Nat) (hj : j < L) :
    ∃ gd capd X1 v0, w.cell? ⟨g0, j * 2, none⟩ = some (.int .i64 X1) ∧ w.cell? ⟨g0, j * 2 + 1, none⟩ = some (.slice (some ⟨gd, 0, none⟩) 512 capd) ∧ w.cell? ⟨gd, 0, none⟩ = some (.int .u8 v0) ∧ X1 = (j : Int) / 2 % (B : Int) * 2 + (j : Int) % 2 ∧ v0 = (j : Int) / 2 + 1 := by
  obtain ⟨dv, e1, e2, e3, e4, e5⟩ := hlc.get j (by omega)
  obtain ⟨o1, o2, o3⟩ := hok j (by omega)
  rw [o2] at e4
  obtain ⟨gd, capd, rfl, _, hlt, hcap, _, hcell⟩ := owns_bytes e4 e3
  rcases hown.2 with ⟨h, _⟩ | ⟨g', cap, cur, hv, _, hh, hnc, _, hsz, ht⟩
  · simp at h
  · simp at hv
    obtain ⟨rfl, rfl⟩ := hv
    have get : ∀ i, i < L * 2 → cur[i]? = cells[i]? := fun i hi => by
      rw [← Array.getElem?_toList, ← ht, List.getElem?_take, if_pos hi]
    refine ⟨gd, capd, (log.getD j (0, [])).1, (log.getD j (0, [])).2.getD 0 0, ?_, ?_, ?_, ?_, ?_⟩
    · rw [blk_cell hh, get _ (by omega), Nat.mul_comm j 2]; exact e1
    · rw [blk_cell hh, get _ (by omega), Nat.mul_comm j 2]; exact e2
    · have := hcell 0 (by omega)
      rw [add_at] at this
      exact this
    · rw [o1]; simp
    · rw [List.getD, o3]; simp

set_option maxRecDepth 100000 in
set_option maxHeartbeats 4000000 in
theorem cuts_yes (B N C : Nat) (w : World) (hB : 1 ≤ B) (hB2 : B ≤ 40) (hN : N ≤ 60) (hC : C ≤ 200) :
    Calls Try.prog 5 #[.int .i64 (B : Int), .int .i64 (N : Int), .int .i64 (C : Int)] w fun e w' => e = .returned (.bool true) ∧ Below w.heap.size w w' := by
  obtain ⟨i0, hi, hz0, hz1, hz2⟩ := info5p
  have q1 : decide ((B : Int) < 1) = false := by simp; omega
  have q2 : decide ((40 : Int) < (B : Int)) = false := by simp; omega
  have q3 : decide ((N : Int) < 0) = false := by simp
  have q4 : decide ((60 : Int) < (N : Int)) = false := by simp; omega
  have q5 : decide ((C : Int) < 0) = false := by simp
  have q6 : decide ((200 : Int) < (C : Int)) = false := by simp; omega
  go_enter Try.func5, Try.ntmps5
  go_wp2_with fail
  refine (alive_any w).mono ?_
  rintro e w1 ⟨rfl, hb1⟩
  have HB1 := Hid.mk hb1
  clear hb1
  have HNW := new_any w1 (B : Int)
  rw [show capB (B : Int) = B from by unfold capB; omega] at HNW
  have HNW := Hid.mk HNW
  go_wp2_with fail
  refine HNW.out.mono ?_
  clear HNW
  rintro e w2 ⟨d, rfl, hd2, hD2, hB2'⟩
  have HB2 := Hid.mk (HB1.out.trans (hB2'.mono HB1.out.size))
  have hD2' := hD2.mono (H := fun k => w.heap.size ≤ k ∧ k < w2.heap.size) (fun k hk e => ⟨Nat.le_trans HB1.out.size e, hk.lt⟩)
  have HCT := Hid.mk (cut_any _ w2 d _ hD2' (C : Int))
  clear hD2 hB2' hD2' HB1
  go_wp2_with fail
  refine HCT.out.mono ?_
  clear HCT
  rintro e w3 ⟨rfl, hD3, hO3⟩
  have HD3 := Hid.mk (hD3.mono (H := fun k => w.heap.size ≤ k ∧ k < w3.heap.size) (fun k hk e => ⟨e.1, hk.lt⟩))
  have HB3 := Hid.mk (HB2.out.trans (hO3.below HB2.out.size (fun k e => e.1)))
  clear hD3 hO3 HB2
  go_wp2_with fail
  go_loopw [9] (fun i wr => ∃ k : Nat, k ≤ N ∧ i = .int .i64 k ∧ Below w.heap.size w wr ∧ ∃ s, CI B C k s ∧ DiskAt (fun j => w.heap.size ≤ j ∧ j < wr.heap.size) wr d s) (fun i _ => N - (intOf i).toNat)
  case atStart => exact ⟨0, by omega, rfl, HB3.out, _, CI.start, HD3.out⟩
  case round =>
    obtain ⟨k, hk, rfl, hbw, s, hci, hdk⟩ := hrel
    have HBW := Hid.mk hbw
    have HCI := Hid.mk hci
    have HDK := Hid.mk hdk
    clear hbw hci hdk HB3 HD3
    by_cases hlt : k < N
    · have hw1 : IntKind.u8.wrap ((k : Int) + 1) = (k : Int) + 1 := by
        simp [IntKind.wrap, IntKind.bits, IntKind.signed]; omega
      obtain ⟨bt, hbt, hbt2⟩ : ∃ bt : Bool, decide (2 * k + 2 ≤ C) = bt ∧ decide ((2 : Int) * (k : Int) + 2 ≤ (C : Int)) = bt := by
        by_cases hh : 2 * k + 2 ≤ C
        · exact ⟨true, by simpa using hh, by simp; omega⟩
        · exact ⟨false, by simpa using hh, by simp; omega⟩
      have HBT := Hid.mk hbt
      clear hbt
      go_wp2_with (at_make; refine wpList_make_full _ rfl _ _ 27 rfl wr.heap.size 5 i0 (.int .u8 0) 1 Try.underlying27 hi hz0 hz1 .i64 .i64 _ _ 1024 rfl rfl rfl rfl (by rw [hz2]; omega) (by decide) (Nat.le_refl _) ?_; intro w4 hown hg; have hm := make_zeros hown hg; obtain ⟨hm1, hm2, hm3, hm4, hm5, hm6⟩ := hm; have HM := Hid.mk hm1; have HM6 := Hid.mk hm6; clear hown hg hm1 hm6)
      have HWR := cuts_write (by omega) hB2 hC (by omega) HCI.out HDK.out HBW.out.size HM.out HM6.out
      rw [HBT.out] at HWR
      simp only [Int.natCast_emod, Int.natCast_add, Int.natCast_one] at HWR
      refine HWR.mono ?_
      clear HWR
      rintro e w5 ⟨rfl, hB5, s', hci5, hd5⟩
      have HB5 := Hid.mk (HBW.out.trans hB5)
      have HC5 := Hid.mk hci5
      have HD5 := Hid.mk hd5
      clear hB5 hci5 hd5 hm4 hm5 HM HM6 HCI HDK HBW
      cases bt with
      | false =>
        go_wp2
        go_roundw
        case rel => exact ⟨k + 1, by omega, by go_num, HB5.out, s', HC5.out, HD5.out⟩
        case measure => (clear HB5 HC5 HD5; simp [intOf]; omega)
      | true =>
        go_wp2
        go_roundw
        case rel => exact ⟨k + 1, by omega, by go_num, HB5.out, s', HC5.out, HD5.out⟩
        case measure => (clear HB5 HC5 HD5; simp [intOf]; omega)
    · obtain rfl : N = k := by omega
      have hlg := HCI.out.log
      obtain ⟨L, hL⟩ : ∃ L, s.log.length = L := ⟨_, rfl⟩
      have hL2 : L ≤ 200 := by
        rcases HCI.out.st with ⟨a, _, _, b⟩ | ⟨a, _, b⟩ <;> omega
      have HLG := log_any _ wr d s HDK.out (by omega) (fun j hj => by rw [(hlg j hj).2.1]; omega)
      rw [hL] at HLG
      have HDE : ∀ w', Below wr.heap.size wr w' → Calls Try.prog 14 #[.pointer (some ⟨d, 0, none⟩)] w' fun e w'' => e = .returned (.bool s.dead) ∧ w'' = w' := fun w' hb =>
        dead_any _ w' d s (HDK.out.only (Only.of_new (fun _ => False) hb) (fun _ _ _ h => h))
      have HLG := Hid.mk HLG
      have HLL := Hid.mk hL
      have HLO := Hid.mk hlg
      obtain ⟨dd, wt, hdd, hwt1, hwt2, hwt3⟩ : ∃ (dd : Bool) (wt : Bool), s.dead = dd ∧ decide ((C : Int) < 2 * (N : Int)) = dd ∧ ((((L : Nat) : Int) != (if dd = true then (C : Int) else 2 * (N : Int))) = false) ∧ wt = true := by
        rcases HCI.out.st with ⟨a, b, _, e⟩ | ⟨a, b, e⟩
        · exact ⟨false, true, b, by simp; omega, by simp; omega, rfl⟩
        · exact ⟨true, true, b, by simp; omega, by simp; omega, rfl⟩
      rw [hdd] at HDE
      have HDE := Hid.mk HDE
      clear hL hlg hdd hwt3 wt HCI HDK
      cases dd with
      | false =>
        simp only [if_false, Bool.false_eq_true] at hwt2
        go_wp2_with fail
        refine HLG.out.mono ?_
        rintro e w6 ⟨g0, cells, rfl, hown6, hg6, hlc6, hB6⟩
        have HOW := Hid.mk hown6
        have HLC := Hid.mk hlc6
        have HB6 := Hid.mk hB6
        have HW6 := Hid.mk (HBW.out.trans (hB6.mono HBW.out.size))
        clear hown6 hlc6 hB6 HLG
        go_wp2_with (go_at_call 14; refine (HDE.out _ HB6.out).mono ?_; rintro e w7 ⟨rfl, hw7⟩; subst w7)
        go_loopw [14] (fun i wr2 => ∃ j : Nat, j ≤ L ∧ i = .int .i64 j ∧ ∃ q, wr2 = w6.drewN q) (fun i _ => L - (intOf i).toNat)
        case atStart => exact ⟨0, by omega, rfl, 0, rfl⟩
        case round =>
          obtain ⟨j, hj, rfl, q, rfl⟩ := hrel
          by_cases hlt2 : j < L
          · obtain ⟨gd, capd, X1, v0, y1, y2, y3, y4, y5⟩ := cuts_entry HLL.out HOW.out HLC.out HLO.out j hlt2
            have z1 : ∀ q, (w6.drewN q).cell? ⟨g0, j * 2, none⟩ = some (.int .i64 X1) := fun q => y1
            have z2 : ∀ q, (w6.drewN q).cell? ⟨g0, j * 2 + 1, none⟩ = some (.slice (some ⟨gd, 0, none⟩) 512 capd) := fun q => y2
            have z3 : ∀ q, (w6.drewN q).cell? ⟨gd, 0, none⟩ = some (.int .u8 v0) := fun q => y3
            have e4 : (X1 != (j : Int) / 2 % (B : Int) * 2 + (j : Int) % 2) = false := by rw [y4]; simp
            have e5 : (v0 != (j : Int) / 2 + 1) = false := by rw [y5]; simp
            have b0 : 0 ≤ v0 := by omega
            have hB0 : ¬ B = 0 := by omega
            have hmb : 0 ≤ (j : Int) / 2 % (B : Int) ∧ (j : Int) / 2 % (B : Int) < (B : Int) := ⟨Int.emod_nonneg _ (by omega), Int.emod_lt_of_pos _ (by omega)⟩
            have t1 : ((j : Int) / 2).tmod (B : Int) = (j : Int) / 2 % (B : Int) := Int.tmod_eq_emod_of_nonneg (by omega)
            have t2 : (j : Int).tmod 2 = (j : Int) % 2 := Int.tmod_eq_emod_of_nonneg (by omega)
            have k1 : IntKind.i64.wrap ((j : Int) / 2) = (j : Int) / 2 := by rw [IntKind.wrap_i64]; omega
            have k2 : IntKind.i64.wrap ((j : Int) / 2 % (B : Int) * 2) = (j : Int) / 2 % (B : Int) * 2 := by rw [IntKind.wrap_i64]; omega
            have k3 : IntKind.i64.wrap ((j : Int) / 2 % (B : Int) * 2 + (j : Int) % 2) = (j : Int) / 2 % (B : Int) * 2 + (j : Int) % 2 := by rw [IntKind.wrap_i64]; omega
            have k4 : IntKind.i64.wrap ((j : Int) / 2 + 1) = (j : Int) / 2 + 1 := by rw [IntKind.wrap_i64]; omega
            have k5 : IntKind.i64.wrap v0 = v0 := by rw [IntKind.wrap_i64]; omega
            have k6 : (j : Int) < (L : Int) := by omega
            have k7 : ¬ (L : Int) ≤ (j : Int) := by omega
            have b1 : v0 ≤ 255 := by omega
            clear y1 y2 y3 y4 y5 HOW HLC HLO HW6 HB6 HDE HLL HBW
            go_wp2
            go_quiet (fail)
            go_wp2
            go_roundw
            case rel => exact ⟨j + 1, by omega, by go_num, _, rfl⟩
            case measure => (simp [intOf]; omega)
          · go_wp2
            go_ret
            exact ⟨rfl, below_draws HW6.out _⟩
      | true =>
        simp only [if_true] at hwt2
        go_wp2_with fail
        refine HLG.out.mono ?_
        rintro e w6 ⟨g0, cells, rfl, hown6, hg6, hlc6, hB6⟩
        have HOW := Hid.mk hown6
        have HLC := Hid.mk hlc6
        have HB6 := Hid.mk hB6
        have HW6 := Hid.mk (HBW.out.trans (hB6.mono HBW.out.size))
        clear hown6 hlc6 hB6 HLG
        go_wp2_with (go_at_call 14; refine (HDE.out _ HB6.out).mono ?_; rintro e w7 ⟨rfl, hw7⟩; subst w7)
        go_loopw [14] (fun i wr2 => ∃ j : Nat, j ≤ L ∧ i = .int .i64 j ∧ ∃ q, wr2 = w6.drewN q) (fun i _ => L - (intOf i).toNat)
        case atStart => exact ⟨0, by omega, rfl, 0, rfl⟩
        case round =>
          obtain ⟨j, hj, rfl, q, rfl⟩ := hrel
          by_cases hlt2 : j < L
          · obtain ⟨gd, capd, X1, v0, y1, y2, y3, y4, y5⟩ := cuts_entry HLL.out HOW.out HLC.out HLO.out j hlt2
            have z1 : ∀ q, (w6.drewN q).cell? ⟨g0, j * 2, none⟩ = some (.int .i64 X1) := fun q => y1
            have z2 : ∀ q, (w6.drewN q).cell? ⟨g0, j * 2 + 1, none⟩ = some (.slice (some ⟨gd, 0, none⟩) 512 capd) := fun q => y2
            have z3 : ∀ q, (w6.drewN q).cell? ⟨gd, 0, none⟩ = some (.int .u8 v0) := fun q => y3
            have e4 : (X1 != (j : Int) / 2 % (B : Int) * 2 + (j : Int) % 2) = false := by rw [y4]; simp
            have e5 : (v0 != (j : Int) / 2 + 1) = false := by rw [y5]; simp
            have b0 : 0 ≤ v0 := by omega
            have hB0 : ¬ B = 0 := by omega
            have hmb : 0 ≤ (j : Int) / 2 % (B : Int) ∧ (j : Int) / 2 % (B : Int) < (B : Int) := ⟨Int.emod_nonneg _ (by omega), Int.emod_lt_of_pos _ (by omega)⟩
            have t1 : ((j : Int) / 2).tmod (B : Int) = (j : Int) / 2 % (B : Int) := Int.tmod_eq_emod_of_nonneg (by omega)
            have t2 : (j : Int).tmod 2 = (j : Int) % 2 := Int.tmod_eq_emod_of_nonneg (by omega)
            have k1 : IntKind.i64.wrap ((j : Int) / 2) = (j : Int) / 2 := by rw [IntKind.wrap_i64]; omega
            have k2 : IntKind.i64.wrap ((j : Int) / 2 % (B : Int) * 2) = (j : Int) / 2 % (B : Int) * 2 := by rw [IntKind.wrap_i64]; omega
            have k3 : IntKind.i64.wrap ((j : Int) / 2 % (B : Int) * 2 + (j : Int) % 2) = (j : Int) / 2 % (B : Int) * 2 + (j : Int) % 2 := by rw [IntKind.wrap_i64]; omega
            have k4 : IntKind.i64.wrap ((j : Int) / 2 + 1) = (j : Int) / 2 + 1 := by rw [IntKind.wrap_i64]; omega
            have k5 : IntKind.i64.wrap v0 = v0 := by rw [IntKind.wrap_i64]; omega
            have k6 : (j : Int) < (L : Int) := by omega
            have k7 : ¬ (L : Int) ≤ (j : Int) := by omega
            have b1 : v0 ≤ 255 := by omega
            clear y1 y2 y3 y4 y5 HOW HLC HLO HW6 HB6 HDE HLL HBW
            go_wp2
            go_quiet (fail)
            go_wp2
            go_roundw
            case rel => exact ⟨j + 1, by omega, by go_num, _, rfl⟩
            case measure => (simp [intOf]; omega)
          · go_wp2
            go_ret
            exact ⟨rfl, below_draws HW6.out _⟩

end Go.Proofs.Ytochgjajlojfeaa
