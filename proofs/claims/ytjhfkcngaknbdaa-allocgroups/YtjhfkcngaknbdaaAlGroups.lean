/-
  AllocGroups: a group's own are given first, then those behind it, then those of the first ones.
-/
import Derived.Test.YtjhfkcngaknbdaaAlAlive
namespace Go.Proofs.Ytjhfkcngaknbdaa
open Go Go.Proofs Go.RowKit Go.Shelf

/-- What a round leans on. -/
def GpAt (w : World) (b gb g : Nat) (ti td : Nat → Bool) (W : World) : Prop := AlAt W b g 1 8 ti td ∧ GAt gb g 1 8 W ∧ w.heap.size ≤ b ∧ w.heap.size ≤ gb ∧ gb ≠ b ∧ Below w.heap.size w W
theorem GpAt.then {w W W' : World} {b gb g : Nat} {ti td ti' td' : Nat → Bool} (h : GpAt w b gb g ti td W) (hA : AlAt W' b g 1 8 ti' td') (hO : Only (fun k => k = b) W W') : GpAt w b gb g ti' td' W' := by
  obtain ⟨h1, h2, h3, h4, h5, h6⟩ := h
  refine ⟨hA, ?_, h3, h4, h5, h6.trans (hO.below h6.size (fun k e => by omega))⟩
  unfold GAt
  rw [hO.block gb h2.lt h5]
  exact h2
theorem GpAt.below {w W W' : World} {b gb g : Nat} {ti td : Nat → Bool} (h : GpAt w b gb g ti td W) (hB : Below W.heap.size W W') : GpAt w b gb g ti td W' :=
  ⟨h.1.below hB, h.2.1.below hB h.2.1.lt, h.2.2.1, h.2.2.2.1, h.2.2.2.2.1, h.2.2.2.2.2.trans (hB.mono h.2.2.2.2.2.size)⟩
set_option maxRecDepth 100000 in
theorem groups_out (w : World) (a0 a1 : Int) (h : a0 < 1 ∨ 8 < a0 ∨ a1 < 0 ∨ a0 ≤ a1) : Calls Try.prog 5 #[.int .i64 a0, .int .i64 a1] w fun e w' => e = .returned (.bool true) ∧ Below w.heap.size w w' := by
  have HAL := Hid.mk (alive_any w)
  by_cases h1 : a0 < 1
  · clear h
    go_enter Try.func5, Try.ntmps5
    go_wp2_with (go_at_call 7; refine HAL.out.mono ?_; rintro e w1 ⟨rfl, hB1⟩)
    go_ret
    exact ⟨rfl, hB1⟩
  by_cases h2 : 8 < a0
  · clear h
    go_enter Try.func5, Try.ntmps5
    go_wp2_with (go_at_call 7; refine HAL.out.mono ?_; rintro e w1 ⟨rfl, hB1⟩)
    go_ret
    exact ⟨rfl, hB1⟩
  by_cases h3 : a1 < 0
  · clear h
    go_enter Try.func5, Try.ntmps5
    go_wp2_with (go_at_call 7; refine HAL.out.mono ?_; rintro e w1 ⟨rfl, hB1⟩)
    go_ret
    exact ⟨rfl, hB1⟩
  have h4 : a0 ≤ a1 := by omega
  clear h
  go_enter Try.func5, Try.ntmps5
  go_wp2_with (go_at_call 7; refine HAL.out.mono ?_; rintro e w1 ⟨rfl, hB1⟩)
  go_ret
  exact ⟨rfl, hB1⟩
theorem mod_int {a b : Nat} (hb : 0 < b) (hbb : b < 100000) : Int.tmod (a : Int) (b : Int) = ((a % b : Nat) : Int) ∧ IntKind.i64.wrap (((a % b : Nat)) : Int) = ((a % b : Nat) : Int) := by
  constructor
  · rw [Int.tmod_eq_emod_of_nonneg (by omega)]; rfl
  · have := Nat.mod_lt a hb
    rw [IntKind.wrap_i64]; omega
set_option maxRecDepth 100000 in
set_option maxHeartbeats 4000000 in
theorem groups_in (w : World) (g f : Nat) (hg1 : 1 ≤ g) (hg8 : g ≤ 8) (hf : f < g) : Calls Try.prog 5 #[.int .i64 g, .int .i64 f] w fun e w' => e = .returned (.bool true) ∧ Below w.heap.size w w' := by
  have HAL := Hid.mk (alive_any w)
  have HNEW : Hid (∀ W, Calls Try.prog 9 #[.agg #[.int .i64 g, .int .i64 1, .int .i64 8]] W fun e w' => ∃ b, e = .returned (.pointer (some ⟨b, 0, none⟩)) ∧ Hid (W.heap.size ≤ b ∧ AlAt w' b g 1 8 noT noT ∧ Below W.heap.size W w')) := Hid.mk (fun W => by
    refine (new_yes W g 1 8 (good_iff.2 (by omega))).mono ?_
    rintro e w' ⟨b, rfl, h⟩
    exact ⟨b, rfl, Hid.mk h⟩)
  obtain ⟨g16, hg16⟩ : ∃ n, n = 16 * g := ⟨_, rfl⟩
  obtain ⟨f16, hf16⟩ : ∃ n, n = 16 * f := ⟨_, rfl⟩
  obtain ⟨g8, hgg⟩ : ∃ n, n = 8 * g := ⟨_, rfl⟩
  obtain ⟨f8, hf8⟩ : ∃ n, n = 8 * f := ⟨_, rfl⟩
  have w1' : IntKind.i64.wrap (16 * (g : Int)) = (g16 : Int) := by rw [IntKind.wrap_i64]; omega
  have w2' : IntKind.i64.wrap (16 * (f : Int)) = (f16 : Int) := by rw [IntKind.wrap_i64]; omega
  have w3' : IntKind.i64.wrap (8 * (g : Int)) = (g8 : Int) := by rw [IntKind.wrap_i64]; omega
  have w4' : IntKind.i64.wrap (8 * (f : Int)) = (f8 : Int) := by rw [IntKind.wrap_i64]; omega
  have h1 : ¬ (g : Int) < 1 := by omega
  have h2 : ¬ (8 : Int) < (g : Int) := by omega
  have h3 : ¬ (f : Int) < 0 := by omega
  have h4 : ¬ (g : Int) ≤ (f : Int) := by omega
  have HF : Hid (1 ≤ g ∧ g ≤ 8 ∧ f < g ∧ g16 = 16 * g ∧ f16 = 16 * f ∧ g8 = 8 * g ∧ f8 = 8 * f) := Hid.mk ⟨hg1, hg8, hf, hg16, hf16, hgg, hf8⟩
  have HINO : Hid (∀ W b gb ti (k : Nat), k < g16 → Rnd ti g16 f16 k → GpAt w b gb g ti noT W → Calls Try.prog 11 #[.pointer (some ⟨b, 0, none⟩), .int .i64 f] W fun e w' => e = .returned (.tuple #[.int .i64 (((f16 + k) % g16 + 1 : Nat) : Int), .bool true]) ∧ Hid (∃ ti', Rnd ti' g16 f16 (k + 1) ∧ GpAt w b gb g ti' noT w')) := Hid.mk (fun W b gb ti k hk hR hG => by
    have e : nxI g 1 ti (f : Int) = nextN ti g16 f16 := by unfold nxI; rw [grp_in hf, hg16, hf16]; congr 1 <;> omega
    have hn := hR.next (by omega) hk
    refine (inode_any W b g 1 8 ti noT hG.1 f).mono ?_
    rintro e w' ⟨rfl, hA, hO⟩
    rw [e, hn] at hA ⊢
    exact ⟨rfl, Hid.mk ⟨_, hR.step (by omega) hk, hG.then hA hO⟩⟩)
  have HBLK : Hid (∀ W b gb ti td (k : Nat), k < g8 → Rnd td g8 f8 k → GpAt w b gb g ti td W → Calls Try.prog 12 #[.pointer (some ⟨b, 0, none⟩), .int .i64 f] W fun e w' => e = .returned (.tuple #[.int .i64 (daI g 1 8 ((f8 + k) % g8 : Nat)), .bool true]) ∧ Hid (∃ td', Rnd td' g8 f8 (k + 1) ∧ GpAt w b gb g ti td' w')) := Hid.mk (fun W b gb ti td k hk hR hG => by
    have e : nxD g 8 td (f : Int) = nextN td g8 f8 := by unfold nxD; rw [grp_in hf, hgg, hf8]; congr 1 <;> omega
    have hn := hR.next (by omega) hk
    have hlt := Nat.mod_lt (f8 + k) (show 0 < g8 by omega)
    refine (block_any W b g 1 8 ti td hG.1 f).mono ?_
    rintro e w' ⟨rfl, hA, hO⟩
    rw [e, hn] at hA ⊢
    have hd := (da_yes (G := g) (I := 1) (D := 8) (n := (((f8 + k) % g8 : Nat) : Int)) (good_iff.2 (by omega)) (by omega) (by omega)).1
    refine ⟨?_, Hid.mk ⟨_, hR.step (by omega) hk, hG.then hA hO⟩⟩
    unfold blR
    dsimp only
    rw [show ((1 : Nat) : Int) = 1 from rfl, show ((8 : Nat) : Int) = 8 from rfl, hd])
  clear hg1 hg8 hf hg16 hf16 hgg hf8
  go_enter Try.func5, Try.ntmps5
  go_wp2_with (first
    | (go_at_call 7; refine HAL.out.mono ?_; rintro e w1 ⟨rfl, hB1⟩; have HB1 := Hid.mk hB1; clear hB1)
    | (go_at_call 9; refine (HNEW.out _).mono ?_; rintro e w2 ⟨b, rfl, H2⟩))
  obtain ⟨gb, hgb⟩ : ∃ gb, gb = w1.heap.size := ⟨_, rfl⟩
  have HGP : Hid (GpAt w b gb g noT noT w2) := Hid.mk (by
    obtain ⟨hb, hA, hB⟩ := H2.out
    rw [World.size_alloc] at hb
    have hs := HB1.out.size
    refine ⟨hA, (GAt.new w1 g 1 8).below hB (by simp) |> fun h => by rw [hgb]; exact h, by omega, by omega, by omega, ?_⟩
    exact (HB1.out.alloc hs _).trans (hB.mono (by rw [World.size_alloc]; omega)))
  rw [← hgb]
  clear hgb H2 HNEW HAL HB1
  go_loopw [8] (fun i wr => ∃ k : Nat, i = .int .i64 k ∧ Hid (k ≤ g16 ∧ ∃ ti, Rnd ti g16 f16 k ∧ GpAt w b gb g ti noT wr)) (fun i _ => g16 - (intOf i).toNat)
  case atStart => exact ⟨0, rfl, Hid.mk ⟨by omega, _, Rnd.zero _ _, HGP.out⟩⟩
  case round =>
    obtain ⟨k, rfl, HK⟩ := hrel
    obtain ⟨hk, ti, hR, hG⟩ := HK.out
    by_cases hlt : (k : Int) < (g16 : Int)
    · obtain ⟨F1, F2, F3, F4, F5, F6, F7⟩ := HF.out
      have HC := Hid.mk (HINO.out wr b gb ti k (by omega) hR hG)
      obtain ⟨m, hm⟩ : ∃ m, m = (f16 + k) % g16 := ⟨_, rfl⟩
      have hmlt : m < g16 := by rw [hm]; exact Nat.mod_lt _ (by omega)
      obtain ⟨hmd, hmw⟩ := mod_int (a := f16 + k) (b := g16) (by omega) (by omega)
      rw [← hm] at HC hmd hmw
      obtain ⟨fk, hfk⟩ : ∃ n, n = f16 + k := ⟨_, rfl⟩
      rw [← hfk] at hmd
      have v1 : IntKind.i64.wrap ((f16 : Int) + (k : Int)) = (fk : Int) := by rw [IntKind.wrap_i64]; omega
      obtain ⟨m1, hm1⟩ : ∃ n, n = m + 1 := ⟨_, rfl⟩
      rw [← hm1] at HC
      have v2 : IntKind.i64.wrap ((m : Int) + 1) = (m1 : Int) := by rw [IntKind.wrap_i64]; omega
      obtain ⟨k1, hk1⟩ : ∃ n, n = k + 1 := ⟨_, rfl⟩
      have v3 : IntKind.i64.wrap ((k : Int) + 1) = (k1 : Int) := by rw [IntKind.wrap_i64]; omega
      have v4 : ¬ (g16 : Int) = 0 := by omega
      have v5 : ((g16 : Int) == 0) = false := by simp; omega
      have v6 : ¬ g16 = 0 := by omega
      have HK1 : Hid (k1 = k + 1 ∧ k < g16) := Hid.mk ⟨hk1, by omega⟩
      clear F1 F2 F3 F4 F5 F6 F7 hk hR hG hm hmlt hfk hm1 hk1 HK HINO HBLK HF
      go_wp2_with (go_at_call 11; refine HC.out.mono ?_; rintro e w4 ⟨rfl, H4⟩)
      go_roundw
      case rel =>
        obtain ⟨ti', hR', hG'⟩ := H4.out
        obtain ⟨e1, e2⟩ := HK1.out
        rw [← e1] at hR'
        exact ⟨k1, rfl, Hid.mk ⟨by omega, ti', hR', hG'⟩⟩
      case measure =>
        obtain ⟨e1, e2⟩ := HK1.out
        clear HC H4 HGP
        simp [intOf]
        omega
    · have HKG := Hid.mk hG
      clear hk hR hG HK
      go_wp2
      go_loopw [11] (fun i wr => ∃ k : Nat, i = .int .i64 k ∧ Hid (k ≤ g8 ∧ ∃ td, Rnd td g8 f8 k ∧ GpAt w b gb g ti td wr)) (fun i _ => g8 - (intOf i).toNat)
      case atStart => exact ⟨0, rfl, Hid.mk ⟨by omega, _, Rnd.zero _ _, HKG.out⟩⟩
      case round =>
        obtain ⟨k, rfl, HK⟩ := hrel
        obtain ⟨hk, td, hR, hG⟩ := HK.out
        by_cases hlt2 : (k : Int) < (g8 : Int)
        · obtain ⟨F1, F2, F3, F4, F5, F6, F7⟩ := HF.out
          have HC := Hid.mk (HBLK.out wr b gb ti td k (by omega) hR hG)
          obtain ⟨m, hm⟩ : ∃ m, m = (f8 + k) % g8 := ⟨_, rfl⟩
          have hmlt : m < g8 := by rw [hm]; exact Nat.mod_lt _ (by omega)
          obtain ⟨hmd, hmw⟩ := mod_int (a := f8 + k) (b := g8) (by omega) (by omega)
          rw [← hm] at HC hmd hmw
          obtain ⟨fk, hfk⟩ : ∃ n, n = f8 + k := ⟨_, rfl⟩
          rw [← hfk] at hmd
          have v1 : IntKind.i64.wrap ((f8 : Int) + (k : Int)) = (fk : Int) := by rw [IntKind.wrap_i64]; omega
          obtain ⟨k1, hk1⟩ : ∃ n, n = k + 1 := ⟨_, rfl⟩
          have v3 : IntKind.i64.wrap ((k : Int) + 1) = (k1 : Int) := by rw [IntKind.wrap_i64]; omega
          have v4 : ¬ (g8 : Int) = 0 := by omega
          have v5 : ((g8 : Int) == 0) = false := by simp; omega
          have v6 : ¬ g8 = 0 := by omega
          have HK1 : Hid (k1 = k + 1 ∧ k < g8) := Hid.mk ⟨hk1, by omega⟩
          have HDA := Hid.mk (fun W => rdata_any W g 1 8 m)
          have hda := (da_yes (G := g) (I := 1) (D := 8) (n := (m : Int)) (good_iff.2 (by omega)) (by omega) (by omega)).1
          rw [hda] at HDA
          generalize daI (g : Int) 1 8 (m : Int) = x at *
          clear F1 F2 F3 F4 F5 F6 F7 hk hR hG hm hmlt hfk hk1 HK HINO HBLK HF hda HKG HGP
          go_wp2_with (go_at_call 12; refine HC.out.mono ?_; rintro e w4 ⟨rfl, H4⟩)
          have HK : Hid (∀ W', Below w4.heap.size w4.drew W' → G3 gb g 1 8 W') := Hid.mk (fun W' hB => by
            obtain ⟨td', hR', hG'⟩ := H4.out
            exact (GAt.below (W := w4.drew) hG'.2.1 hB hG'.2.1.lt).g3)
          refine wp_region_held_drew (S := G3 gb g 1 8) (by kernel_rfl) (HK.out _ (Below.refl _ _)) (fun hH => ?_)
          change wpAnyH Try.prog Region.Mode.any _ _ _ 14 _ _ _
          refine takeH 0 80 (geo g 1 8) rfl (by kernel_rfl) (by kernel_rfl) (by kernel_rfl) (by kernel_rfl) (fun _ _ _ h => h) (by kernel_rfl) (fun w hw => by (try dsimp only at hw); go_simp) hH ?_
          simp only [List.setIfInBounds_toArray, List.set_cons_zero, List.set_cons_succ]
          refine takeH 1 81 (.int .i64 f) rfl (by kernel_rfl) (by kernel_rfl) (by kernel_rfl) (by kernel_rfl) (fun _ _ _ h => h) (by kernel_rfl) (fun w hw => by kernel_rfl) hH ?_
          simp only [List.setIfInBounds_toArray, List.set_cons_zero, List.set_cons_succ]
          refine takeH 2 82 (.int .i64 f8) rfl (by kernel_rfl) (by kernel_rfl) (by kernel_rfl) (by kernel_rfl) (fun _ _ _ h => h) (by kernel_rfl) (fun w hw => by (try dsimp only at hw); go_simp) hH ?_
          simp only [List.setIfInBounds_toArray, List.set_cons_zero, List.set_cons_succ]
          refine takeH 3 83 (.int .i64 k) rfl (by kernel_rfl) (by kernel_rfl) (by kernel_rfl) (by kernel_rfl) (fun _ _ _ h => h) (by kernel_rfl) (fun w hw => by kernel_rfl) hH ?_
          simp only [List.setIfInBounds_toArray, List.set_cons_zero, List.set_cons_succ]
          refine takeH 4 84 (.int .i64 fk) rfl (by kernel_rfl) (by kernel_rfl) (by kernel_rfl) (by kernel_rfl) (fun _ _ _ h => h) (by kernel_rfl) (fun w hw => by (try dsimp only at hw); go_simp) hH ?_
          simp only [List.setIfInBounds_toArray, List.set_cons_zero, List.set_cons_succ]
          refine takeH 5 85 (.int .i64 g) rfl (by kernel_rfl) (by kernel_rfl) (by kernel_rfl) (by kernel_rfl) (fun _ _ _ h => h) (by kernel_rfl) (fun w hw => by kernel_rfl) hH ?_
          simp only [List.setIfInBounds_toArray, List.set_cons_zero, List.set_cons_succ]
          refine takeH 6 86 (.int .i64 g8) rfl (by kernel_rfl) (by kernel_rfl) (by kernel_rfl) (by kernel_rfl) (fun _ _ _ h => h) (by kernel_rfl) (fun w hw => by (try dsimp only at hw); go_simp) hH ?_
          simp only [List.setIfInBounds_toArray, List.set_cons_zero, List.set_cons_succ]
          refine takeH 7 87 (.int .i64 m) rfl (by kernel_rfl) (by kernel_rfl) (by kernel_rfl) (by kernel_rfl) (fun _ _ _ h => h) (by kernel_rfl) (fun w hw => by (try dsimp only at hw); go_simp) hH ?_
          simp only [List.setIfInBounds_toArray, List.set_cons_zero, List.set_cons_succ]
          refine stepH_call 8 88 rfl (by kernel_rfl) (by kernel_rfl) (by kernel_rfl) 25 #[.tmp 80, .tmp 87] #[23, 3] (by kernel_rfl) (enters_of Try.func25 (by kernel_rfl) rfl) #[geo g 1 8, .int .i64 m] (by kernel_rfl) (HDA.out _) ?_
          rintro e w6 ⟨rfl, hB6⟩
          have hH6 := HK.out _ hB6
          refine ⟨_, rfl, hH6, ?_⟩
          simp only [List.setIfInBounds_toArray, List.set_cons_zero, List.set_cons_succ]
          refine takeH 9 79 (.tuple #[.int .i64 x, .bool true]) rfl (by kernel_rfl) (by kernel_rfl) (by kernel_rfl) (by kernel_rfl) (fun _ _ _ h => h) (by kernel_rfl) (fun w hw => by kernel_rfl) hH6 ?_
          simp only [List.setIfInBounds_toArray, List.set_cons_zero, List.set_cons_succ]
          refine takeH 10 89 (.int .i64 x) rfl (by kernel_rfl) (by kernel_rfl) (by kernel_rfl) (by kernel_rfl) (fun _ _ _ h => h) (by kernel_rfl) (fun w hw => by (try dsimp only at hw); go_simp) hH6 ?_
          simp only [List.setIfInBounds_toArray, List.set_cons_zero, List.set_cons_succ]
          refine takeH 11 90 (.bool true) rfl (by kernel_rfl) (by kernel_rfl) (by kernel_rfl) (by kernel_rfl) (fun _ _ _ h => h) (by kernel_rfl) (fun w hw => by (try dsimp only at hw); go_simp) hH6 ?_
          simp only [List.setIfInBounds_toArray, List.set_cons_zero, List.set_cons_succ]
          refine takeH 12 14 (.int .i64 x) rfl (by kernel_rfl) (by kernel_rfl) (by kernel_rfl) (by kernel_rfl) (fun _ _ _ h => h) (by kernel_rfl) (fun w hw => by kernel_rfl) hH6 ?_
          simp only [List.setIfInBounds_toArray, List.set_cons_zero, List.set_cons_succ]
          refine takeH 13 15 (.bool true) rfl (by kernel_rfl) (by kernel_rfl) (by kernel_rfl) (by kernel_rfl) (fun _ _ _ h => h) (by kernel_rfl) (fun w hw => by kernel_rfl) hH6 ?_
          simp only [List.setIfInBounds_toArray, List.set_cons_zero, List.set_cons_succ]
          refine wpAnyH_done (by kernel_rfl) ?_ _
          go_wp2
          go_roundw
          case rel =>
            obtain ⟨td', hR', hG'⟩ := H4.out
            obtain ⟨e1, e2⟩ := HK1.out
            rw [← e1] at hR'
            exact ⟨k1, rfl, Hid.mk ⟨by omega, td', hR', hG'.below ⟨hB6.os, hB6.tape, hB6.output, hB6.size, hB6.block⟩⟩⟩
          case measure =>
            obtain ⟨e1, e2⟩ := HK1.out
            clear HC H4 HK HDA hB6 hH hH6
            simp [intOf]
            omega
        · clear hk hR
          go_wp2
          go_ret
          exact ⟨rfl, hG.2.2.2.2.2⟩
end Go.Proofs.Ytjhfkcngaknbdaa
