/-
  BitsTell: what every row of bits tells of every place.
-/
import Derived.Test.YtpcafjaajklkoaaTellBase
namespace Go.Proofs.Ytpcafjaajklkoaa
open Go Go.Proofs Go.RowKit Go.Shelf

set_option maxRecDepth 100000 in
set_option maxHeartbeats 8000000 in
theorem tell_short (w : World) (ao : Option Addr) (n c : Nat) (xs : List Int) (h : BAt w ao n xs) (hx : ∀ x ∈ xs, 0 ≤ x ∧ x ≤ 255) (hnone : ao = none → n = 0 ∧ c = 0) (hn : n ≤ 2000) (i m f : Int) (hi : I64 i) (hm : I64 m) (hf : I64 f) (on : Bool) :
    Calls Try.prog 3 #[.slice ao n c, .int .i64 i, .int .i64 m, .int .i64 f, .bool on] w fun e w' => e = .returned (.bool true) ∧ Below w.heap.size w w' := by
  have HA := Hid.mk (alive_any w)
  have hn5 : decide ((2000 : Int) < (n : Int)) = false := decide_eq_false (by omega)
  have HH := Hid.mk h
  have HX := Hid.mk hx
  have HN := Hid.mk hnone
  have HI := Hid.mk hi
  have HM := Hid.mk hm
  have HF := Hid.mk hf
  have hw1 : IntKind.i64.wrap ((n : Int) + 1) = (n : Int) + 1 := by rw [IntKind.wrap_i64]; omega
  clear h hx hnone hi hm hf
  go_enter Try.func3, Try.ntmps3
  go_wp2_with (first
    | (go_at_call 6; refine HA.out.mono ?_; rintro e w1 ⟨rfl, hB⟩; obtain ⟨v1, W1, g, cap, W3, r1, r2, hown, hB3⟩ := own_runs w1 ao n c xs (HH.out.only (Only.of_new (fun _ => False) hB) (fun _ _ _ h => h)) hn HN.out; obtain ⟨hTB, hcap⟩ := own_TB HH.out hB hown hB3; obtain ⟨ga, hga⟩ : ∃ ga : Addr, ga = ⟨g, 0, none⟩ := ⟨_, rfl⟩; rw [← hga] at r2 hTB; have R1 := Hid.mk r1; have R2 := Hid.mk r2; have HTB := Hid.mk hTB; clear r1 r2 hTB hown hB3 hB hga)
    | (at_builtin; refine wpList_append_known rfl (.const (.slice none 0 0)) (.tmp 29) 22 rfl (.slice none 0 0) (.slice ao n c) _ _ rfl rfl R1.out ?_)
    | (at_builtin; refine wpList_append_known rfl (.tmp 30) (.tmp 31) 22 rfl v1 (.slice (some ⟨W1.heap.size, 0, none⟩) 1 1) _ _ rfl rfl R2.out ?_)
    | (go_at_call 7; refine (with_any W3 (some ga) n cap i HI.out on xs HTB.out.2.1 HX.out (by simp) (by omega)).mono ?_; rintro e w4 ⟨v4, rfl, hown4, hB4⟩; obtain ⟨ao3, c3, rfl, hb4, hblk4, -⟩ := owns_BAt hown4; have HO4 := Hid.mk hown4; have HB4 := Hid.mk hB4; have HY4 := Hid.mk hb4; have HBK := Hid.mk hblk4; clear hown4 hB4 hb4 hblk4))
  have hT4 := HTB.out.below HB4.out
  have hgl : ga.block < W3.heap.size := by have := cell_in HTB.out.2.2.1; rwa [add_block] at this
  have hws : w.heap.size ≤ W3.heap.size := HTB.out.2.2.2.size
  have hal : ∀ a, ao = some a → 0 < n → a.block < w.heap.size := fun a e hn => by
    obtain ⟨a', e', hlt, _⟩ := HH.out.2 hn
    rw [e] at e'; cases e'
    exact hlt
  have HAP : Hid (∀ k, (∃ a, ao3 = some a ∧ k = a.block) → k ≠ ga.block ∧ w.heap.size ≤ k ∧ ∀ a, ao = some a → 0 < n → k ≠ a.block) := Hid.mk (by
    rintro k ⟨a, e, rfl⟩
    have h1 := (HBK.out a e).1
    refine ⟨by omega, by omega, fun a' e' hn' => ?_⟩
    have := hal a' e' hn'
    omega)
  clear hgl hws hal
  obtain ⟨SX, hSX⟩ : ∃ SX, strOfNums xs = SX := ⟨_, rfl⟩
  obtain ⟨SY, hSY⟩ : ∃ SY, strOfNums (withI xs i on) = SY := ⟨_, rfl⟩
  have HK : Hid (∀ W' : World, Below w4.drew.heap.size w4.drew W' → ((convert 22 9 (.slice ao3 n c3)).run Try.prog W' = .ok (.string SY) W' ∧ (convert 22 9 (.slice (some ga) n cap)).run Try.prog W' = .ok (.string SX) W' ∧ (convert 22 9 (.slice ao n c)).run Try.prog W' = .ok (.string SX) W' ∧ W'.cell? (ga.add n) = some (.int .u8 77))) := Hid.mk (fun W' hB' => by
    have hB2 : Below w4.heap.size w4 W' := ⟨hB'.os, hB'.tape, hB'.output, hB'.size, hB'.block⟩
    have hT' := hT4.below hB2
    have hy' := HY4.out.only (Only.of_new (fun _ => False) hB2) (fun _ _ _ h => h)
    refine ⟨?_, ?_, ?_, hT'.2.2.1⟩
    · rw [← hSY]; exact conv_bytes _ _ _ _ _ hy'
    · rw [← hSX]; exact conv_bytes _ _ _ _ _ hT'.2.1
    · rw [← hSX]; exact conv_bytes _ _ _ _ _ hT'.1)
  have hb4 : BAt w4.drew ao n xs := hT4.1.only (Only.refl (fun _ => False) w4).drew (fun _ _ _ x => x)
  have HRW := Hid.mk (refwith_any w4.drew ao n c i HI.out on xs hb4 HN.out (by omega))
  have HT4 := Hid.mk hT4
  have HSX := Hid.mk hSX
  have HSY := Hid.mk hSY
  have j1 : (n : Int) + 1 ≤ (cap : Int) := by omega
  have j2 : (0 : Int) ≤ (n : Int) + 1 := by omega
  have j3 : ((n : Int) + 1).toNat = n + 1 := by omega
  clear hT4 hSX hSY hb4 HTB R1 R2
  refine wp_region_held_drew (S := fun W' => (convert 22 9 (.slice ao3 n c3)).run Try.prog W' = .ok (.string SY) W' ∧ (convert 22 9 (.slice (some ga) n cap)).run Try.prog W' = .ok (.string SX) W' ∧ (convert 22 9 (.slice ao n c)).run Try.prog W' = .ok (.string SX) W' ∧ W'.cell? (ga.add n) = some (.int .u8 77)) (by kernel_rfl) (HK.out _ (Below.refl _ _)) (fun hH => ?_)
  change wpAnyH Try.prog Region.Mode.any _ _ _ 28 _ _ _
  refine takeH 0 40 (.slice ao3 n c3) rfl (by kernel_rfl) (by kernel_rfl) (by kernel_rfl) (by kernel_rfl) (fun _ _ _ h => h) (by kernel_rfl) (fun w hw => by kernel_rfl) hH ?_
  simp only [List.setIfInBounds_toArray, List.set_cons_zero, List.set_cons_succ]
  refine takeH 1 41 (.string SY) rfl (by kernel_rfl) (by kernel_rfl) (by kernel_rfl) (by kernel_rfl) (fun _ _ _ h => h) (by kernel_rfl) (fun w hw => by (try dsimp only at hw); go_simp) hH ?_
  simp only [List.setIfInBounds_toArray, List.set_cons_zero, List.set_cons_succ]
  refine takeH 2 42 (.slice ao n c) rfl (by kernel_rfl) (by kernel_rfl) (by kernel_rfl) (by kernel_rfl) (fun _ _ _ h => h) (by kernel_rfl) (fun w hw => by kernel_rfl) hH ?_
  simp only [List.setIfInBounds_toArray, List.set_cons_zero, List.set_cons_succ]
  refine takeH 3 43 (.int .i64 i) rfl (by kernel_rfl) (by kernel_rfl) (by kernel_rfl) (by kernel_rfl) (fun _ _ _ h => h) (by kernel_rfl) (fun w hw => by kernel_rfl) hH ?_
  simp only [List.setIfInBounds_toArray, List.set_cons_zero, List.set_cons_succ]
  refine takeH 4 44 (.bool on) rfl (by kernel_rfl) (by kernel_rfl) (by kernel_rfl) (by kernel_rfl) (fun _ _ _ h => h) (by kernel_rfl) (fun w hw => by kernel_rfl) hH ?_
  simp only [List.setIfInBounds_toArray, List.set_cons_zero, List.set_cons_succ]
  refine stepH_call3 5 45 rfl (by kernel_rfl) (by kernel_rfl) (by kernel_rfl) 8 (.tmp 42) (.tmp 43) (.tmp 44) #[22, 3, 4] (by kernel_rfl) (enters_of Try.func8 (by kernel_rfl) rfl) (.slice ao n c) (.int .i64 i) (.bool on) (by kernel_rfl) (by kernel_rfl) (by kernel_rfl) HRW.out ?_
  rintro e w5 ⟨v5, rfl, hown5, hB5⟩
  obtain ⟨ao5, c5, rfl, hb5, -, -⟩ := owns_BAt hown5
  have cv5 := conv_bytes w5 ao5 n c5 _ hb5
  rw [HSY.out] at cv5
  have hH5 := HK.out w5 hB5
  refine ⟨_, rfl, hH5, ?_⟩
  have HB5 := Hid.mk hB5
  clear hown5 hb5 hB5
  simp only [List.setIfInBounds_toArray, List.set_cons_zero, List.set_cons_succ]
  refine stepH 6 46 (.string SY) rfl (by kernel_rfl) (by kernel_rfl) (by kernel_rfl) (by go_simp) hH5 ?_
  simp only [List.setIfInBounds_toArray, List.set_cons_zero, List.set_cons_succ]
  refine takeH 7 47 (.bool true) rfl (by kernel_rfl) (by kernel_rfl) (by kernel_rfl) (by kernel_rfl) (fun _ _ _ h => h) (by kernel_rfl) (fun w hw => by (try dsimp only at hw); go_simp) hH5 ?_
  simp only [List.setIfInBounds_toArray, List.set_cons_zero, List.set_cons_succ]
  refine takeH 8 48 (.bool true) rfl (by kernel_rfl) (by kernel_rfl) (by kernel_rfl) (by kernel_rfl) (fun _ _ _ h => h) (by kernel_rfl) (fun w hw => by kernel_rfl) hH5 ?_
  simp only [List.setIfInBounds_toArray, List.set_cons_zero, List.set_cons_succ]
  refine takeH 9 49 (.slice (some ga) n cap) rfl (by kernel_rfl) (by kernel_rfl) (by kernel_rfl) (by kernel_rfl) (fun _ _ _ h => h) (by kernel_rfl) (fun w hw => by kernel_rfl) hH5 ?_
  simp only [List.setIfInBounds_toArray, List.set_cons_zero, List.set_cons_succ]
  refine takeH 10 50 (.string SX) rfl (by kernel_rfl) (by kernel_rfl) (by kernel_rfl) (by kernel_rfl) (fun _ _ _ h => h) (by kernel_rfl) (fun w hw => by (try dsimp only at hw); go_simp) hH5 ?_
  simp only [List.setIfInBounds_toArray, List.set_cons_zero, List.set_cons_succ]
  refine takeH 11 51 (.slice ao n c) rfl (by kernel_rfl) (by kernel_rfl) (by kernel_rfl) (by kernel_rfl) (fun _ _ _ h => h) (by kernel_rfl) (fun w hw => by kernel_rfl) hH5 ?_
  simp only [List.setIfInBounds_toArray, List.set_cons_zero, List.set_cons_succ]
  refine takeH 12 52 (.string SX) rfl (by kernel_rfl) (by kernel_rfl) (by kernel_rfl) (by kernel_rfl) (fun _ _ _ h => h) (by kernel_rfl) (fun w hw => by (try dsimp only at hw); go_simp) hH5 ?_
  simp only [List.setIfInBounds_toArray, List.set_cons_zero, List.set_cons_succ]
  refine takeH 13 53 (.bool true) rfl (by kernel_rfl) (by kernel_rfl) (by kernel_rfl) (by kernel_rfl) (fun _ _ _ h => h) (by kernel_rfl) (fun w hw => by (try dsimp only at hw); go_simp) hH5 ?_
  simp only [List.setIfInBounds_toArray, List.set_cons_zero, List.set_cons_succ]
  refine takeH 14 54 (.bool true) rfl (by kernel_rfl) (by kernel_rfl) (by kernel_rfl) (by kernel_rfl) (fun _ _ _ h => h) (by kernel_rfl) (fun w hw => by kernel_rfl) hH5 ?_
  simp only [List.setIfInBounds_toArray, List.set_cons_zero, List.set_cons_succ]
  refine takeH 15 55 (.bool true) rfl (by kernel_rfl) (by kernel_rfl) (by kernel_rfl) (by kernel_rfl) (fun _ _ _ h => h) (by kernel_rfl) (fun w hw => by kernel_rfl) hH5 ?_
  simp only [List.setIfInBounds_toArray, List.set_cons_zero, List.set_cons_succ]
  refine takeH 16 56 (.slice (some ga) n cap) rfl (by kernel_rfl) (by kernel_rfl) (by kernel_rfl) (by kernel_rfl) (fun _ _ _ h => h) (by kernel_rfl) (fun w hw => by kernel_rfl) hH5 ?_
  simp only [List.setIfInBounds_toArray, List.set_cons_zero, List.set_cons_succ]
  refine takeH 17 57 (.slice ao n c) rfl (by kernel_rfl) (by kernel_rfl) (by kernel_rfl) (by kernel_rfl) (fun _ _ _ h => h) (by kernel_rfl) (fun w hw => by kernel_rfl) hH5 ?_
  simp only [List.setIfInBounds_toArray, List.set_cons_zero, List.set_cons_succ]
  refine takeH 18 58 (.int .i64 (n : Int)) rfl (by kernel_rfl) (by kernel_rfl) (by kernel_rfl) (by kernel_rfl) (fun _ _ _ h => h) (by kernel_rfl) (fun w hw => by (try dsimp only at hw); go_simp) hH5 ?_
  simp only [List.setIfInBounds_toArray, List.set_cons_zero, List.set_cons_succ]
  refine takeH 19 59 (.int .i64 ((n : Int) + 1)) rfl (by kernel_rfl) (by kernel_rfl) (by kernel_rfl) (by kernel_rfl) (fun _ _ _ h => h) (by kernel_rfl) (fun w hw => by (try dsimp only at hw); go_simp) hH5 ?_
  simp only [List.setIfInBounds_toArray, List.set_cons_zero, List.set_cons_succ]
  refine takeH 20 60 (.slice (some ga) (n + 1) cap) rfl (by kernel_rfl) (by kernel_rfl) (by kernel_rfl) (by kernel_rfl) (fun _ _ _ h => h) (by kernel_rfl) (fun w hw => by (try dsimp only at hw); go_simp) hH5 ?_
  simp only [List.setIfInBounds_toArray, List.set_cons_zero, List.set_cons_succ]
  refine takeH 21 61 (.slice ao n c) rfl (by kernel_rfl) (by kernel_rfl) (by kernel_rfl) (by kernel_rfl) (fun _ _ _ h => h) (by kernel_rfl) (fun w hw => by kernel_rfl) hH5 ?_
  simp only [List.setIfInBounds_toArray, List.set_cons_zero, List.set_cons_succ]
  refine takeH 22 62 (.int .i64 (n : Int)) rfl (by kernel_rfl) (by kernel_rfl) (by kernel_rfl) (by kernel_rfl) (fun _ _ _ h => h) (by kernel_rfl) (fun w hw => by (try dsimp only at hw); go_simp) hH5 ?_
  simp only [List.setIfInBounds_toArray, List.set_cons_zero, List.set_cons_succ]
  refine takeH 23 63 (.pointer (some (ga.add n))) rfl (by kernel_rfl) (by kernel_rfl) (by kernel_rfl) (by kernel_rfl) (fun _ _ _ h => h) (by kernel_rfl) (fun w hw => by ((try dsimp only at hw); go_simp; intro hh; omega)) hH5 ?_
  simp only [List.setIfInBounds_toArray, List.set_cons_zero, List.set_cons_succ]
  refine takeH 24 64 (.int .u8 77) rfl (by kernel_rfl) (by kernel_rfl) (by kernel_rfl) (by kernel_rfl) (fun _ _ _ h => h) (by kernel_rfl) (fun w hw => by (try dsimp only at hw); go_simp) hH5 ?_
  simp only [List.setIfInBounds_toArray, List.set_cons_zero, List.set_cons_succ]
  refine takeH 25 65 (.bool true) rfl (by kernel_rfl) (by kernel_rfl) (by kernel_rfl) (by kernel_rfl) (fun _ _ _ h => h) (by kernel_rfl) (fun w hw => by (try dsimp only at hw); go_simp) hH5 ?_
  simp only [List.setIfInBounds_toArray, List.set_cons_zero, List.set_cons_succ]
  refine takeH 26 66 (.bool true) rfl (by kernel_rfl) (by kernel_rfl) (by kernel_rfl) (by kernel_rfl) (fun _ _ _ h => h) (by kernel_rfl) (fun w hw => by kernel_rfl) hH5 ?_
  simp only [List.setIfInBounds_toArray, List.set_cons_zero, List.set_cons_succ]
  refine takeH 27 14 (.bool true) rfl (by kernel_rfl) (by kernel_rfl) (by kernel_rfl) (by kernel_rfl) (fun _ _ _ h => h) (by kernel_rfl) (fun w hw => by kernel_rfl) hH5 ?_
  simp only [List.setIfInBounds_toArray, List.set_cons_zero, List.set_cons_succ]
  refine wpAnyH_done (by kernel_rfl) ?_ _
  have hB45 : Below w4.heap.size w4 w5 := ⟨HB5.out.os, HB5.out.tape, HB5.out.output, HB5.out.size, HB5.out.block⟩
  have HT5 := Hid.mk (HT4.out.below hB45)
  have HX5 : Hid (∀ a, ao3 = some a → Bytex w5 a.block n) := Hid.mk (fun a e => by
    have h5 := owns_at HO4.out (fun k hk => hB45.block k (owns_isC HO4.out k hk).lt)
    exact owns_bytex h5 _ (HBK.out a e).2.1)
  obtain ⟨r, hr⟩ : ∃ r, r = fstN xs (bndI xs m) (bFrom f) := ⟨_, rfl⟩
  obtain ⟨fx, fs, hfv⟩ : ∃ (fx : Int) (fs : Bool), fstV r = .tuple #[.int .i64 fx, .bool fs] := by
    cases r
    · exact ⟨_, _, rfl⟩
    · exact ⟨_, _, rfl⟩
  have H9 : Hid (∀ W, TB w xs ao n ga W → Calls Try.prog 9 #[.slice (some ga) n cap, .int .i64 m, .int .i64 f] W fun e W' => e = .returned (.tuple #[.int .i64 fx, .bool fs]) ∧ TB w xs ao n ga W' ∧ (convert 22 9 (.slice (some ga) n cap)).run Try.prog W' = .ok (.string SX) W' ∧ (convert 22 9 (.slice ao n c)).run Try.prog W' = .ok (.string SX) W') := Hid.mk (fun W hT => by
    refine (first_any W (some ga) n cap xs hT.2.1 HX.out (by omega) m f HM.out HF.out).mono ?_
    rintro e W' ⟨rfl, hB'⟩
    have hT' := hT.below hB'
    refine ⟨by rw [← hr, hfv], hT', ?_, ?_⟩
    · rw [← HSX.out]; exact conv_bytes _ _ _ _ _ hT'.2.1
    · rw [← HSX.out]; exact conv_bytes _ _ _ _ _ hT'.1)
  have H10 : Hid (∀ W, TB w xs ao n ga W → Calls Try.prog 10 #[.slice ao n c, .int .i64 m, .int .i64 f] W fun e W' => e = .returned (.tuple #[.int .i64 fx, .bool fs]) ∧ W' = W) := Hid.mk (fun W hT => by
    refine (reffirst_any W ao n c xs hT.1 HX.out (by omega) m f HM.out HF.out).mono ?_
    rintro e W' ⟨rfl, rfl⟩
    exact ⟨by rw [← hr, hfv], rfl⟩)
  clear hB45 hr hfv HK hH hH5 cv5 HRW HO4 HT4 HB5 HSX HSY j1 j2 j3 HA HB4
  go_wp2_with fail
  go_loopw [15] (fun i wr => ∃ j : Nat, j ≤ n ∧ i = .int .i64 j ∧ (∀ a, ao3 = some a → Bytex wr a.block n) ∧ Only (fun k => ∃ a, ao3 = some a ∧ k = a.block) w5 wr) (fun i _ => n - (intOf i).toNat)
  case atStart => exact ⟨0, by omega, rfl, fun a e => HX5.out a e, Only.refl _ _⟩
  case round =>
    obtain ⟨j, hj, rfl, hby, hon⟩ := hrel
    by_cases hjl : j < n
    · obtain ⟨a3, rfl, -⟩ := HY4.out.at j hjl
      obtain ⟨-, -, e1, e2⟩ := HBK.out a3 rfl
      obtain ⟨g3, ao', sp⟩ := a3
      simp at e1 e2
      subst e1 e2
      obtain ⟨v, hc, hfz⟩ := (hby _ rfl).at j hjl
      dsimp only at hc hfz
      have HBY := Hid.mk (hby _ rfl)
      have HON := Hid.mk hon
      clear hby hon
      go_wp2
      go_roundw
      case rel =>
        exact ⟨j + 1, by omega, by go_num, fun a e => by cases e; exact HBY.out.set j _, HON.out.setCell (p := ⟨g3, j, none⟩) (.inl ⟨_, rfl, rfl⟩) _⟩
      case measure => (clear HBY HON; simp [intOf]; omega)
    · have HT6 := Hid.mk (HT5.out.only hon HAP.out)
      obtain rfl : j = n := by omega
      clear hby hon hjl
      go_wp2_with (first
        | (go_at_call 9; refine (H9.out _ HT6.out).mono ?_; rintro e W7 ⟨rfl, hT7, cvA, cvB⟩; have HT7 := Hid.mk hT7; clear hT7)
        | (go_at_call 10; refine (H10.out _ HT7.out).mono ?_; rintro e w' ⟨rfl, hw⟩; subst w')
        | (go_at_call 11; refine (get_any _ ao j c xs HT7.out.1 HX.out i HI.out).mono ?_; rintro e w8 ⟨rfl, mm, hw⟩; subst w8; have HT8 := Hid.mk (HT7.out.drewN mm))
        | (go_at_call 12; refine (refget_any _ ao j c xs HT8.out.1 HX.out i HI.out).mono ?_; rintro e w' ⟨rfl, hw⟩; subst w')
        | (go_at_call 13; refine (count_any _ ao j c xs HT8.out.1 HX.out (by omega) m HM.out).mono ?_; rintro e W9 ⟨rfl, hB9⟩; have HT9 := Hid.mk (HT8.out.below hB9); clear hB9)
        | (go_at_call 14; refine (refcount_any _ ao j c xs HT9.out.1 HX.out (by omega) m HM.out).mono ?_; rintro e w' ⟨rfl, hw⟩; subst w'))
      go_ret
      exact ⟨rfl, HT9.out.2.2.2⟩

theorem tell_any (w : World) (ao : Option Addr) (n c : Nat) (xs : List Int) (h : BAt w ao n xs) (hx : ∀ x ∈ xs, 0 ≤ x ∧ x ≤ 255) (hnone : ao = none → n = 0 ∧ c = 0) (hbig : n ≤ 9223372036854775807) (i m f : Int) (hi : I64 i) (hm : I64 m) (hf : I64 f) (on : Bool) :
    Calls Try.prog 3 #[.slice ao n c, .int .i64 i, .int .i64 m, .int .i64 f, .bool on] w fun e w' => e = .returned (.bool true) ∧ Below w.heap.size w w' := by
  by_cases hn : 2000 < n
  · exact tell_long w ao n c i m f on hn hbig
  · exact tell_short w ao n c xs h hx hnone (by omega) i m f hi hm hf on
end Go.Proofs.Ytpcafjaajklkoaa
