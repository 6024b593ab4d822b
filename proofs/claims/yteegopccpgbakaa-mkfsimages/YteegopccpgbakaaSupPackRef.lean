/-
  Superblocks: fill and PackSuper of the reference, Pack of the program.
-/
import Derived.Test.YteegopccpgbakaaSupNums
import Derived.Lib.SlBytesConst
namespace Go.Proofs.Yteegopccpgbakaa
open Go Go.Proofs Go.RowKit Go.Shelf
namespace Sup
theorem append_zeros_below (w : World) (base : Nat) (v : Value) (n m : Nat) (xs : List Int) (hown : w.ownsRow base 5 1 v n (By xs)) (hbase : base ≤ w.heap.size) (hn : 0 < n) (hm : 0 < m) (hbig : n + m ≤ 16777216) :
    ∃ v' w', (Builtin.append_ #[26, 3] 26 #[v, .int .i64 m]).run Try.prog w = .ok v' w' ∧ w'.ownsRow base 5 1 v' (n + m) (By (xs ++ List.replicate m 0)) ∧ Below base w w' := by
  obtain ⟨v', w', h1, h2, h3⟩ := append_zeros_run w base v n m xs hown hbase hn hm hbig
  exact ⟨v', w', h1, h2, (Below.refl _ w).grown h3 hbase (fun k hk => (hown.lt k hk).1)⟩
set_option maxHeartbeats 1000000 in
theorem fill_any (w : World) (B : Nat) (v : Value) (n m : Nat) (xs : List Int) (hown : w.ownsRow B 5 1 v n (By xs)) (hB : B ≤ w.heap.size) (hn : 0 < n) (hm : n < m) (hm2 : m ≤ 1024) :
    Calls Try.prog 32 #[v, .int .i64 m] w fun e w' => ∃ v', e = .returned v' ∧ w'.ownsRow B 5 1 v' m (By (xs ++ List.replicate (m - n) 0)) ∧ Below B w w' := by
  obtain ⟨v', w', hr, ho, hb⟩ := append_zeros_below w B v n (m - n) xs hown hB hn (by omega) (by omega)
  rw [Nat.add_sub_cancel' (Nat.le_of_lt hm)] at ho
  obtain ⟨ao, c, rfl, -⟩ := owns_BAt hown
  have e : (m : Int) - (n : Int) = ((m - n : Nat) : Int) := by omega
  have HR := Hid.mk hr
  have HO := Hid.mk ho
  have HB := Hid.mk hb
  clear hr ho hb hown
  generalize m - n = k at *
  have hk : k ≤ 1024 := by omega
  have hw : IntKind.i64.wrap (k : Int) = k := by rw [IntKind.wrap_i64]; omega
  go_enter Try.func32, Try.ntmps32
  go_wp2_with (at_builtin; refine wpList_appendz_known rfl (.tmp 5) (.tmp 9) 26 3 rfl _ (.int .i64 k) _ _ rfl (by simp [Act.eval]) HR.out ?_)
  go_ret
  exact ⟨_, rfl, HO.out, HB.out⟩
/-! superblocks -/
def lockL : List Int := [76, 79, 67, 75, 71, 65, 84, 69]
/-- The first 20 bytes of a superblock. -/
def hdrL (G I D : Int) : List Int := lockL ++ leL G 4 ++ leL I 4 ++ leL D 4
/-- A superblock. -/
def superL (G I D : Int) : List Int := hdrL G I D ++ leL (sumL (hdrL G I D)) 4 ++ zeros 1000
theorem hdrL_length (G I D : Int) : (hdrL G I D).length = 20 := by simp [hdrL, leL_length, lockL]
theorem superL_length (G I D : Int) : (superL G I D).length = 1024 := by simp [superL, hdrL_length, leL_length, zeros_length]
theorem lockL_bound : ∀ x ∈ lockL, 0 ≤ x ∧ x ≤ 255 := by decide
theorem hdrL_bound (G I D : Int) : ∀ x ∈ hdrL G I D, 0 ≤ x ∧ x ≤ 255 := by
  intro x hx
  simp only [hdrL, List.mem_append] at hx
  rcases hx with ((hx | hx) | hx) | hx
  · exact lockL_bound x hx
  · exact leL_bound _ _ x hx
  · exact leL_bound _ _ x hx
  · exact leL_bound _ _ x hx
theorem superL_bound (G I D : Int) : ∀ x ∈ superL G I D, 0 ≤ x ∧ x ≤ 255 := by
  intro x hx
  simp only [superL, List.mem_append] at hx
  rcases hx with (hx | hx) | hx
  · exact hdrL_bound G I D x hx
  · exact leL_bound _ _ x hx
  · exact zeros_bound _ x hx
theorem lock_src (w : World) (B : Nat) : Src (w.alloc (.cells (By lockL).toArray 5 (8, 9))) B (.slice (some ⟨w.heap.size, 0, none⟩) 8 8) 8 lockL := by
  refine .inr ⟨_, rfl, rfl, fun _ => ⟨_, rfl, by simp, fun i hi => ?_⟩⟩
  rw [add_at, blk_cell (blk_new w _), Nat.zero_add]
  simpa using By_get lockL i hi
set_option maxRecDepth 100000 in
set_option maxHeartbeats 2000000 in
theorem packsuper_any (w : World) (G I D : Int) (hg : good G I D = true) : Calls Try.prog 15 #[geo G I D] w fun e w' => ∃ v', e = .returned v' ∧ w'.ownsRow w.heap.size 5 1 v' 1024 (By (superL G I D)) ∧ Below w.heap.size w w' := by
  have hb := good_iff.1 hg
  clear hg
  have hG := GAt.new w G I D
  have HK : Hid (∀ W', Below (w.alloc (.cells #[.int .i64 G, .int .i64 I, .int .i64 D] 23)).heap.size (w.alloc (.cells #[.int .i64 G, .int .i64 I, .int .i64 D] 23)).drew W' → G3 w.heap.size G I D W') := Hid.mk (fun W' hB => (GAt.below (W := (w.alloc (.cells #[.int .i64 G, .int .i64 I, .int .i64 D] 23)).drew) hG hB (by simp)).g3)
  have hH0 : G3 w.heap.size G I D ((w.alloc (.cells #[.int .i64 G, .int .i64 I, .int .i64 D] 23)).drew.alloc (.cells (By lockL).toArray 5)) := HK.out _ ((Below.refl (w.alloc (.cells #[.int .i64 G, .int .i64 I, .int .i64 D] 23)).heap.size (w.alloc (.cells #[.int .i64 G, .int .i64 I, .int .i64 D] 23)).drew).alloc (by simp) _)
  have HB1 : Hid (Below (w.alloc (.cells #[.int .i64 G, .int .i64 I, .int .i64 D] 23)).heap.size (w.alloc (.cells #[.int .i64 G, .int .i64 I, .int .i64 D] 23)).drew ((w.alloc (.cells #[.int .i64 G, .int .i64 I, .int .i64 D] 23)).drew.alloc (.cells (By lockL).toArray 5 (8, 9)))) := Hid.mk ((Below.refl (w.alloc (.cells #[.int .i64 G, .int .i64 I, .int .i64 D] 23)).heap.size (w.alloc (.cells #[.int .i64 G, .int .i64 I, .int .i64 D] 23)).drew).alloc (by simp) _)
  have HO1 : Hid (Src ((w.alloc (.cells #[.int .i64 G, .int .i64 I, .int .i64 D] 23)).drew.alloc (.cells (By lockL).toArray 5 (8, 9))) (w.alloc (.cells #[.int .i64 G, .int .i64 I, .int .i64 D] 23)).heap.size (.slice (some ⟨(w.alloc (.cells #[.int .i64 G, .int .i64 I, .int .i64 D] 23)).heap.size, 0, none⟩) 8 8) 8 lockL) := Hid.mk (lock_src _ _)
  have hH1 := HK.out _ HB1.out
  clear hG
  go_enter Try.func15, Try.ntmps15
  go_wp2_with fail
  refine wp_region_held_drew (S := G3 w.heap.size G I D) (by kernel_rfl) (HK.out _ (Below.refl _ _)) (fun hH => ?_)
  change wpAnyH Try.prog Region.Mode.any _ _ _ 12 _ _ _
  refine takeH 2 8 (.pointer (some ⟨w.heap.size, 0, none⟩)) rfl (by kernel_rfl) (by kernel_rfl) (by kernel_rfl) (by kernel_rfl) (fun _ _ _ h => h) (by kernel_rfl) (fun w hw => by (try dsimp only at hw); go_simp) hH ?_
  simp only [List.setIfInBounds_toArray, List.set_cons_zero, List.set_cons_succ]
  refine takeH 3 9 (.int .i64 (G)) rfl (by kernel_rfl) (by kernel_rfl) (by kernel_rfl) (by kernel_rfl) (fun _ _ _ h => h) (by kernel_rfl) (fun w hw => by (try dsimp only at hw); go_simp) hH ?_
  simp only [List.setIfInBounds_toArray, List.set_cons_zero, List.set_cons_succ]
  refine takeH 5 11 (.pointer (some ⟨w.heap.size, 1, none⟩)) rfl (by kernel_rfl) (by kernel_rfl) (by kernel_rfl) (by kernel_rfl) (fun _ _ _ h => h) (by kernel_rfl) (fun w hw => by (try dsimp only at hw); go_simp) hH ?_
  simp only [List.setIfInBounds_toArray, List.set_cons_zero, List.set_cons_succ]
  refine takeH 6 12 (.int .i64 (I)) rfl (by kernel_rfl) (by kernel_rfl) (by kernel_rfl) (by kernel_rfl) (fun _ _ _ h => h) (by kernel_rfl) (fun w hw => by (try dsimp only at hw); go_simp) hH ?_
  simp only [List.setIfInBounds_toArray, List.set_cons_zero, List.set_cons_succ]
  refine takeH 8 14 (.pointer (some ⟨w.heap.size, 2, none⟩)) rfl (by kernel_rfl) (by kernel_rfl) (by kernel_rfl) (by kernel_rfl) (fun _ _ _ h => h) (by kernel_rfl) (fun w hw => by (try dsimp only at hw); go_simp) hH ?_
  simp only [List.setIfInBounds_toArray, List.set_cons_zero, List.set_cons_succ]
  refine takeH 9 15 (.int .i64 (D)) rfl (by kernel_rfl) (by kernel_rfl) (by kernel_rfl) (by kernel_rfl) (fun _ _ _ h => h) (by kernel_rfl) (fun w hw => by (try dsimp only at hw); go_simp) hH ?_
  simp only [List.setIfInBounds_toArray, List.set_cons_zero, List.set_cons_succ]
  refine stepH_run 0 6 (.slice (some ⟨(w.alloc (.cells #[.int .i64 G, .int .i64 I, .int .i64 D] 23)).heap.size, 0, none⟩) 8 8) ((w.alloc (.cells #[.int .i64 G, .int .i64 I, .int .i64 D] 23)).drew.alloc (.cells (By lockL).toArray 5)) rfl (by kernel_rfl) (by kernel_rfl) (by kernel_rfl) (by kernel_rfl) hH0 ?_
  simp only [List.setIfInBounds_toArray, List.set_cons_zero, List.set_cons_succ]
  refine stepH_run 1 7 (.slice (some ⟨(w.alloc (.cells #[.int .i64 G, .int .i64 I, .int .i64 D] 23)).heap.size, 0, none⟩) 8 8) ((w.alloc (.cells #[.int .i64 G, .int .i64 I, .int .i64 D] 23)).drew.alloc (.cells (By lockL).toArray 5 (8, 9))) rfl (by kernel_rfl) (by kernel_rfl) (by kernel_rfl) (exec_convert (x := .tmp 6) rfl (by kernel_rfl) (Lib.run_convert_bytes_const (w.alloc (.cells #[.int .i64 G, .int .i64 I, .int .i64 D] 23)).drew 26 5 (By lockL).toArray 8 8 Try.underlying26 Try.underlying5)) hH1 ?_
  simp only [List.setIfInBounds_toArray, List.set_cons_zero, List.set_cons_succ]
  refine stepH_call 4 10 rfl (by kernel_rfl) (by kernel_rfl) (by kernel_rfl) 31 #[.tmp 7, .tmp 9, .const (.int .i64 4)] #[26, 3, 3] (by kernel_rfl) (enters_of Try.func31 (by kernel_rfl) rfl) #[.slice (some ⟨(w.alloc (.cells #[.int .i64 G, .int .i64 I, .int .i64 D] 23)).heap.size, 0, none⟩) 8 8, .int .i64 (G), .int .i64 4] (by kernel_rfl) (rput_any _ (w.alloc (.cells #[.int .i64 G, .int .i64 I, .int .i64 D] 23)).heap.size _ 8 4 lockL G HO1.out (by simp) (by omega) (by omega) (by omega) (by omega) (by omega)) ?_
  rintro e W2 ⟨v2, rfl, ho2, hb2⟩
  have HO2 := Hid.mk ho2
  have HB2 := Hid.mk (HB1.out.trans hb2)
  clear ho2 hb2
  have hH2 := HK.out W2 HB2.out
  refine ⟨_, rfl, hH2, ?_⟩
  simp only [List.setIfInBounds_toArray, List.set_cons_zero, List.set_cons_succ]
  refine stepH_call 7 13 rfl (by kernel_rfl) (by kernel_rfl) (by kernel_rfl) 31 #[.tmp 10, .tmp 12, .const (.int .i64 4)] #[26, 3, 3] (by kernel_rfl) (enters_of Try.func31 (by kernel_rfl) rfl) #[v2, .int .i64 (I), .int .i64 4] (by kernel_rfl) (rput_any _ (w.alloc (.cells #[.int .i64 G, .int .i64 I, .int .i64 D] 23)).heap.size _ 12 4 _ I (.inl HO2.out) HB2.out.size (by omega) (by omega) (by omega) (by omega) (by omega)) ?_
  rintro e W3 ⟨v3, rfl, ho3, hb3⟩
  have HO3 := Hid.mk ho3
  have HB3 := Hid.mk (HB2.out.trans hb3)
  clear ho3 hb3
  have hH3 := HK.out W3 HB3.out
  refine ⟨_, rfl, hH3, ?_⟩
  simp only [List.setIfInBounds_toArray, List.set_cons_zero, List.set_cons_succ]
  refine stepH_call 10 16 rfl (by kernel_rfl) (by kernel_rfl) (by kernel_rfl) 31 #[.tmp 13, .tmp 15, .const (.int .i64 4)] #[26, 3, 3] (by kernel_rfl) (enters_of Try.func31 (by kernel_rfl) rfl) #[v3, .int .i64 (D), .int .i64 4] (by kernel_rfl) (rput_any _ (w.alloc (.cells #[.int .i64 G, .int .i64 I, .int .i64 D] 23)).heap.size _ 16 4 _ D (.inl HO3.out) HB3.out.size (by omega) (by omega) (by omega) (by omega) (by omega)) ?_
  rintro e W4 ⟨v4, rfl, ho4, hb4⟩
  have HO4 := Hid.mk ho4
  have HB4 := Hid.mk (HB3.out.trans hb4)
  clear ho4 hb4
  have hH4 := HK.out W4 HB4.out
  refine ⟨_, rfl, hH4, ?_⟩
  simp only [List.setIfInBounds_toArray, List.set_cons_zero, List.set_cons_succ]
  refine takeH 11 3 (v4) rfl (by kernel_rfl) (by kernel_rfl) (by kernel_rfl) (by kernel_rfl) (fun _ _ _ h => h) (by kernel_rfl) (fun w hw => by kernel_rfl) hH4 ?_
  simp only [List.setIfInBounds_toArray, List.set_cons_zero, List.set_cons_succ]
  refine wpAnyH_done (by kernel_rfl) ?_ _
  have HO : Hid (W4.ownsRow (w.alloc (.cells #[.int .i64 G, .int .i64 I, .int .i64 D] 23)).heap.size 5 1 v4 20 (By (hdrL G I D))) := HO4
  have HB := HB4
  clear HO1 HO2 HO3 HO4 HB1 HB2 HB3 HB4 hH hH0 hH1 hH2 hH3 hH4 HK
  obtain ⟨ao, c, e4, hBA, hbk, hne⟩ := owns_BAt HO.out
  subst e4
  have HBA := Hid.mk hBA
  clear hBA hbk hne
  have hsb := sumL_bound (hdrL G I D) (hdrL_bound G I D)
  rw [hdrL_length] at hsb
  go_wp2
  go_loop [4, 5] (fun s i => ∃ k : Nat, k ≤ 20 ∧ i = .int .i64 k ∧ s = .int .i64 (sumL ((hdrL G I D).take k))) (fun _ i => 20 - (intOf i).toNat)
  case atStart => exact ⟨0, by omega, rfl, rfl⟩
  case round =>
    obtain ⟨k, hk, rfl, rfl⟩ := hrel
    by_cases hlt : k < 20
    · obtain ⟨a', e, hc⟩ := HBA.out.at k hlt
      subst e
      have hs := sumL_take (hdrL G I D) k (by rw [hdrL_length]; exact hlt)
      have hb2 := sumL_bound ((hdrL G I D).take k) (fun x hx => hdrL_bound G I D x (List.mem_of_mem_take hx))
      have hbb := getD_bound (hdrL G I D) (hdrL_bound G I D) k
      have hlen : ((hdrL G I D).take k).length ≤ 20 := by simp; omega
      generalize (hdrL G I D).getD k 0 = x at *
      generalize sumL ((hdrL G I D).take k) = y at *
      have hwr : IntKind.i64.wrap (y + x) = y + x := by rw [IntKind.wrap_i64]; omega
      have HS := Hid.mk hs
      clear hlen hs
      go_wp2
      go_round
      case rel => exact ⟨k + 1, by omega, by go_num, by rw [HS.out]⟩
      case measure => simp [intOf]; omega
    · have hge : (20 : Int) ≤ k := by omega
      have e20 : (hdrL G I D).take k = hdrL G I D := List.take_of_length_le (by rw [hdrL_length]; omega)
      rw [e20]
      have HS : Hid (∃ s, sumL (hdrL G I D) = s) := Hid.mk ⟨_, rfl⟩
      generalize hgen : sumL (hdrL G I D) = s at hsb ⊢
      have HE := Hid.mk hgen
      clear hgen e20
      go_wp2_with (first
        | (go_at_call 31; refine (rput_any _ _ _ 20 4 _ s (.inl HO.out) HB.out.size (by omega) (by omega) (by omega) (by omega) (by omega)).mono ?_; rintro e W5 ⟨v5, rfl, ho5, hb5⟩; have HO5 := Hid.mk ho5; have HB5 := Hid.mk (HB.out.trans hb5); clear ho5 hb5)
        | (go_at_call 32; refine (fill_any _ _ _ 24 1024 _ HO5.out HB5.out.size (by omega) (by omega) (by omega)).mono ?_; rintro e W6 ⟨v6, rfl, ho6, hb6⟩; have HO6 := Hid.mk ho6; have HB6 := Hid.mk (HB5.out.trans hb6); clear ho6 hb6))
      go_ret
      refine ⟨_, rfl, ?_, ?_⟩
      · refine owns_base ?_ (show w.heap.size ≤ (w.alloc (.cells #[.int .i64 G, .int .i64 I, .int .i64 D] 23)).heap.size by simp)
        have h := HO6.out
        rw [← HE.out] at h
        exact h
      · exact ((Below.refl _ w).alloc (Nat.le_refl _) _).drew.trans (HB6.out.mono (by simp))
end Sup
end Go.Proofs.Yteegopccpgbakaa
