/-
  ReadSuper of the reference.
-/
import Derived.Test.YtebeejmpnkdllaaRead
namespace Go.Proofs.Ytebeejmpnkdllaa
open Go Go.Proofs Go.RowKit Go.Shelf

theorem rsuper_short (w : World) (ao : Option Addr) (n c : Nat) (hn : n ≠ 1024) :
    Calls Try.prog 12 #[.slice ao n c] w fun e w' => e = .returned (.tuple #[geo 0 0 0, .bool false]) ∧ Below w.heap.size w w' := by
  have h1 : ((n : Int) == 1024) = false := by simp; omega
  have h2 : ¬ ((n : Int) = 1024) := by omega
  go_enter Try.func12, Try.ntmps12
  go_wp2
  refine bodyPost_ret (v := .tuple #[geo 0 0 0, .bool false]) (by simp [results, Try.results12, go_sem]) rfl ⟨rfl, ?_⟩
  exact ((Below.refl _ w).alloc (Nat.le_refl _) _)

set_option maxRecDepth 100000 in
set_option maxHeartbeats 4000000 in
theorem rsuper_bad (w : World) (a : Addr) (c : Nat) (xs : List Int) (h : BAt w (some a) 1024 xs) (hx : ∀ x ∈ xs, 0 ≤ x ∧ x ≤ 255) (hgd : good (gOf xs) (iOf xs) (dOf xs) = false) :
    Calls Try.prog 12 #[.slice (some a) 1024 c] w fun e w' => e = .returned (.tuple #[rdV xs, .bool (rdB xs)]) ∧ Below w.heap.size w w' := by
    have hrb : rdB xs = false := by unfold rdB; rw [h.1, hgd]; rfl
    have HR := Hid.mk (rd_no hrb)
    have HRB := Hid.mk hrb
    have HX := Hid.mk hx
    have HBA : Hid (∀ W, Below w.heap.size w W → BAt W (some a) 1024 xs) := Hid.mk (fun W hB => h.only (Only.of_new (fun _ => False) hB) (fun _ _ _ h => h))
    have H8 : Hid (∀ W, Below w.heap.size w W → Calls Try.prog 26 #[.slice (some a) 1024 c, .int .i64 8, .int .i64 4] W fun e w' => e = .returned (.int .i64 (gOf xs)) ∧ w' = W) := Hid.mk (fun W hB => rnum_any W a 1024 c 8 xs (HBA.out W hB) HX.out (by omega) (by omega))
    have H12 : Hid (∀ W, Below w.heap.size w W → Calls Try.prog 26 #[.slice (some a) 1024 c, .int .i64 12, .int .i64 4] W fun e w' => e = .returned (.int .i64 (iOf xs)) ∧ w' = W) := Hid.mk (fun W hB => rnum_any W a 1024 c 12 xs (HBA.out W hB) HX.out (by omega) (by omega))
    have H16 : Hid (∀ W, Below w.heap.size w W → Calls Try.prog 26 #[.slice (some a) 1024 c, .int .i64 16, .int .i64 4] W fun e w' => e = .returned (.int .i64 (dOf xs)) ∧ w' = W) := Hid.mk (fun W hB => rnum_any W a 1024 c 16 xs (HBA.out W hB) HX.out (by omega) (by omega))
    have hB1 : Below w.heap.size w (w.alloc (.cells #[.int .i64 0, .int .i64 0, .int .i64 0] 23)) := (Below.refl _ w).alloc (Nat.le_refl _) _
    have HB1 := Hid.mk hB1
    generalize hG : gOf xs = G at *
    generalize hI : iOf xs = I at *
    generalize hD : dOf xs = D at *
    have HGG := Hid.mk hG
    have HII := Hid.mk hI
    have HDD := Hid.mk hD
    have HGD := Hid.mk hgd
    
    
    have HB : Hid (Below w.heap.size w ((w.alloc (.cells #[.int .i64 0, .int .i64 0, .int .i64 0] 23)).alloc (.cells #[.int .i64 G, .int .i64 I, .int .i64 D] 23))) := Hid.mk (hB1.alloc (by simp) _)
    have HG0 : Hid (GAt w.heap.size 0 0 0 ((w.alloc (.cells #[.int .i64 0, .int .i64 0, .int .i64 0] 23)).alloc (.cells #[.int .i64 G, .int .i64 I, .int .i64 D] 23))) := Hid.mk ((GAt.new w 0 0 0).below ((Below.refl _ _).alloc (Nat.le_refl _) _) (by simp))
    have HG1 : Hid (GAt (w.heap.size + 1) G I D ((w.alloc (.cells #[.int .i64 0, .int .i64 0, .int .i64 0] 23)).alloc (.cells #[.int .i64 G, .int .i64 I, .int .i64 D] 23))) := Hid.mk (by have h := GAt.new (w.alloc (.cells #[.int .i64 0, .int .i64 0, .int .i64 0] 23)) G I D; simpa using h)
    have HBX := Hid.mk (HBA.out _ HB.out)
    clear hG hI hD hgd h hx hrb HBA hB1
    go_enter Try.func12, Try.ntmps12
    go_wp2_with (first
      | (go_at_call 26; refine (H8.out _ HB1.out).mono ?_; rintro e w3 ⟨rfl, hw⟩; subst w3; clear H8)
      | (go_at_call 26; refine (H12.out _ HB1.out).mono ?_; rintro e w3 ⟨rfl, hw⟩; subst w3; clear H12)
      | (go_at_call 26; refine (H16.out _ HB1.out).mono ?_; rintro e w3 ⟨rfl, hw⟩; subst w3; clear H16)
      | (go_at_call 7; refine (good_is _ G I D false HGD.out).mono ?_; rintro e w5 ⟨rfl, hB5⟩; have hg0 := HG0.out.below hB5 HG0.out.lt; have hg1 := HG1.out.below hB5 HG1.out.lt; obtain ⟨d0, d1, d2⟩ := hg0.g3; obtain ⟨k0, k1, k2⟩ := hg1.g3; have f0 := blk_free hg0 0; have f1 := blk_free hg0 1; have f2 := blk_free hg0 2; have HG05 := Hid.mk hg0; have HG15 := Hid.mk hg1; have HB5 := Hid.mk (HB.out.trans (hB5.mono HB.out.size)); have HX5 := Hid.mk (HBX.out.only (Only.of_new (fun _ => False) hB5) (fun _ _ _ h => h)); clear hB5 hg0 hg1))
    have hCV := conv_bytes w5 (some a) 1024 c xs HX5.out
    obtain ⟨SX, hSX⟩ : ∃ SX, SX = strOfNums xs := ⟨_, rfl⟩
    rw [← hSX] at hCV
    have HSX := Hid.mk hSX
    clear hSX
    have HK : Hid (∀ W', Below w5.heap.size w5.drew W' → G3 (w.heap.size + 1) G I D W' ∧ (convert 26 9 (.slice (some a) 1024 c)).run Try.prog W' = .ok (.string SX) W') := Hid.mk (fun W' hB => ⟨(GAt.below (W := w5.drew) HG15.out hB HG15.out.lt).g3, by
      rw [HSX.out]
      exact conv_bytes W' (some a) 1024 c xs (BAt.only (W := w5.drew) HX5.out (Only.of_new (fun _ => False) hB) (fun _ _ _ h => h))⟩)
    clear d0 d1 d2 k0 k1 k2 f0 f1 f2 hCV
    refine wp_region_held_drew (S := fun W' => G3 (w.heap.size + 1) G I D W' ∧ (convert 26 9 (.slice (some a) 1024 c)).run Try.prog W' = .ok (.string SX) W') (by kernel_rfl) (HK.out _ (Below.refl _ _)) (fun hH => ?_)
    change wpAnyH Try.prog Region.Mode.any _ _ _ 10 _ _ _
    refine takeH 0 19 (.bool false) rfl (by kernel_rfl) (by kernel_rfl) (by kernel_rfl) (by kernel_rfl) (fun _ _ _ h => h) (by kernel_rfl) (fun w hw => by kernel_rfl) hH ?_
    simp only [List.setIfInBounds_toArray, List.set_cons_zero, List.set_cons_succ]
    refine takeH 1 20 (.bool true) rfl (by kernel_rfl) (by kernel_rfl) (by kernel_rfl) (by kernel_rfl) (fun _ _ _ h => h) (by kernel_rfl) (fun w hw => by (try dsimp only at hw); go_simp) hH ?_
    simp only [List.setIfInBounds_toArray, List.set_cons_zero, List.set_cons_succ]
    refine takeH 2 21 (.bool true) rfl (by kernel_rfl) (by kernel_rfl) (by kernel_rfl) (by kernel_rfl) (fun _ _ _ h => h) (by kernel_rfl) (fun w hw => by kernel_rfl) hH ?_
    simp only [List.setIfInBounds_toArray, List.set_cons_zero, List.set_cons_succ]
    refine skipH 3 22 rfl (by kernel_rfl) (by kernel_rfl) (by kernel_rfl) (by kernel_rfl) (fun _ _ _ h => h) (by kernel_rfl) hH ?_
    simp only [List.setIfInBounds_toArray, List.set_cons_zero, List.set_cons_succ]
    refine skipH 4 23 rfl (by kernel_rfl) (by kernel_rfl) (by kernel_rfl) (by kernel_rfl) (fun _ _ _ h => h) (by kernel_rfl) hH ?_
    simp only [List.setIfInBounds_toArray, List.set_cons_zero, List.set_cons_succ]
    refine skipH 5 24 rfl (by kernel_rfl) (by kernel_rfl) (by kernel_rfl) (by kernel_rfl) (fun _ _ _ h => h) (by kernel_rfl) hH ?_
    simp only [List.setIfInBounds_toArray, List.set_cons_zero, List.set_cons_succ]
    refine skipH 6 25 rfl (by kernel_rfl) (by kernel_rfl) (by kernel_rfl) (by kernel_rfl) (fun _ _ _ h => h) (by kernel_rfl) hH ?_
    simp only [List.setIfInBounds_toArray, List.set_cons_zero, List.set_cons_succ]
    refine skipH 7 26 rfl (by kernel_rfl) (by kernel_rfl) (by kernel_rfl) (by kernel_rfl) (fun _ _ _ h => h) (by kernel_rfl) hH ?_
    simp only [List.setIfInBounds_toArray, List.set_cons_zero, List.set_cons_succ]
    refine skipH 8 27 rfl (by kernel_rfl) (by kernel_rfl) (by kernel_rfl) (by kernel_rfl) (fun _ _ _ h => h) (by kernel_rfl) hH ?_
    simp only [List.setIfInBounds_toArray, List.set_cons_zero, List.set_cons_succ]
    refine takeH 9 28 (.bool true) rfl (by kernel_rfl) (by kernel_rfl) (by kernel_rfl) (by kernel_rfl) (fun _ _ _ h => h) (by kernel_rfl) (fun w hw => by kernel_rfl) hH ?_
    simp only [List.setIfInBounds_toArray, List.set_cons_zero, List.set_cons_succ]
    refine wpAnyH_done (by kernel_rfl) ?_ _
    obtain ⟨e0, e1, e2⟩ := HG05.out.g3
    have f0 := blk_free HG05.out 0
    have f1 := blk_free HG05.out 1
    have f2 := blk_free HG05.out 2
    have HBE := Hid.mk HB5.out.drew
    clear hH HK
    go_wp2
    refine bodyPost_ret (v := .tuple #[geo 0 0 0, .bool false]) (by simp [results, Try.results12, go_sem, e0, e1, e2]) rfl ⟨by rw [HR.out.1, HRB.out], ?_⟩
    exact (((HBE.out.setCell (p := ⟨w.heap.size, 0, none⟩) (Nat.le_refl _) _).setCell (p := ⟨w.heap.size, 1, none⟩) (Nat.le_refl _) _).setCell (p := ⟨w.heap.size, 2, none⟩) (Nat.le_refl _) _)

set_option maxRecDepth 100000 in
set_option maxHeartbeats 4000000 in
theorem rsuper_other (w : World) (a : Addr) (c : Nat) (xs : List Int) (h : BAt w (some a) 1024 xs) (hx : ∀ x ∈ xs, 0 ≤ x ∧ x ≤ 255) (hgd : good (gOf xs) (iOf xs) (dOf xs) = true) (heq : eqB xs (superL (gOf xs) (iOf xs) (dOf xs)) = false) :
    Calls Try.prog 12 #[.slice (some a) 1024 c] w fun e w' => e = .returned (.tuple #[rdV xs, .bool (rdB xs)]) ∧ Below w.heap.size w w' := by
    have hrb : rdB xs = false := by unfold rdB; rw [h.1, hgd, heq]; rfl
    have HR := Hid.mk (rd_no hrb)
    have HRB := Hid.mk hrb
    have HX := Hid.mk hx
    have HBA : Hid (∀ W, Below w.heap.size w W → BAt W (some a) 1024 xs) := Hid.mk (fun W hB => h.only (Only.of_new (fun _ => False) hB) (fun _ _ _ h => h))
    have H8 : Hid (∀ W, Below w.heap.size w W → Calls Try.prog 26 #[.slice (some a) 1024 c, .int .i64 8, .int .i64 4] W fun e w' => e = .returned (.int .i64 (gOf xs)) ∧ w' = W) := Hid.mk (fun W hB => rnum_any W a 1024 c 8 xs (HBA.out W hB) HX.out (by omega) (by omega))
    have H12 : Hid (∀ W, Below w.heap.size w W → Calls Try.prog 26 #[.slice (some a) 1024 c, .int .i64 12, .int .i64 4] W fun e w' => e = .returned (.int .i64 (iOf xs)) ∧ w' = W) := Hid.mk (fun W hB => rnum_any W a 1024 c 12 xs (HBA.out W hB) HX.out (by omega) (by omega))
    have H16 : Hid (∀ W, Below w.heap.size w W → Calls Try.prog 26 #[.slice (some a) 1024 c, .int .i64 16, .int .i64 4] W fun e w' => e = .returned (.int .i64 (dOf xs)) ∧ w' = W) := Hid.mk (fun W hB => rnum_any W a 1024 c 16 xs (HBA.out W hB) HX.out (by omega) (by omega))
    have hB1 : Below w.heap.size w (w.alloc (.cells #[.int .i64 0, .int .i64 0, .int .i64 0] 23)) := (Below.refl _ w).alloc (Nat.le_refl _) _
    have HB1 := Hid.mk hB1
    generalize hG : gOf xs = G at *
    generalize hI : iOf xs = I at *
    generalize hD : dOf xs = D at *
    have HGG := Hid.mk hG
    have HII := Hid.mk hI
    have HDD := Hid.mk hD
    have HGD := Hid.mk hgd
    have HPS := Hid.mk (fun W => packsuper_any W G I D hgd)
    have HSE : Hid (((strOfNums (superL G I D)).toList == (strOfNums xs).toList) = false) := Hid.mk (by rw [str_eqB _ _ (superL_bound G I D) hx]; unfold eqB at heq ⊢; simp at heq ⊢; exact fun e => heq e.symm)
    have HB : Hid (Below w.heap.size w ((w.alloc (.cells #[.int .i64 0, .int .i64 0, .int .i64 0] 23)).alloc (.cells #[.int .i64 G, .int .i64 I, .int .i64 D] 23))) := Hid.mk (hB1.alloc (by simp) _)
    have HG0 : Hid (GAt w.heap.size 0 0 0 ((w.alloc (.cells #[.int .i64 0, .int .i64 0, .int .i64 0] 23)).alloc (.cells #[.int .i64 G, .int .i64 I, .int .i64 D] 23))) := Hid.mk ((GAt.new w 0 0 0).below ((Below.refl _ _).alloc (Nat.le_refl _) _) (by simp))
    have HG1 : Hid (GAt (w.heap.size + 1) G I D ((w.alloc (.cells #[.int .i64 0, .int .i64 0, .int .i64 0] 23)).alloc (.cells #[.int .i64 G, .int .i64 I, .int .i64 D] 23))) := Hid.mk (by have h := GAt.new (w.alloc (.cells #[.int .i64 0, .int .i64 0, .int .i64 0] 23)) G I D; simpa using h)
    have HBX := Hid.mk (HBA.out _ HB.out)
    clear hG hI hD hgd heq h hx hrb HBA hB1
    go_enter Try.func12, Try.ntmps12
    go_wp2_with (first
      | (go_at_call 26; refine (H8.out _ HB1.out).mono ?_; rintro e w3 ⟨rfl, hw⟩; subst w3; clear H8)
      | (go_at_call 26; refine (H12.out _ HB1.out).mono ?_; rintro e w3 ⟨rfl, hw⟩; subst w3; clear H12)
      | (go_at_call 26; refine (H16.out _ HB1.out).mono ?_; rintro e w3 ⟨rfl, hw⟩; subst w3; clear H16)
      | (go_at_call 7; refine (good_is _ G I D true HGD.out).mono ?_; rintro e w5 ⟨rfl, hB5⟩; have hg0 := HG0.out.below hB5 HG0.out.lt; have hg1 := HG1.out.below hB5 HG1.out.lt; obtain ⟨d0, d1, d2⟩ := hg0.g3; obtain ⟨k0, k1, k2⟩ := hg1.g3; have f0 := blk_free hg0 0; have f1 := blk_free hg0 1; have f2 := blk_free hg0 2; have HG05 := Hid.mk hg0; have HG15 := Hid.mk hg1; have HB5 := Hid.mk (HB.out.trans (hB5.mono HB.out.size)); have HX5 := Hid.mk (HBX.out.only (Only.of_new (fun _ => False) hB5) (fun _ _ _ h => h)); clear hB5 hg0 hg1))
    have hCV := conv_bytes w5 (some a) 1024 c xs HX5.out
    obtain ⟨SX, hSX⟩ : ∃ SX, SX = strOfNums xs := ⟨_, rfl⟩
    rw [← hSX] at hCV
    have HSX := Hid.mk hSX
    clear hSX
    have HK : Hid (∀ W', Below w5.heap.size w5.drew W' → G3 (w.heap.size + 1) G I D W' ∧ (convert 26 9 (.slice (some a) 1024 c)).run Try.prog W' = .ok (.string SX) W') := Hid.mk (fun W' hB => ⟨(GAt.below (W := w5.drew) HG15.out hB HG15.out.lt).g3, by
      rw [HSX.out]
      exact conv_bytes W' (some a) 1024 c xs (BAt.only (W := w5.drew) HX5.out (Only.of_new (fun _ => False) hB) (fun _ _ _ h => h))⟩)
    clear d0 d1 d2 k0 k1 k2 f0 f1 f2 hCV
    refine wp_region_held_drew (S := fun W' => G3 (w.heap.size + 1) G I D W' ∧ (convert 26 9 (.slice (some a) 1024 c)).run Try.prog W' = .ok (.string SX) W') (by kernel_rfl) (HK.out _ (Below.refl _ _)) (fun hH => ?_)
    change wpAnyH Try.prog Region.Mode.any _ _ _ 10 _ _ _
    refine takeH 0 19 (.bool true) rfl (by kernel_rfl) (by kernel_rfl) (by kernel_rfl) (by kernel_rfl) (fun _ _ _ h => h) (by kernel_rfl) (fun w hw => by kernel_rfl) hH ?_
    simp only [List.setIfInBounds_toArray, List.set_cons_zero, List.set_cons_succ]
    refine takeH 1 20 (.bool false) rfl (by kernel_rfl) (by kernel_rfl) (by kernel_rfl) (by kernel_rfl) (fun _ _ _ h => h) (by kernel_rfl) (fun w hw => by (try dsimp only at hw); go_simp) hH ?_
    simp only [List.setIfInBounds_toArray, List.set_cons_zero, List.set_cons_succ]
    refine takeH 2 21 (.bool false) rfl (by kernel_rfl) (by kernel_rfl) (by kernel_rfl) (by kernel_rfl) (fun _ _ _ h => h) (by kernel_rfl) (fun w hw => by kernel_rfl) hH ?_
    simp only [List.setIfInBounds_toArray, List.set_cons_zero, List.set_cons_succ]
    refine takeH 3 22 (geo G I D) rfl (by kernel_rfl) (by kernel_rfl) (by kernel_rfl) (by kernel_rfl) (fun _ _ _ h => h) (by kernel_rfl) (fun w hw => by (try dsimp only at hw); go_simp) hH ?_
    simp only [List.setIfInBounds_toArray, List.set_cons_zero, List.set_cons_succ]
    refine takeH 6 25 (.slice (some a) 1024 c) rfl (by kernel_rfl) (by kernel_rfl) (by kernel_rfl) (by kernel_rfl) (fun _ _ _ h => h) (by kernel_rfl) (fun w hw => by kernel_rfl) hH ?_
    simp only [List.setIfInBounds_toArray, List.set_cons_zero, List.set_cons_succ]
    refine takeH 7 26 (.string SX) rfl (by kernel_rfl) (by kernel_rfl) (by kernel_rfl) (by kernel_rfl) (fun _ _ _ h => h) (by kernel_rfl) (fun w hw => by exact exec_convert (x := .tmp 25) rfl (by kernel_rfl) hw.2) hH ?_
    simp only [List.setIfInBounds_toArray, List.set_cons_zero, List.set_cons_succ]
    refine stepH_call 4 23 rfl (by kernel_rfl) (by kernel_rfl) (by kernel_rfl) 11 #[.tmp 22] #[23] (by kernel_rfl) (enters_of Try.func11 (by kernel_rfl) rfl) #[geo G I D] (by kernel_rfl) (HPS.out _) ?_
    rintro e w6 ⟨v6, rfl, ho6, hB6⟩
    obtain ⟨vo, vc, rfl, hba6, -⟩ := owns_BAt ho6
    have hH6 := HK.out w6 hB6
    have hc6 := conv_bytes w6 vo 1024 vc _ hba6
    have HB6 := Hid.mk hB6
    refine ⟨_, rfl, hH6, ?_⟩
    simp only [List.setIfInBounds_toArray, List.set_cons_zero, List.set_cons_succ]
    refine stepH 5 24 (.string (strOfNums (superL G I D))) rfl (by kernel_rfl) (by kernel_rfl) (by kernel_rfl) (exec_convert (x := .tmp 23) rfl (by kernel_rfl) hc6) hH6 ?_
    simp only [List.setIfInBounds_toArray, List.set_cons_zero, List.set_cons_succ]
    refine takeH 8 27 (.bool true) rfl (by kernel_rfl) (by kernel_rfl) (by kernel_rfl) (by kernel_rfl) (fun _ _ _ h => h) (by kernel_rfl) (fun w hw => by (go_simp; rw [HSX.out]; have h := HSE.out; simp at h; exact h)) hH6 ?_
    simp only [List.setIfInBounds_toArray, List.set_cons_zero, List.set_cons_succ]
    refine takeH 9 28 (.bool true) rfl (by kernel_rfl) (by kernel_rfl) (by kernel_rfl) (by kernel_rfl) (fun _ _ _ h => h) (by kernel_rfl) (fun w hw => by kernel_rfl) hH6 ?_
    simp only [List.setIfInBounds_toArray, List.set_cons_zero, List.set_cons_succ]
    refine wpAnyH_done (by kernel_rfl) ?_ _
    have hg05 : GAt w.heap.size 0 0 0 w6 := GAt.below (W := w5.drew) HG05.out HB6.out HG05.out.lt
    have hg15 : GAt (w.heap.size + 1) G I D w6 := GAt.below (W := w5.drew) HG15.out HB6.out HG15.out.lt
    obtain ⟨e0, e1, e2⟩ := hg05.g3
    obtain ⟨k0, k1, k2⟩ := hg15.g3
    have f0 := blk_free hg05 0
    have f1 := blk_free hg05 1
    have f2 := blk_free hg05 2
    have HBE := Hid.mk (HB5.out.drew.trans (HB6.out.mono HB5.out.size))
    clear hH hH6 HK hc6 hba6 ho6 hB6 HPS hg05 hg15
    go_wp2
    refine bodyPost_ret (v := .tuple #[geo 0 0 0, .bool false]) (by simp [results, Try.results12, go_sem, e0, e1, e2]) rfl ⟨by rw [HR.out.1, HRB.out], ?_⟩
    exact (((HBE.out.setCell (p := ⟨w.heap.size, 0, none⟩) (Nat.le_refl _) _).setCell (p := ⟨w.heap.size, 1, none⟩) (Nat.le_refl _) _).setCell (p := ⟨w.heap.size, 2, none⟩) (Nat.le_refl _) _)

set_option maxRecDepth 100000 in
set_option maxHeartbeats 4000000 in
theorem rsuper_yes (w : World) (a : Addr) (c : Nat) (xs : List Int) (h : BAt w (some a) 1024 xs) (hx : ∀ x ∈ xs, 0 ≤ x ∧ x ≤ 255) (hgd : good (gOf xs) (iOf xs) (dOf xs) = true) (heq : eqB xs (superL (gOf xs) (iOf xs) (dOf xs)) = true) :
    Calls Try.prog 12 #[.slice (some a) 1024 c] w fun e w' => e = .returned (.tuple #[rdV xs, .bool (rdB xs)]) ∧ Below w.heap.size w w' := by
    have hrb : rdB xs = true := by unfold rdB; rw [h.1, hgd, heq]; rfl
    have HR := Hid.mk (rd_yes hrb)
    have HRB := Hid.mk hrb
    have HX := Hid.mk hx
    have HBA : Hid (∀ W, Below w.heap.size w W → BAt W (some a) 1024 xs) := Hid.mk (fun W hB => h.only (Only.of_new (fun _ => False) hB) (fun _ _ _ h => h))
    have H8 : Hid (∀ W, Below w.heap.size w W → Calls Try.prog 26 #[.slice (some a) 1024 c, .int .i64 8, .int .i64 4] W fun e w' => e = .returned (.int .i64 (gOf xs)) ∧ w' = W) := Hid.mk (fun W hB => rnum_any W a 1024 c 8 xs (HBA.out W hB) HX.out (by omega) (by omega))
    have H12 : Hid (∀ W, Below w.heap.size w W → Calls Try.prog 26 #[.slice (some a) 1024 c, .int .i64 12, .int .i64 4] W fun e w' => e = .returned (.int .i64 (iOf xs)) ∧ w' = W) := Hid.mk (fun W hB => rnum_any W a 1024 c 12 xs (HBA.out W hB) HX.out (by omega) (by omega))
    have H16 : Hid (∀ W, Below w.heap.size w W → Calls Try.prog 26 #[.slice (some a) 1024 c, .int .i64 16, .int .i64 4] W fun e w' => e = .returned (.int .i64 (dOf xs)) ∧ w' = W) := Hid.mk (fun W hB => rnum_any W a 1024 c 16 xs (HBA.out W hB) HX.out (by omega) (by omega))
    have hB1 : Below w.heap.size w (w.alloc (.cells #[.int .i64 0, .int .i64 0, .int .i64 0] 23)) := (Below.refl _ w).alloc (Nat.le_refl _) _
    have HB1 := Hid.mk hB1
    generalize hG : gOf xs = G at *
    generalize hI : iOf xs = I at *
    generalize hD : dOf xs = D at *
    have HGG := Hid.mk hG
    have HII := Hid.mk hI
    have HDD := Hid.mk hD
    have HGD := Hid.mk hgd
    have HPS := Hid.mk (fun W => packsuper_any W G I D hgd)
    have HSE : Hid (((strOfNums (superL G I D)).toList == (strOfNums xs).toList) = true) := Hid.mk (by rw [str_eqB _ _ (superL_bound G I D) hx]; unfold eqB at heq ⊢; simp at heq ⊢; exact heq.symm)
    have HB : Hid (Below w.heap.size w ((w.alloc (.cells #[.int .i64 0, .int .i64 0, .int .i64 0] 23)).alloc (.cells #[.int .i64 G, .int .i64 I, .int .i64 D] 23))) := Hid.mk (hB1.alloc (by simp) _)
    have HG0 : Hid (GAt w.heap.size 0 0 0 ((w.alloc (.cells #[.int .i64 0, .int .i64 0, .int .i64 0] 23)).alloc (.cells #[.int .i64 G, .int .i64 I, .int .i64 D] 23))) := Hid.mk ((GAt.new w 0 0 0).below ((Below.refl _ _).alloc (Nat.le_refl _) _) (by simp))
    have HG1 : Hid (GAt (w.heap.size + 1) G I D ((w.alloc (.cells #[.int .i64 0, .int .i64 0, .int .i64 0] 23)).alloc (.cells #[.int .i64 G, .int .i64 I, .int .i64 D] 23))) := Hid.mk (by have h := GAt.new (w.alloc (.cells #[.int .i64 0, .int .i64 0, .int .i64 0] 23)) G I D; simpa using h)
    have HBX := Hid.mk (HBA.out _ HB.out)
    clear hG hI hD hgd heq h hx hrb HBA hB1
    go_enter Try.func12, Try.ntmps12
    go_wp2_with (first
      | (go_at_call 26; refine (H8.out _ HB1.out).mono ?_; rintro e w3 ⟨rfl, hw⟩; subst w3; clear H8)
      | (go_at_call 26; refine (H12.out _ HB1.out).mono ?_; rintro e w3 ⟨rfl, hw⟩; subst w3; clear H12)
      | (go_at_call 26; refine (H16.out _ HB1.out).mono ?_; rintro e w3 ⟨rfl, hw⟩; subst w3; clear H16)
      | (go_at_call 7; refine (good_is _ G I D true HGD.out).mono ?_; rintro e w5 ⟨rfl, hB5⟩; have hg0 := HG0.out.below hB5 HG0.out.lt; have hg1 := HG1.out.below hB5 HG1.out.lt; obtain ⟨d0, d1, d2⟩ := hg0.g3; obtain ⟨k0, k1, k2⟩ := hg1.g3; have f0 := blk_free hg0 0; have f1 := blk_free hg0 1; have f2 := blk_free hg0 2; have HG05 := Hid.mk hg0; have HG15 := Hid.mk hg1; have HB5 := Hid.mk (HB.out.trans (hB5.mono HB.out.size)); have HX5 := Hid.mk (HBX.out.only (Only.of_new (fun _ => False) hB5) (fun _ _ _ h => h)); clear hB5 hg0 hg1))
    have hCV := conv_bytes w5 (some a) 1024 c xs HX5.out
    obtain ⟨SX, hSX⟩ : ∃ SX, SX = strOfNums xs := ⟨_, rfl⟩
    rw [← hSX] at hCV
    have HSX := Hid.mk hSX
    clear hSX
    have HK : Hid (∀ W', Below w5.heap.size w5.drew W' → G3 (w.heap.size + 1) G I D W' ∧ (convert 26 9 (.slice (some a) 1024 c)).run Try.prog W' = .ok (.string SX) W') := Hid.mk (fun W' hB => ⟨(GAt.below (W := w5.drew) HG15.out hB HG15.out.lt).g3, by
      rw [HSX.out]
      exact conv_bytes W' (some a) 1024 c xs (BAt.only (W := w5.drew) HX5.out (Only.of_new (fun _ => False) hB) (fun _ _ _ h => h))⟩)
    clear d0 d1 d2 k0 k1 k2 f0 f1 f2 hCV
    refine wp_region_held_drew (S := fun W' => G3 (w.heap.size + 1) G I D W' ∧ (convert 26 9 (.slice (some a) 1024 c)).run Try.prog W' = .ok (.string SX) W') (by kernel_rfl) (HK.out _ (Below.refl _ _)) (fun hH => ?_)
    change wpAnyH Try.prog Region.Mode.any _ _ _ 10 _ _ _
    refine takeH 0 19 (.bool true) rfl (by kernel_rfl) (by kernel_rfl) (by kernel_rfl) (by kernel_rfl) (fun _ _ _ h => h) (by kernel_rfl) (fun w hw => by kernel_rfl) hH ?_
    simp only [List.setIfInBounds_toArray, List.set_cons_zero, List.set_cons_succ]
    refine takeH 1 20 (.bool false) rfl (by kernel_rfl) (by kernel_rfl) (by kernel_rfl) (by kernel_rfl) (fun _ _ _ h => h) (by kernel_rfl) (fun w hw => by (try dsimp only at hw); go_simp) hH ?_
    simp only [List.setIfInBounds_toArray, List.set_cons_zero, List.set_cons_succ]
    refine takeH 2 21 (.bool false) rfl (by kernel_rfl) (by kernel_rfl) (by kernel_rfl) (by kernel_rfl) (fun _ _ _ h => h) (by kernel_rfl) (fun w hw => by kernel_rfl) hH ?_
    simp only [List.setIfInBounds_toArray, List.set_cons_zero, List.set_cons_succ]
    refine takeH 3 22 (geo G I D) rfl (by kernel_rfl) (by kernel_rfl) (by kernel_rfl) (by kernel_rfl) (fun _ _ _ h => h) (by kernel_rfl) (fun w hw => by (try dsimp only at hw); go_simp) hH ?_
    simp only [List.setIfInBounds_toArray, List.set_cons_zero, List.set_cons_succ]
    refine takeH 6 25 (.slice (some a) 1024 c) rfl (by kernel_rfl) (by kernel_rfl) (by kernel_rfl) (by kernel_rfl) (fun _ _ _ h => h) (by kernel_rfl) (fun w hw => by kernel_rfl) hH ?_
    simp only [List.setIfInBounds_toArray, List.set_cons_zero, List.set_cons_succ]
    refine takeH 7 26 (.string SX) rfl (by kernel_rfl) (by kernel_rfl) (by kernel_rfl) (by kernel_rfl) (fun _ _ _ h => h) (by kernel_rfl) (fun w hw => by exact exec_convert (x := .tmp 25) rfl (by kernel_rfl) hw.2) hH ?_
    simp only [List.setIfInBounds_toArray, List.set_cons_zero, List.set_cons_succ]
    refine stepH_call 4 23 rfl (by kernel_rfl) (by kernel_rfl) (by kernel_rfl) 11 #[.tmp 22] #[23] (by kernel_rfl) (enters_of Try.func11 (by kernel_rfl) rfl) #[geo G I D] (by kernel_rfl) (HPS.out _) ?_
    rintro e w6 ⟨v6, rfl, ho6, hB6⟩
    obtain ⟨vo, vc, rfl, hba6, -⟩ := owns_BAt ho6
    have hH6 := HK.out w6 hB6
    have hc6 := conv_bytes w6 vo 1024 vc _ hba6
    have HB6 := Hid.mk hB6
    refine ⟨_, rfl, hH6, ?_⟩
    simp only [List.setIfInBounds_toArray, List.set_cons_zero, List.set_cons_succ]
    refine stepH 5 24 (.string (strOfNums (superL G I D))) rfl (by kernel_rfl) (by kernel_rfl) (by kernel_rfl) (exec_convert (x := .tmp 23) rfl (by kernel_rfl) hc6) hH6 ?_
    simp only [List.setIfInBounds_toArray, List.set_cons_zero, List.set_cons_succ]
    refine takeH 8 27 (.bool false) rfl (by kernel_rfl) (by kernel_rfl) (by kernel_rfl) (by kernel_rfl) (fun _ _ _ h => h) (by kernel_rfl) (fun w hw => by (go_simp; rw [HSX.out]; have h := HSE.out; simp at h; exact h)) hH6 ?_
    simp only [List.setIfInBounds_toArray, List.set_cons_zero, List.set_cons_succ]
    refine takeH 9 28 (.bool false) rfl (by kernel_rfl) (by kernel_rfl) (by kernel_rfl) (by kernel_rfl) (fun _ _ _ h => h) (by kernel_rfl) (fun w hw => by kernel_rfl) hH6 ?_
    simp only [List.setIfInBounds_toArray, List.set_cons_zero, List.set_cons_succ]
    refine wpAnyH_done (by kernel_rfl) ?_ _
    have hg05 : GAt w.heap.size 0 0 0 w6 := GAt.below (W := w5.drew) HG05.out HB6.out HG05.out.lt
    have hg15 : GAt (w.heap.size + 1) G I D w6 := GAt.below (W := w5.drew) HG15.out HB6.out HG15.out.lt
    obtain ⟨e0, e1, e2⟩ := hg05.g3
    obtain ⟨k0, k1, k2⟩ := hg15.g3
    have f0 := blk_free hg05 0
    have f1 := blk_free hg05 1
    have f2 := blk_free hg05 2
    have HBE := Hid.mk (HB5.out.drew.trans (HB6.out.mono HB5.out.size))
    clear hH hH6 HK hc6 hba6 ho6 hB6 HPS hg05 hg15
    go_wp2
    refine bodyPost_ret (v := .tuple #[geo G I D, .bool true]) (by simp [results, Try.results12, go_sem, e0, e1, e2]) rfl ⟨?_, ?_⟩
    · rw [HR.out.1, HRB.out]
    · exact (((HBE.out.setCell (p := ⟨w.heap.size, 0, none⟩) (Nat.le_refl _) _).setCell (p := ⟨w.heap.size, 1, none⟩) (Nat.le_refl _) _).setCell (p := ⟨w.heap.size, 2, none⟩) (Nat.le_refl _) _)

theorem rsuper_any (w : World) (ao : Option Addr) (n c : Nat) (xs : List Int) (h : BAt w ao n xs) (hx : ∀ x ∈ xs, 0 ≤ x ∧ x ≤ 255) :
    Calls Try.prog 12 #[.slice ao n c] w fun e w' => e = .returned (.tuple #[rdV xs, .bool (rdB xs)]) ∧ Below w.heap.size w w' := by
  by_cases hn : n = 1024
  · subst hn
    obtain ⟨a, rfl, -⟩ := h.at 0 (by omega)
    cases hgd : good (gOf xs) (iOf xs) (dOf xs) with
    | false => exact rsuper_bad w a c xs h hx hgd
    | true =>
      cases heq : eqB xs (superL (gOf xs) (iOf xs) (dOf xs)) with
      | false => exact rsuper_other w a c xs h hx hgd heq
      | true => exact rsuper_yes w a c xs h hx hgd heq
  · have hb : rdB xs = false := by unfold rdB; rw [h.1, decide_eq_false hn]; rfl
    rw [(rd_no hb).1, hb]
    exact rsuper_short w ao n c hn
end Go.Proofs.Ytebeejmpnkdllaa
