/-
  SuperHeads: the head of every group, by any bits, and the bits that are read from any head.
-/
import Derived.Test.YtebeejmpnkdllaaHeadRef
namespace Go.Proofs.Ytebeejmpnkdllaa
open Go Go.Proofs Go.RowKit Go.Shelf

theorem GAt.then {w w1 w2 : World} {b : Nat} {G I D : Int} (hG : GAt b G I D w1) (hB : Below w.heap.size w w1) (h : Below w1.heap.size w1 w2) : GAt b G I D w2 ∧ Below w.heap.size w w2 :=
  ⟨hG.below h hG.lt, hB.trans (h.mono hB.size)⟩

theorem rhead_is (w : World) (G I D k : Int) (b : Bool) (h : hdB G I D k = b) : Calls Try.prog 14 #[geo G I D, .int .i64 k] w fun e w' => e = .returned (.tuple #[.int .i64 (hdI G I D k), .bool b]) ∧ Below w.heap.size w w' := by
  have h' := rhead_any w G I D k
  rwa [h] at h'

theorem heads_long (w : World) (G I D k : Int) (ao bo eo : Option Addr) (n c m d l f : Nat) (hbig : 2000 < n ∨ 2000 < m ∨ 3000 < l) :
    Calls Try.prog 5 #[geo G I D, .int .i64 k, .slice ao n c, .slice bo m d, .slice eo l f] w fun e w' => e = .returned (.bool true) ∧ Below w.heap.size w w' := by
  by_cases h1 : 2000 < n
  · have h5 : decide ((2000 : Int) < (n : Int)) = true := decide_eq_true (by omega)
    go_enter Try.func5, Try.ntmps5
    go_wp2_with (go_at_call 6; refine (alive_any _).mono ?_; rintro e w1 ⟨rfl, hB⟩; obtain ⟨hG1, hB1⟩ := behind hB; obtain ⟨c0, c1, c2⟩ := hG1.g3; have HG1 := Hid.mk hG1; have HB1 := Hid.mk hB1; clear hB hG1 hB1)
    go_ret
    exact ⟨rfl, HB1.out⟩
  · have h5 : decide ((2000 : Int) < (n : Int)) = false := decide_eq_false (by omega)
    by_cases h2 : 2000 < m
    · have h6 : decide ((2000 : Int) < (m : Int)) = true := decide_eq_true (by omega)
      go_enter Try.func5, Try.ntmps5
      go_wp2_with (go_at_call 6; refine (alive_any _).mono ?_; rintro e w1 ⟨rfl, hB⟩; obtain ⟨hG1, hB1⟩ := behind hB; obtain ⟨c0, c1, c2⟩ := hG1.g3; have HG1 := Hid.mk hG1; have HB1 := Hid.mk hB1; clear hB hG1 hB1)
      go_ret
      exact ⟨rfl, HB1.out⟩
    · have h6 : decide ((2000 : Int) < (m : Int)) = false := decide_eq_false (by omega)
      have h7 : decide ((3000 : Int) < (l : Int)) = true := decide_eq_true (by omega)
      clear hbig
      go_enter Try.func5, Try.ntmps5
      go_wp2_with (go_at_call 6; refine (alive_any _).mono ?_; rintro e w1 ⟨rfl, hB⟩; obtain ⟨hG1, hB1⟩ := behind hB; obtain ⟨c0, c1, c2⟩ := hG1.g3; have HG1 := Hid.mk hG1; have HB1 := Hid.mk hB1; clear hB hG1 hB1)
      go_ret
      exact ⟨rfl, HB1.out⟩

set_option maxRecDepth 100000 in
set_option maxHeartbeats 4000000 in
theorem heads_no (w : World) (G I D k : Int) (ao bo eo : Option Addr) (n c m d l f : Nat) (xs ys zs : List Int) (hxa : BAt w ao n xs) (hya : BAt w bo m ys) (hza : BAt w eo l zs) (hxb : ∀ x ∈ xs, 0 ≤ x ∧ x ≤ 255) (hyb : ∀ x ∈ ys, 0 ≤ x ∧ x ≤ 255) (hzb : ∀ x ∈ zs, 0 ≤ x ∧ x ≤ 255) (hxn : ao = none → n = 0 ∧ c = 0) (hyn : bo = none → m = 0 ∧ d = 0) (hn : n ≤ 2000) (hm : m ≤ 2000) (hl : l ≤ 3000) (hf : l ≤ f) (hhd : hdB G I D k = false) :
    Calls Try.prog 5 #[geo G I D, .int .i64 k, .slice ao n c, .slice bo m d, .slice eo l f] w fun e w' => e = .returned (.bool true) ∧ Below w.heap.size w w' := by
  have hn5 : decide ((2000 : Int) < (n : Int)) = false := decide_eq_false (by omega)
  have hm5 : decide ((2000 : Int) < (m : Int)) = false := decide_eq_false (by omega)
  have hl5 : decide ((3000 : Int) < (l : Int)) = false := decide_eq_false (by omega)
  have HXA : Hid (∀ W, Below w.heap.size w W → BAt W ao n xs) := Hid.mk (fun W hB => hxa.new hB (Nat.le_refl _))
  have HYA : Hid (∀ W, Below w.heap.size w W → BAt W bo m ys) := Hid.mk (fun W hB => hya.new hB (Nat.le_refl _))
  have HZA : Hid (∀ W, Below w.heap.size w W → BAt W eo l zs) := Hid.mk (fun W hB => hza.new hB (Nat.le_refl _))
  have HXB := Hid.mk hxb
  have HYB := Hid.mk hyb
  have HZB := Hid.mk hzb
  have HXN := Hid.mk hxn
  have HYN := Hid.mk hyn
  have HHD := Hid.mk hhd
  clear hxa hya hza hxb hyb hzb hxn hyn hhd
  go_enter Try.func5, Try.ntmps5
  go_upto_region 13 with (first
    | (go_at_call 6; refine (alive_any _).mono ?_; rintro e w1 ⟨rfl, hB⟩; obtain ⟨hG1, hB1⟩ := behind hB; obtain ⟨c0, c1, c2⟩ := hG1.g3; have HG1 := Hid.mk hG1; have HB1 := Hid.mk hB1; clear hB hG1 hB1)
    | (go_at_call 13; refine (phead_no _ G I D k HHD.out ao bo n c m d).mono ?_; rintro e w2 ⟨rfl, hB⟩; obtain ⟨hG1, hB1⟩ := HG1.out.then HB1.out hB; clear c0 c1 c2 HG1 HB1; obtain ⟨c0, c1, c2⟩ := hG1.g3; have HG1 := Hid.mk hG1; have HB1 := Hid.mk hB1; clear hG1 hB1; clear hB)
    | (go_at_call 14; refine (rhead_is _ G I D k false HHD.out).mono ?_; rintro e w3 ⟨rfl, hB⟩; obtain ⟨hG1, hB1⟩ := HG1.out.then HB1.out hB; clear c0 c1 c2 HG1 HB1; obtain ⟨c0, c1, c2⟩ := hG1.g3; have HG1 := Hid.mk hG1; have HB1 := Hid.mk hB1; clear hG1 hB1; clear hB)
    | (go_at_call 9; refine (num_any _ _).mono ?_; rintro e w9 ⟨rfl, hw⟩; subst w9))
  cases hgd : good G I D with
  | false =>
    have HGB := Hid.mk hgd
    clear hgd
    go_wp2_with (first
      | (go_at_call 15; refine (bits_bad _ G I D HGB.out eo l f).mono ?_; rintro e wa ⟨rfl, hB⟩; obtain ⟨hG1, hB1⟩ := HG1.out.then HB1.out hB; clear c0 c1 c2 HG1 HB1; obtain ⟨c0, c1, c2⟩ := hG1.g3; have HG1 := Hid.mk hG1; have HB1 := Hid.mk hB1; clear hG1 hB1; clear hB)
      | (go_at_call 16; refine (hbits_bad _ G I D HGB.out eo l f).mono ?_; rintro e wb ⟨rfl, hB⟩; have cn := conv_bytes wb none 0 0 [] ⟨rfl, fun h => absurd h (Nat.lt_irrefl 0)⟩; obtain ⟨hG1, hB1⟩ := HG1.out.then HB1.out hB; clear c0 c1 c2 HG1 HB1; obtain ⟨c0, c1, c2⟩ := hG1.g3; have HG1 := Hid.mk hG1; have HB1 := Hid.mk hB1; clear hG1 hB1; clear hB))
    go_ret
    exact ⟨rfl, HB1.out⟩
  | true =>
    have HGD := Hid.mk hgd
    clear hgd
    by_cases hln : l = 1024
    · obtain ⟨ea, he⟩ : ∃ ea, eo = some ea := by
        obtain ⟨ea, e, -⟩ := (HZA.out w (Below.refl _ _)).at 0 (by omega)
        exact ⟨ea, e⟩
      subst he
      subst hln
      go_wp2_with (first
        | (go_at_call 15; refine (bits_yes _ G I D HGD.out ea f zs (HZA.out _ HB1.out) HZB.out hf).mono ?_; rintro e wa ⟨y1, y2, rfl, hr1, hr2, hB⟩; have HR1 := Hid.mk hr1; have HR2 := Hid.mk hr2; obtain ⟨hG1, hB1⟩ := HG1.out.then HB1.out hB; clear c0 c1 c2 HG1 HB1; obtain ⟨c0, c1, c2⟩ := hG1.g3; have HG1 := Hid.mk hG1; have HB1 := Hid.mk hB1; clear hG1 hB1; clear hr1 hr2 hB)
        | (go_at_call 16; refine (hbits_yes _ G I D HGD.out ea f zs (HZA.out _ HB1.out) HZB.out hf).mono ?_; rintro e wb ⟨b1, f1, b2, f2, rfl, hs1, hs2, hB⟩; have cA := conv_bytes wb _ 8 8 _ ((HR1.out.below hB HR1.out.lt).full (maskL_length _ _ _)); have cB := conv_bytes wb _ (bD D) (bD D) _ ((HR2.out.below hB HR2.out.lt).full (maskL_length _ _ _)); have cC := conv_bytes wb _ 8 f1 _ hs1; have cD := conv_bytes wb _ (bD D) f2 _ hs2; obtain ⟨hG1, hB1⟩ := HG1.out.then HB1.out hB; clear c0 c1 c2 HG1 HB1; obtain ⟨c0, c1, c2⟩ := hG1.g3; have HG1 := Hid.mk hG1; have HB1 := Hid.mk hB1; clear hG1 hB1; clear hs1 hs2 hB))
      go_ret
      exact ⟨rfl, HB1.out⟩
    · have HLN := Hid.mk hln
      clear hln
      go_wp2_with (first
        | (go_at_call 15; refine (bits_short _ G I D HGD.out eo l f HLN.out).mono ?_; rintro e wa ⟨rfl, hB⟩; obtain ⟨hG1, hB1⟩ := HG1.out.then HB1.out hB; clear c0 c1 c2 HG1 HB1; obtain ⟨c0, c1, c2⟩ := hG1.g3; have HG1 := Hid.mk hG1; have HB1 := Hid.mk hB1; clear hG1 hB1; clear hB)
        | (go_at_call 16; refine (hbits_short _ G I D HGD.out eo l f HLN.out).mono ?_; rintro e wb ⟨rfl, hB⟩; have cn := conv_bytes wb none 0 0 [] ⟨rfl, fun h => absurd h (Nat.lt_irrefl 0)⟩; obtain ⟨hG1, hB1⟩ := HG1.out.then HB1.out hB; clear c0 c1 c2 HG1 HB1; obtain ⟨c0, c1, c2⟩ := hG1.g3; have HG1 := Hid.mk hG1; have HB1 := Hid.mk hB1; clear hG1 hB1; clear hB))
      go_ret
      exact ⟨rfl, HB1.out⟩

set_option maxRecDepth 100000 in
set_option maxHeartbeats 8000000 in
theorem heads_yes (w : World) (G I D k : Int) (ao bo eo : Option Addr) (n c m d l f : Nat) (xs ys zs : List Int) (hxa : BAt w ao n xs) (hya : BAt w bo m ys) (hza : BAt w eo l zs) (hxb : ∀ x ∈ xs, 0 ≤ x ∧ x ≤ 255) (hyb : ∀ x ∈ ys, 0 ≤ x ∧ x ≤ 255) (hzb : ∀ x ∈ zs, 0 ≤ x ∧ x ≤ 255) (hxn : ao = none → n = 0 ∧ c = 0) (hyn : bo = none → m = 0 ∧ d = 0) (hn : n ≤ 2000) (hm : m ≤ 2000) (hl : l ≤ 3000) (hf : l ≤ f) (hhd : hdB G I D k = true) :
    Calls Try.prog 5 #[geo G I D, .int .i64 k, .slice ao n c, .slice bo m d, .slice eo l f] w fun e w' => e = .returned (.bool true) ∧ Below w.heap.size w w' := by
  obtain ⟨hgd0, hk0, hk1⟩ := hdB_good hhd
  have hgb := good_iff.1 hgd0
  have HGD := Hid.mk hgd0
  have HPH : Hid (∀ W, Below w.heap.size w W → Calls Try.prog 17 #[geo G I D, .int .i64 k, .slice ao n c, .slice bo m d] W fun e w' => ∃ v', e = .returned v' ∧ w'.ownsRow W.heap.size 5 1 v' 1024 (By (headL k I D xs ys)) ∧ Below W.heap.size W w') := Hid.mk (fun W hB => packhead_any W G I D k hgd0 hk0 (by omega) ao bo n c m d xs ys (hxa.new hB (Nat.le_refl _)) (hya.new hB (Nat.le_refl _)) hxb hyb)
  have HLB : Hid (∀ x ∈ headL k I D xs ys, 0 ≤ x ∧ x ≤ 255) := Hid.mk (headL_bound k I D xs ys hxb hyb)
  clear hgb hgd0 hk0 hk1
  have hn5 : decide ((2000 : Int) < (n : Int)) = false := decide_eq_false (by omega)
  have hm5 : decide ((2000 : Int) < (m : Int)) = false := decide_eq_false (by omega)
  have hl5 : decide ((3000 : Int) < (l : Int)) = false := decide_eq_false (by omega)
  have HXA : Hid (∀ W, Below w.heap.size w W → BAt W ao n xs) := Hid.mk (fun W hB => hxa.new hB (Nat.le_refl _))
  have HYA : Hid (∀ W, Below w.heap.size w W → BAt W bo m ys) := Hid.mk (fun W hB => hya.new hB (Nat.le_refl _))
  have HZA : Hid (∀ W, Below w.heap.size w W → BAt W eo l zs) := Hid.mk (fun W hB => hza.new hB (Nat.le_refl _))
  have HXB := Hid.mk hxb
  have HYB := Hid.mk hyb
  have HZB := Hid.mk hzb
  have HXN := Hid.mk hxn
  have HYN := Hid.mk hyn
  have HHD := Hid.mk hhd
  clear hxa hya hza hxb hyb hzb hxn hyn hhd
  generalize hhl : headL k I D xs ys = hs at *
  have HHL : Hid (hs.length = 1024) := Hid.mk (by rw [← hhl]; exact headL_length k I D xs ys)
  have HHS := Hid.mk hhl
  clear hhl
  go_enter Try.func5, Try.ntmps5
  go_upto_region 11 with (first
    | (go_at_call 6; refine (alive_any _).mono ?_; rintro e w1 ⟨rfl, hB⟩; obtain ⟨hG1, hB1⟩ := behind hB; obtain ⟨c0, c1, c2⟩ := hG1.g3; have HG1 := Hid.mk hG1; have HB1 := Hid.mk hB1; clear hB hG1 hB1)
    | (go_at_call 13; refine (phead_yes _ G I D k HHD.out ao bo n c m d xs ys (HXA.out _ HB1.out) (HYA.out _ HB1.out) HXB.out HYB.out HXN.out HYN.out).mono ?_; rintro e w2 ⟨gw, rfl, hrow, -, hB⟩; rw [HHS.out] at hrow; have HRW := Hid.mk hrow; obtain ⟨hG1, hB1⟩ := HG1.out.then HB1.out hB; clear c0 c1 c2 HG1 HB1; obtain ⟨c0, c1, c2⟩ := hG1.g3; have HG1 := Hid.mk hG1; have HB1 := Hid.mk hB1; clear hG1 hB1; clear hB hrow)
    | (go_at_call 14; refine (rhead_is _ G I D k true HHD.out).mono ?_; rintro e w3 ⟨rfl, hB⟩; have hrow := HRW.out.below hB HRW.out.lt; clear HRW; have HRW := Hid.mk hrow; obtain ⟨hG1, hB1⟩ := HG1.out.then HB1.out hB; clear c0 c1 c2 HG1 HB1; obtain ⟨c0, c1, c2⟩ := hG1.g3; have HG1 := Hid.mk hG1; have HB1 := Hid.mk hB1; clear hG1 hB1; clear hB hrow)
    | (go_at_call 15; refine (bits_yes _ G I D HGD.out ⟨gw, 0, none⟩ 1024 hs (HRW.out.full HHL.out) HLB.out (by omega)).mono ?_; rintro e w4 ⟨x1, x2, rfl, hr1, hr2, hB⟩; have hrow := HRW.out.below hB HRW.out.lt; clear HRW; have HRW := Hid.mk hrow; have HR1 := Hid.mk hr1; have HR2 := Hid.mk hr2; obtain ⟨hG1, hB1⟩ := HG1.out.then HB1.out hB; clear c0 c1 c2 HG1 HB1; obtain ⟨c0, c1, c2⟩ := hG1.g3; have HG1 := Hid.mk hG1; have HB1 := Hid.mk hB1; clear hG1 hB1; clear hB hrow hr1 hr2)
    | (go_at_call 16; refine (hbits_yes _ G I D HGD.out ⟨gw, 0, none⟩ 1024 hs (HRW.out.full HHL.out) HLB.out (by omega)).mono ?_; rintro e w5 ⟨a1, e1, a2, e2, rfl, hs1, hs2, hB⟩; have hrow := HRW.out.below hB HRW.out.lt; have hr1 := HR1.out.below hB HR1.out.lt; have hr2 := HR2.out.below hB HR2.out.lt; clear HRW HR1 HR2; have HRW := Hid.mk hrow; have HR1 := Hid.mk hr1; have HR2 := Hid.mk hr2; have HS1 := Hid.mk hs1; have HS2 := Hid.mk hs2; obtain ⟨hG1, hB1⟩ := HG1.out.then HB1.out hB; clear c0 c1 c2 HG1 HB1; obtain ⟨c0, c1, c2⟩ := hG1.g3; have HG1 := Hid.mk hG1; have HB1 := Hid.mk hB1; clear hG1 hB1; clear hB hrow hr1 hr2 hs1 hs2)
    | (go_at_call 9; refine (num_any _ _).mono ?_; rintro e w9 ⟨rfl, hw⟩; subst w9))
  obtain ⟨SW, hSW⟩ : ∃ SW, SW = strOfNums hs := ⟨_, rfl⟩
  obtain ⟨SX, hSX⟩ : ∃ SX, SX = strOfNums (maskL (hs.drop 16) (nI I) 8) := ⟨_, rfl⟩
  obtain ⟨SY, hSY⟩ : ∃ SY, SY = strOfNums (maskL (hs.drop 64) (nD D) (bD D)) := ⟨_, rfl⟩
  have HSW := Hid.mk hSW
  have HK : Hid (∀ W', Below w5.heap.size w5.drew W' → G3 w.heap.size G I D W' ∧ (convert 26 9 (.slice (some ⟨gw, 0, none⟩) 1024 1024)).run Try.prog W' = .ok (.string SW) W' ∧ (convert 26 9 (.slice (some ⟨x1, 0, none⟩) 8 8)).run Try.prog W' = .ok (.string SX) W' ∧ (convert 26 9 (.slice (some ⟨x2, 0, none⟩) (bD D) (bD D))).run Try.prog W' = .ok (.string SY) W' ∧ (convert 26 9 (.slice (some a1) 8 e1)).run Try.prog W' = .ok (.string SX) W' ∧ (convert 26 9 (.slice (some a2) (bD D) e2)).run Try.prog W' = .ok (.string SY) W') := Hid.mk (fun W' hB => by
    have hb' : Below w5.heap.size w5 W' := ⟨hB.os, hB.tape, hB.output, hB.size, hB.block⟩
    refine ⟨(HG1.out.below hb' HG1.out.lt).g3, ?_, ?_, ?_, ?_, ?_⟩
    · rw [hSW]; exact conv_bytes W' _ 1024 1024 _ ((HRW.out.below hb' HRW.out.lt).full HHL.out)
    · rw [hSX]; exact conv_bytes W' _ 8 8 _ ((HR1.out.below hb' HR1.out.lt).full (maskL_length _ _ _))
    · rw [hSY]; exact conv_bytes W' _ (bD D) (bD D) _ ((HR2.out.below hb' HR2.out.lt).full (maskL_length _ _ _))
    · rw [hSX]; exact conv_bytes W' _ 8 e1 _ (HS1.out.new hb' (Nat.le_refl _))
    · rw [hSY]; exact conv_bytes W' _ (bD D) e2 _ (HS2.out.new hb' (Nat.le_refl _)))
  have HPH5 : Hid (∀ W, Below w5.heap.size w5.drew W → Calls Try.prog 17 #[geo G I D, .int .i64 k, .slice ao n c, .slice bo m d] W fun e w' => ∃ v', e = .returned v' ∧ w'.ownsRow W.heap.size 5 1 v' 1024 (By hs) ∧ Below W.heap.size W w') := Hid.mk (fun W hB => HPH.out W (HB1.out.trans ⟨hB.os, hB.tape, hB.output, hB.size, fun k hk => hB.block k (by have := HB1.out.size; omega)⟩))
  clear hSW hSX hSY HPH c0 c1 c2
  have HPH := HPH5
  clear HPH5
  refine wp_region_held_drew (S := fun W' => G3 w.heap.size G I D W' ∧ (convert 26 9 (.slice (some ⟨gw, 0, none⟩) 1024 1024)).run Try.prog W' = .ok (.string SW) W' ∧ (convert 26 9 (.slice (some ⟨x1, 0, none⟩) 8 8)).run Try.prog W' = .ok (.string SX) W' ∧ (convert 26 9 (.slice (some ⟨x2, 0, none⟩) (bD D) (bD D))).run Try.prog W' = .ok (.string SY) W' ∧ (convert 26 9 (.slice (some a1) 8 e1)).run Try.prog W' = .ok (.string SX) W' ∧ (convert 26 9 (.slice (some a2) (bD D) e2)).run Try.prog W' = .ok (.string SY) W') (by kernel_rfl) (HK.out _ (Below.refl _ _)) (fun hH => ?_)
  change wpAnyH Try.prog Region.Mode.any _ _ _ 23 _ _ _
  refine takeH 0 89 (.slice (some ⟨gw, 0, none⟩) 1024 1024) rfl (by kernel_rfl) (by kernel_rfl) (by kernel_rfl) (by kernel_rfl) (fun _ _ _ h => h) (by kernel_rfl) (fun w hw => by kernel_rfl) hH ?_
  simp only [List.setIfInBounds_toArray, List.set_cons_zero, List.set_cons_succ]
  refine takeH 1 90 (.string SW) rfl (by kernel_rfl) (by kernel_rfl) (by kernel_rfl) (by kernel_rfl) (fun _ _ _ h => h) (by kernel_rfl) (fun w hw => by exact exec_convert (x := .tmp 89) rfl (by kernel_rfl) hw.2.1) hH ?_
  simp only [List.setIfInBounds_toArray, List.set_cons_zero, List.set_cons_succ]
  refine takeH 2 91 (geo G I D) rfl (by kernel_rfl) (by kernel_rfl) (by kernel_rfl) (by kernel_rfl) (fun _ _ _ h => h) (by kernel_rfl) (fun w hw => by ((try dsimp only at hw); obtain ⟨⟨g0, g1, g2⟩, -⟩ := hw; go_simp)) hH ?_
  simp only [List.setIfInBounds_toArray, List.set_cons_zero, List.set_cons_succ]
  refine takeH 3 92 (.int .i64 (k)) rfl (by kernel_rfl) (by kernel_rfl) (by kernel_rfl) (by kernel_rfl) (fun _ _ _ h => h) (by kernel_rfl) (fun w hw => by kernel_rfl) hH ?_
  simp only [List.setIfInBounds_toArray, List.set_cons_zero, List.set_cons_succ]
  refine takeH 4 93 (.slice ao n c) rfl (by kernel_rfl) (by kernel_rfl) (by kernel_rfl) (by kernel_rfl) (fun _ _ _ h => h) (by kernel_rfl) (fun w hw => by kernel_rfl) hH ?_
  simp only [List.setIfInBounds_toArray, List.set_cons_zero, List.set_cons_succ]
  refine takeH 5 94 (.slice bo m d) rfl (by kernel_rfl) (by kernel_rfl) (by kernel_rfl) (by kernel_rfl) (fun _ _ _ h => h) (by kernel_rfl) (fun w hw => by kernel_rfl) hH ?_
  simp only [List.setIfInBounds_toArray, List.set_cons_zero, List.set_cons_succ]
  refine stepH_call 6 95 rfl (by kernel_rfl) (by kernel_rfl) (by kernel_rfl) 17 #[.tmp 91, .tmp 92, .tmp 93, .tmp 94] #[23, 3, 26, 26] (by kernel_rfl) (enters_of Try.func17 (by kernel_rfl) rfl) #[geo G I D, .int .i64 (k), .slice ao n c, .slice bo m d] (by kernel_rfl) (HPH.out _ (Below.refl _ _)) ?_
  rintro e W8 ⟨v8, rfl, ho8, hB8⟩
  obtain ⟨vo, vc, rfl, hba8, -⟩ := owns_BAt ho8
  have hH8 := HK.out W8 hB8
  have hc8 := conv_bytes W8 vo 1024 vc _ hba8
  rw [← HSW.out] at hc8
  have HB8 := Hid.mk hB8
  clear ho8 hB8 hba8
  refine ⟨_, rfl, hH8, ?_⟩
  simp only [List.setIfInBounds_toArray, List.set_cons_zero, List.set_cons_succ]
  refine stepH 7 96 (.string SW) rfl (by kernel_rfl) (by kernel_rfl) (by kernel_rfl) (exec_convert (x := .tmp 95) rfl (by kernel_rfl) hc8) hH8 ?_
  simp only [List.setIfInBounds_toArray, List.set_cons_zero, List.set_cons_succ]
  refine takeH 8 97 (.bool false) rfl (by kernel_rfl) (by kernel_rfl) (by kernel_rfl) (by kernel_rfl) (fun _ _ _ h => h) (by kernel_rfl) (fun w hw => by (go_simp)) hH8 ?_
  simp only [List.setIfInBounds_toArray, List.set_cons_zero, List.set_cons_succ]
  refine takeH 9 98 (.bool false) rfl (by kernel_rfl) (by kernel_rfl) (by kernel_rfl) (by kernel_rfl) (fun _ _ _ h => h) (by kernel_rfl) (fun w hw => by kernel_rfl) hH8 ?_
  simp only [List.setIfInBounds_toArray, List.set_cons_zero, List.set_cons_succ]
  refine takeH 10 99 (.slice (some ⟨x1, 0, none⟩) 8 8) rfl (by kernel_rfl) (by kernel_rfl) (by kernel_rfl) (by kernel_rfl) (fun _ _ _ h => h) (by kernel_rfl) (fun w hw => by kernel_rfl) hH8 ?_
  simp only [List.setIfInBounds_toArray, List.set_cons_zero, List.set_cons_succ]
  refine takeH 11 100 (.string SX) rfl (by kernel_rfl) (by kernel_rfl) (by kernel_rfl) (by kernel_rfl) (fun _ _ _ h => h) (by kernel_rfl) (fun w hw => by exact exec_convert (x := .tmp 99) rfl (by kernel_rfl) hw.2.2.1) hH8 ?_
  simp only [List.setIfInBounds_toArray, List.set_cons_zero, List.set_cons_succ]
  refine takeH 12 101 (.slice (some a1) 8 e1) rfl (by kernel_rfl) (by kernel_rfl) (by kernel_rfl) (by kernel_rfl) (fun _ _ _ h => h) (by kernel_rfl) (fun w hw => by kernel_rfl) hH8 ?_
  simp only [List.setIfInBounds_toArray, List.set_cons_zero, List.set_cons_succ]
  refine takeH 13 102 (.string SX) rfl (by kernel_rfl) (by kernel_rfl) (by kernel_rfl) (by kernel_rfl) (fun _ _ _ h => h) (by kernel_rfl) (fun w hw => by exact exec_convert (x := .tmp 101) rfl (by kernel_rfl) hw.2.2.2.2.1) hH8 ?_
  simp only [List.setIfInBounds_toArray, List.set_cons_zero, List.set_cons_succ]
  refine takeH 14 103 (.bool false) rfl (by kernel_rfl) (by kernel_rfl) (by kernel_rfl) (by kernel_rfl) (fun _ _ _ h => h) (by kernel_rfl) (fun w hw => by (go_simp)) hH8 ?_
  simp only [List.setIfInBounds_toArray, List.set_cons_zero, List.set_cons_succ]
  refine takeH 15 104 (.bool false) rfl (by kernel_rfl) (by kernel_rfl) (by kernel_rfl) (by kernel_rfl) (fun _ _ _ h => h) (by kernel_rfl) (fun w hw => by kernel_rfl) hH8 ?_
  simp only [List.setIfInBounds_toArray, List.set_cons_zero, List.set_cons_succ]
  refine takeH 16 105 (.bool false) rfl (by kernel_rfl) (by kernel_rfl) (by kernel_rfl) (by kernel_rfl) (fun _ _ _ h => h) (by kernel_rfl) (fun w hw => by kernel_rfl) hH8 ?_
  simp only [List.setIfInBounds_toArray, List.set_cons_zero, List.set_cons_succ]
  refine takeH 17 106 (.slice (some ⟨x2, 0, none⟩) (bD D) (bD D)) rfl (by kernel_rfl) (by kernel_rfl) (by kernel_rfl) (by kernel_rfl) (fun _ _ _ h => h) (by kernel_rfl) (fun w hw => by kernel_rfl) hH8 ?_
  simp only [List.setIfInBounds_toArray, List.set_cons_zero, List.set_cons_succ]
  refine takeH 18 107 (.string SY) rfl (by kernel_rfl) (by kernel_rfl) (by kernel_rfl) (by kernel_rfl) (fun _ _ _ h => h) (by kernel_rfl) (fun w hw => by exact exec_convert (x := .tmp 106) rfl (by kernel_rfl) hw.2.2.2.1) hH8 ?_
  simp only [List.setIfInBounds_toArray, List.set_cons_zero, List.set_cons_succ]
  refine takeH 19 108 (.slice (some a2) (bD D) e2) rfl (by kernel_rfl) (by kernel_rfl) (by kernel_rfl) (by kernel_rfl) (fun _ _ _ h => h) (by kernel_rfl) (fun w hw => by kernel_rfl) hH8 ?_
  simp only [List.setIfInBounds_toArray, List.set_cons_zero, List.set_cons_succ]
  refine takeH 20 109 (.string SY) rfl (by kernel_rfl) (by kernel_rfl) (by kernel_rfl) (by kernel_rfl) (fun _ _ _ h => h) (by kernel_rfl) (fun w hw => by exact exec_convert (x := .tmp 108) rfl (by kernel_rfl) hw.2.2.2.2.2) hH8 ?_
  simp only [List.setIfInBounds_toArray, List.set_cons_zero, List.set_cons_succ]
  refine takeH 21 110 (.bool false) rfl (by kernel_rfl) (by kernel_rfl) (by kernel_rfl) (by kernel_rfl) (fun _ _ _ h => h) (by kernel_rfl) (fun w hw => by (go_simp)) hH8 ?_
  simp only [List.setIfInBounds_toArray, List.set_cons_zero, List.set_cons_succ]
  refine takeH 22 111 (.bool false) rfl (by kernel_rfl) (by kernel_rfl) (by kernel_rfl) (by kernel_rfl) (fun _ _ _ h => h) (by kernel_rfl) (fun w hw => by kernel_rfl) hH8 ?_
  simp only [List.setIfInBounds_toArray, List.set_cons_zero, List.set_cons_succ]
  refine wpAnyH_done (by kernel_rfl) ?_ _
  have hb8 : Below w5.heap.size w5 W8 := ⟨HB8.out.os, HB8.out.tape, HB8.out.output, HB8.out.size, HB8.out.block⟩
  obtain ⟨hG8, hB8⟩ := HG1.out.then HB1.out hb8
  clear HG1 HB1 hH hH8 HK hc8 HB8 HRW HR1 HR2 HS1 HS2 HPH hb8
  obtain ⟨c0, c1, c2⟩ := hG8.g3
  have HG1 := Hid.mk hG8
  have HB1 := Hid.mk hB8
  clear hG8 hB8
  go_upto_region 13 with fail
  by_cases hln : l = 1024
  · obtain ⟨ea, he⟩ : ∃ ea, eo = some ea := by
      obtain ⟨ea, e, -⟩ := (HZA.out w (Below.refl _ _)).at 0 (by omega)
      exact ⟨ea, e⟩
    subst he
    subst hln
    go_wp2_with (first
      | (go_at_call 15; refine (bits_yes _ G I D HGD.out ea f zs (HZA.out _ HB1.out) HZB.out hf).mono ?_; rintro e wa ⟨y1, y2, rfl, hr1, hr2, hB⟩; have HR1 := Hid.mk hr1; have HR2 := Hid.mk hr2; obtain ⟨hG1, hB1⟩ := HG1.out.then HB1.out hB; clear c0 c1 c2 HG1 HB1; obtain ⟨c0, c1, c2⟩ := hG1.g3; have HG1 := Hid.mk hG1; have HB1 := Hid.mk hB1; clear hG1 hB1; clear hr1 hr2 hB)
      | (go_at_call 16; refine (hbits_yes _ G I D HGD.out ea f zs (HZA.out _ HB1.out) HZB.out hf).mono ?_; rintro e wb ⟨b1, f1, b2, f2, rfl, hs1, hs2, hB⟩; have cA := conv_bytes wb _ 8 8 _ ((HR1.out.below hB HR1.out.lt).full (maskL_length _ _ _)); have cB := conv_bytes wb _ (bD D) (bD D) _ ((HR2.out.below hB HR2.out.lt).full (maskL_length _ _ _)); have cC := conv_bytes wb _ 8 f1 _ hs1; have cD := conv_bytes wb _ (bD D) f2 _ hs2; obtain ⟨hG1, hB1⟩ := HG1.out.then HB1.out hB; clear c0 c1 c2 HG1 HB1; obtain ⟨c0, c1, c2⟩ := hG1.g3; have HG1 := Hid.mk hG1; have HB1 := Hid.mk hB1; clear hG1 hB1; clear hs1 hs2 hB))
    go_ret
    exact ⟨rfl, HB1.out⟩
  · have HLN := Hid.mk hln
    clear hln
    go_wp2_with (first
      | (go_at_call 15; refine (bits_short _ G I D HGD.out eo l f HLN.out).mono ?_; rintro e wa ⟨rfl, hB⟩; obtain ⟨hG1, hB1⟩ := HG1.out.then HB1.out hB; clear c0 c1 c2 HG1 HB1; obtain ⟨c0, c1, c2⟩ := hG1.g3; have HG1 := Hid.mk hG1; have HB1 := Hid.mk hB1; clear hG1 hB1; clear hB)
      | (go_at_call 16; refine (hbits_short _ G I D HGD.out eo l f HLN.out).mono ?_; rintro e wb ⟨rfl, hB⟩; have cn := conv_bytes wb none 0 0 [] ⟨rfl, fun h => absurd h (Nat.lt_irrefl 0)⟩; obtain ⟨hG1, hB1⟩ := HG1.out.then HB1.out hB; clear c0 c1 c2 HG1 HB1; obtain ⟨c0, c1, c2⟩ := hG1.g3; have HG1 := Hid.mk hG1; have HB1 := Hid.mk hB1; clear hG1 hB1; clear hB))
    go_ret
    exact ⟨rfl, HB1.out⟩

theorem heads_any (w : World) (G I D k : Int) (ao bo eo : Option Addr) (n c m d l f : Nat) (xs ys zs : List Int) (hxa : BAt w ao n xs) (hya : BAt w bo m ys) (hza : BAt w eo l zs) (hxb : ∀ x ∈ xs, 0 ≤ x ∧ x ≤ 255) (hyb : ∀ x ∈ ys, 0 ≤ x ∧ x ≤ 255) (hzb : ∀ x ∈ zs, 0 ≤ x ∧ x ≤ 255) (hxn : ao = none → n = 0 ∧ c = 0) (hyn : bo = none → m = 0 ∧ d = 0) (hf : l ≤ f) :
    Calls Try.prog 5 #[geo G I D, .int .i64 k, .slice ao n c, .slice bo m d, .slice eo l f] w fun e w' => e = .returned (.bool true) ∧ Below w.heap.size w w' := by
  by_cases hbig : 2000 < n ∨ 2000 < m ∨ 3000 < l
  · exact heads_long w G I D k ao bo eo n c m d l f hbig
  · cases hhd : hdB G I D k with
    | false => exact heads_no w G I D k ao bo eo n c m d l f xs ys zs hxa hya hza hxb hyb hzb hxn hyn (by omega) (by omega) (by omega) hf hhd
    | true => exact heads_yes w G I D k ao bo eo n c m d l f xs ys zs hxa hya hza hxb hyb hzb hxn hyn (by omega) (by omega) (by omega) hf hhd
end Go.Proofs.Ytebeejmpnkdllaa
