/-
  What Image makes.
-/
import Derived.Test.YtejnmpnioeamhaaGreatMkPut
namespace Go.Proofs.YtejnmpnioeamhaaGreat
open Go Go.Proofs Go.RowKit Go.Shelf
namespace Mk
open Sup (superL headL maskL nI nD copy_run)
open Din (inoL fineL inoV)
open Ent (blockL okB)
/-- The image behind k of the four steps. -/
def stageL (G I D : Int) (n : Nat) : Nat → List Int
  | 0 => zeros n
  | 1 => superL G I D ++ zeros (n - 1024)
  | 2 => refL G I D G.toNat
  | 3 => splice (refL G I D G.toNat) 2048 (inoL (rootL I))
  | _ => imgL G I D
theorem tot_is {G I D : Int} (hg : good G I D = true) : totI G I D = (totN G I D : Int) ∧ 11 ≤ totN G I D ∧ totN G I D * 1024 ≤ 16777216 ∧ (2 + I).toNat + 1 ≤ totN G I D := by
  have hb := good_iff.1 hg
  unfold totI totN
  rw [if_pos hg]
  have e : ((perN I D : Nat) : Int) = 1 + I + D := by unfold perN; omega
  have h1 := mul_fits (a := G) (A := 8) (b := 1 + I + D) (B := 1005) (by omega) (by omega) (by omega) (by omega)
  have h2 : 1 * (1 + I + D) ≤ G * (1 + I + D) := Int.mul_le_mul_of_nonneg_right (by omega) (by omega)
  have e2 : ((G.toNat * perN I D : Nat) : Int) = G * (1 + I + D) := by
    rw [Int.natCast_mul, e, Int.toNat_of_nonneg (by omega)]
  omega
theorem refL_full {G I D : Int} (hg : good G I D = true) : (refL G I D G.toNat).length = totN G I D * 1024 := by
  have hb := good_iff.1 hg
  rw [refL_length G I D (by omega) (by omega)]
  rfl
set_option maxRecDepth 100000 in
theorem image_no (w : World) (G I D : Int) (hg : good G I D = false) : Calls Tryz.prog 6 #[geo G I D] w fun e w' => e = .returned (.tuple #[.slice none 0 0, .int .i64 1]) ∧ Below w.heap.size w w' := by
  have HG := Hid.mk hg
  clear hg
  go_enter Tryz.func6, Tryz.ntmps6
  go_wp2_with (go_at_call 11; refine (check_no _ G I D HG.out).mono ?_; rintro e w1 ⟨rfl, hB⟩; obtain ⟨-, hB1⟩ := behind hB; have HB1 := Hid.mk hB1; clear hB hB1)
  go_ret2
  exact ⟨rfl, HB1.out⟩
/-- The four steps lie at block f. -/
def FAt (f : Nat) (W : World) : Prop := W.heap[f]? = some (.cells #[.func (.func 13) #[] #[], .func (.func 14) #[] #[], .func (.func 15) #[] #[], .func (.func 16) #[] #[]] 44 (0, 0))
/-- Between two steps: the image behind k of them. -/
structure ImAt (w : World) (b g f : Nat) (G I D : Int) (xs : List Int) (W : World) : Prop where
  row : RAt W g xs
  fn : FAt f W
  geo : GAt b G I D W
  below : Below w.heap.size w W
  ge : w.heap.size ≤ g
  nb : b ≠ g
  nf : f ≠ g
theorem ImAt.step {w W W' : World} {b g f : Nat} {G I D : Int} {xs ys : List Int} (h : ImAt w b g f G I D xs W) (hr : RAt W' g ys) (ho : Only (fun k => k = g) W W') : ImAt w b g f G I D ys W' :=
  ⟨hr, (ho.block _ (lt_of_block h.fn) h.nf).trans h.fn, (ho.block _ h.geo.lt h.nb).trans h.geo, h.below.trans (ho.below h.below.size (fun k e => by subst e; exact h.ge)), h.ge, h.nb, h.nf⟩
theorem ImAt.start {w w2 : World} {G I D : Int} {n : Nat} {b : Nat} (hG : GAt b G I D w2) (hB : Below w.heap.size w w2) (f : Nat) (hf : f = w2.heap.size + 1) :
    ImAt w b w2.heap.size f G I D (zeros n) ((w2.alloc (.cells (By (zeros n)).toArray 5)).alloc (.cells #[.func (.func 13) #[] #[], .func (.func 14) #[] #[], .func (.func 15) #[] #[], .func (.func 16) #[] #[]] 44)) := by
  have hlt := hG.lt
  have h1 : Below w2.heap.size w2 (w2.alloc (.cells (By (zeros n)).toArray 5)) := (Below.refl _ _).alloc (Nat.le_refl _) _
  have h2 : Below (w2.heap.size + 1) (w2.alloc (.cells (By (zeros n)).toArray 5)) ((w2.alloc (.cells (By (zeros n)).toArray 5)).alloc (.cells #[.func (.func 13) #[] #[], .func (.func 14) #[] #[], .func (.func 15) #[] #[], .func (.func 16) #[] #[]] 44)) := (Below.refl _ _).alloc (by simp) _
  refine ⟨RAt.below (blk_new w2 _) h2 (by omega), ?_, (hG.below h1 hlt).below h2 (by omega), (hB.trans (h1.mono hB.size)).trans (h2.mono (by have := hB.size; omega)), hB.size, by omega, by omega⟩
  subst hf
  have h := blk_new (w2.alloc (.cells (By (zeros n)).toArray 5)) (.cells #[.func (.func 13) #[] #[], .func (.func 14) #[] #[], .func (.func 15) #[] #[], .func (.func 16) #[] #[]] 44)
  rwa [show (w2.alloc (.cells (By (zeros n)).toArray 5)).heap.size = w2.heap.size + 1 by simp] at h
theorem splice_super (G I D : Int) (n : Nat) (h : 1024 ≤ n) : splice (zeros n) 0 (superL G I D) = superL G I D ++ zeros (n - 1024) := by
  have h1 := splice_zero n [] (superL G I D) 0 rfl (by rw [Sup.superL_length]; omega)
  rw [Sup.superL_length] at h1
  simpa using h1
set_option maxRecDepth 100000 in
set_option maxHeartbeats 4000000 in
theorem image_yes (w : World) (G I D : Int) (hg : good G I D = true) : Calls Tryz.prog 6 #[geo G I D] w fun e w' => ∃ g, e = .returned (.tuple #[.slice (some ⟨g, 0, none⟩) (totN G I D * 1024) (totN G I D * 1024), .int .i64 0]) ∧ RAt w' g (imgL G I D) ∧ w.heap.size ≤ g ∧ Below w.heap.size w w' := by
  obtain ⟨t1, t2, t3, t4⟩ := tot_is hg
  have HT : Hid (∀ W : World, Calls Tryz.prog 12 #[geo G I D] W fun e w' => e = .returned (.int .i64 (totN G I D : Int)) ∧ Below W.heap.size W w') := Hid.mk (fun W => by
    have h := total_any W G I D
    rwa [t1] at h)
  have HLN : Hid ((refL G I D G.toNat).length = totN G I D * 1024) := Hid.mk (refL_full hg)
  have HN0 : Hid (totN G I D = totN G I D) := Hid.mk rfl
  obtain ⟨t, ht⟩ : ∃ t, t = totN G I D := ⟨_, rfl⟩
  have HTN := Hid.mk ht
  rw [← ht] at HT HLN t2 t3 t4 ⊢
  have HG := Hid.mk hg
  clear hg t1 ht HN0
  go_enter Tryz.func6, Tryz.ntmps6
  go_wp2_with (first
    | (go_at_call 11; refine (check_yes _ G I D HG.out).mono ?_; rintro e w1 ⟨rfl, hB⟩; obtain ⟨hG1, hB1⟩ := behind hB; obtain ⟨c0, c1, c2⟩ := hG1.g3; have HG1 := Hid.mk hG1; have HB1 := Hid.mk hB1; clear hB hB1 hG1)
    | (go_at_call 12; refine (HT.out _).mono ?_; rintro e w2 ⟨rfl, hB⟩; have HG2 := Hid.mk (HG1.out.below hB HG1.out.lt); have HB2 := Hid.mk (HB1.out.trans (hB.mono HB1.out.size)); clear hB; have hMK := make_run w2 (t * 1024) t3; have HMK := Hid.mk hMK; clear hMK)
    | (at_make; refine wpList_make_known rfl _ _ 26 rfl _ _ _ _ rfl rfl HMK.out ?_))
  have HST := Hid.mk (ImAt.start (n := t * 1024) HG2.out HB2.out (w2.heap.size + 1) rfl)
  generalize w2.heap.size = gi at *
  clear HMK HG2 HB2 HG1 HB1 c0 c1 c2 HT
  go_loopw [20] (fun i wr => ∃ k : Nat, k ≤ 4 ∧ i = .int .i64 k ∧ ImAt w w.heap.size gi (gi + 1) G I D (stageL G I D (t * 1024) k) wr) (fun i _ => 4 - (intOf i).toNat)
  case atStart => exact ⟨0, by omega, rfl, HST.out⟩
  case round =>
    obtain ⟨k, hk, rfl, him⟩ := hrel
    obtain ⟨c0, c1, c2⟩ := him.geo.g3
    have f0 := blk_cell him.fn 0
    have f1 := blk_cell him.fn 1
    have f2 := blk_cell him.fn 2
    have f3 := blk_cell him.fn 3
    have HM := Hid.mk him
    clear him HST
    obtain rfl | rfl | rfl | rfl | rfl : k = 0 ∨ k = 1 ∨ k = 2 ∨ k = 3 ∨ k = 4 := by omega
    · go_wp2_with (go_at_call 13; refine (putsuper_any _ gi (t * 1024) G I D HG.out _ HM.out.row (zeros_length _) (by omega) t3).mono ?_; rintro e w' ⟨rfl, hr, ho⟩; have HM2 := Hid.mk (HM.out.step hr ho); clear hr ho)
      go_roundw
      case rel => exact ⟨1, by omega, by go_num, by have h := HM2.out; rw [show stageL G I D (t * 1024) 0 = zeros (t * 1024) from rfl, splice_super G I D _ (by omega)] at h; exact h⟩
      case measure => simp [intOf]
    · go_wp2_with (go_at_call 14; refine (putheads_any _ gi (t * 1024) G I D HG.out HM.out.row (by rw [HTN.out]) t3).mono ?_; rintro e w' ⟨rfl, hr, ho⟩; have HM2 := Hid.mk (HM.out.step hr ho); clear hr ho)
      go_roundw
      case rel => exact ⟨2, by omega, by go_num, HM2.out⟩
      case measure => simp [intOf]
    · go_wp2_with (go_at_call 15; refine (putroot_any _ gi (t * 1024) G I D HG.out _ HM.out.row HLN.out (by omega) t3).mono ?_; rintro e w' ⟨rfl, hr, ho⟩; have HM2 := Hid.mk (HM.out.step hr ho); clear hr ho)
      go_roundw
      case rel => exact ⟨3, by omega, by go_num, HM2.out⟩
      case measure => simp [intOf]
    · go_wp2_with (go_at_call 16; refine (putentries_any _ gi (t * 1024) G I D HG.out _ HM.out.row (by rw [show stageL G I D (t * 1024) 3 = splice (refL G I D G.toNat) 2048 (inoL (rootL I)) from rfl, splice_length _ _ _ (by rw [HLN.out, Din.inoL_length _ rfl]; omega), HLN.out]) (by omega) t3).mono ?_; rintro e w' ⟨rfl, hr, ho⟩; have HM2 := Hid.mk (HM.out.step hr ho); clear hr ho)
      go_roundw
      case rel => exact ⟨4, by omega, by go_num, HM2.out⟩
      case measure => simp [intOf]
    · go_wp2
      go_ret2
      exact ⟨gi, rfl, HM.out.row, HM.out.ge, HM.out.below⟩
end Mk
end Go.Proofs.YtejnmpnioeamhaaGreat
