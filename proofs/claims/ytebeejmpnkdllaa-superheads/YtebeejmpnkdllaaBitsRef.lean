/-
  HeadBits of the reference.
-/
import Derived.Test.YtebeejmpnkdllaaHead
namespace Go.Proofs.Ytebeejmpnkdllaa
open Go Go.Proofs Go.RowKit Go.Shelf

theorem BAt.front {W : World} {ao : Option Addr} {n m : Nat} {xs : List Int} (h : BAt W ao n xs) (hm : m ≤ n) : BAt W ao m (xs.take m) := by
  refine ⟨by have := h.1; simp; omega, fun hp => ?_⟩
  obtain ⟨a, e, hlt, hc⟩ := h.2 (by omega)
  refine ⟨a, e, hlt, fun i hi => ?_⟩
  rw [hc i (by omega)]
  simp [List.getD, hi]

theorem hbits_bad (w : World) (G I D : Int) (hg : good G I D = false) (ao : Option Addr) (n c : Nat) :
    Calls Try.prog 16 #[geo G I D, .slice ao n c] w fun e w' => e = .returned (.tuple #[.slice none 0 0, .slice none 0 0]) ∧ Below w.heap.size w w' := by
  have HG := Hid.mk hg
  clear hg
  go_enter Try.func16, Try.ntmps16
  go_wp2_with (go_at_call 7; refine (good_is _ G I D false HG.out).mono ?_; rintro e w1 ⟨rfl, hB⟩; obtain ⟨hG1, hB1⟩ := behind hB; have HB1 := Hid.mk hB1; clear hB hG1 hB1)
  go_ret2
  exact ⟨rfl, HB1.out⟩

theorem hbits_short (w : World) (G I D : Int) (hg : good G I D = true) (ao : Option Addr) (n c : Nat) (hn : n ≠ 1024) :
    Calls Try.prog 16 #[geo G I D, .slice ao n c] w fun e w' => e = .returned (.tuple #[.slice none 0 0, .slice none 0 0]) ∧ Below w.heap.size w w' := by
  have HG := Hid.mk hg
  have h1 : ((n : Int) == 1024) = false := by simp; omega
  have h2 : ¬ ((n : Int) = 1024) := by omega
  clear hg
  go_enter Try.func16, Try.ntmps16
  go_wp2_with (go_at_call 7; refine (good_is _ G I D true HG.out).mono ?_; rintro e w1 ⟨rfl, hB⟩; obtain ⟨hG1, hB1⟩ := behind hB; have HB1 := Hid.mk hB1; clear hB hG1 hB1)
  go_ret2
  exact ⟨rfl, HB1.out⟩

set_option maxRecDepth 100000 in
set_option maxHeartbeats 4000000 in
theorem hbits_yes (w : World) (G I D : Int) (hg : good G I D = true) (a0 : Addr) (c : Nat) (ys : List Int) (hb : BAt w (some a0) 1024 ys) (hy : ∀ x ∈ ys, 0 ≤ x ∧ x ≤ 255) (hc : 1024 ≤ c) :
    Calls Try.prog 16 #[geo G I D, .slice (some a0) 1024 c] w fun e w' => ∃ a1 c1 a2 c2, e = .returned (.tuple #[.slice (some a1) 8 c1, .slice (some a2) (bD D) c2]) ∧
      BAt w' (some a1) 8 (maskL (ys.drop 16) (nI I) 8) ∧ BAt w' (some a2) (bD D) (maskL (ys.drop 64) (nD D) (bD D)) ∧ Below w.heap.size w w' := by
  have HG := Hid.mk hg
  have hgb := good_iff.1 hg
  have HNI : Hid ((nI I : Int) = 16 * I ∧ (nD D : Int) = D ∧ nI I ≤ 64 ∧ nD D ≤ 1000 ∧ nD D ≤ 8 * bD D ∧ bD D ≤ 125 ∧ 0 < bD D) := Hid.mk (by unfold nI nD bD; omega)
  have hw1 : IntKind.i64.wrap (16 * I) = 16 * I := by rw [IntKind.wrap_i64]; omega
  have hw2 : IntKind.i64.wrap (D + 7) = D + 7 := by rw [IntKind.wrap_i64]; omega
  have HBD : Hid ((D + 7) / 8 = (bD D : Int)) := Hid.mk (by unfold bD; omega)
  have HY := Hid.mk hy
  have HBA := Hid.mk hb
  clear hg hb hy
  obtain ⟨y1, hy1⟩ : ∃ y1, y1 = (ys.drop 16).take 8 := ⟨_, rfl⟩
  obtain ⟨y2, hy2⟩ : ∃ y2, y2 = ys.drop 64 := ⟨_, rfl⟩
  have HY1 := Hid.mk hy1
  have HY2 := Hid.mk hy2
  have HB1 : Hid (∀ x ∈ y1, 0 ≤ x ∧ x ≤ 255) := Hid.mk (by rw [hy1]; exact take_bound _ (drop_bound ys HY.out 16) 8)
  have HB2 : Hid (∀ x ∈ y2, 0 ≤ x ∧ x ≤ 255) := Hid.mk (by rw [hy2]; exact drop_bound ys HY.out 64)
  have HS1 : Hid (∀ W, Below w.heap.size w W → BAt W (some ⟨a0.block, a0.off + 16, none⟩) 8 y1) := Hid.mk (fun W hB => by rw [hy1]; exact ((HBA.out.new hB (Nat.le_refl _)).slice 16 (by omega) (by omega)).front (by omega))
  have HS2 : Hid (∀ W, Below w.heap.size w W → BAt W (some ⟨a0.block, a0.off + 64, none⟩) 960 y2) := Hid.mk (fun W hB => by rw [hy2]; exact (HBA.out.new hB (Nat.le_refl _)).slice 64 (by omega) (by omega))
  clear hy1 hy2
  go_enter Try.func16, Try.ntmps16
  go_wp2_with (first
    | (go_at_call 7; refine (good_is _ G I D true HG.out).mono ?_; rintro e w1 ⟨rfl, hB⟩; obtain ⟨hG1, hB1⟩ := behind hB; have HG1 := Hid.mk hG1; have HBB := Hid.mk hB1; have HMK := Hid.mk (make_run w1 8 (by omega)); clear hB hG1 hB1)
    | (at_make; refine wpList_make_known rfl _ _ 26 rfl _ _ _ _ rfl rfl HMK.out ?_))
  go_loopw [7, 8] (fun x i wr => ∃ k : Nat, k ≤ (nI I) ∧ i = .int .i64 k ∧ (∃ a cx, x = .slice (some a) 8 cx ∧ BAt wr (some a) 8 (fillW y1 8 k) ∧ w1.heap.size ≤ a.block) ∧ Below w1.heap.size w1 wr) (fun _ i _ => (nI I) - (intOf i).toNat)
  case atStart =>
    exact ⟨0, Nat.zero_le _, rfl, ⟨⟨w1.heap.size, 0, none⟩, 8, rfl, RAt.full (blk_new w1 _) (zeros_length _), Nat.le_refl _⟩, (Below.refl _ w1).alloc (Nat.le_refl _) _⟩
  case round =>
    obtain ⟨k, hk, rfl, ⟨a, cx, rfl, hba, hab⟩, hbw⟩ := hrel
    obtain ⟨c0, c1, c2⟩ := (HG1.out.below hbw HG1.out.lt).g3
    by_cases hlt : k < (nI I)
    · have hlti : (k : Int) < 16 * I := by have := HNI.out; omega
      have hki : I64 (k : Int) := ⟨by omega, by have := HNI.out; omega⟩
      have HGET := Hid.mk (refget_any wr (some ⟨a0.block, a0.off + 16, none⟩) 8 (c - 16) y1 ((fun W hB => HS1.out W (HBB.out.trans (hB.mono HBB.out.size))) wr hbw) HB1.out (k : Int) hki)
      have HWI := Hid.mk (refwith_any wr (some a) 8 cx (k : Int) hki (getI y1 (k : Int)) _ hba (by simp) (by omega))
      have HBW := Hid.mk hbw
      have HFS : Hid (withI (fillW y1 8 k) (k : Int) (getI y1 (k : Int)) = fillW y1 8 (k + 1)) := Hid.mk rfl
      clear hba hki hbw
      generalize getI y1 (k : Int) = on at *
      go_wp2_with (first
        | (go_at_call 33; refine HGET.out.mono ?_; rintro e w3 ⟨rfl, hw⟩; subst w3)
        | (go_at_call 32; refine HWI.out.mono ?_; rintro e w3 ⟨v3, rfl, ho3, hb3⟩; obtain ⟨ao3, c3, rfl, hba3, hbl3, hne3⟩ := owns_BAt ho3; obtain ⟨a3, rfl⟩ := Option.ne_none_iff_exists'.1 (hne3 (by omega)); have HA3 := Hid.mk hba3; have HL3 := Hid.mk (hbl3 a3 rfl).1; have HB3 := Hid.mk hb3; clear ho3 hba3 hbl3 hne3 hb3))
      go_roundw
      case rel => exact ⟨k + 1, by omega, by go_num, ⟨a3, c3, rfl, by rw [← HFS.out]; exact HA3.out, Nat.le_trans HBW.out.size HL3.out⟩, HBW.out.trans (HB3.out.mono HBW.out.size)⟩
      case measure => simp [intOf]; omega
    · have hge : 16 * I ≤ (k : Int) := by have := HNI.out; omega
      obtain rfl : k = (nI I) := by omega
      have HBW := Hid.mk hbw
      have HFA := Hid.mk hba
      have HAB := Hid.mk hab
      clear hba hbw hab hlt hk
      have HGN := Hid.mk (HG1.out.below HBW.out HG1.out.lt)
      have HBN := Hid.mk (HBB.out.trans (HBW.out.mono HBB.out.size))
      have HMK2 := Hid.mk (make_run wr (bD D) (by have := HNI.out; omega))
      rw [← HBD.out] at HMK2
      clear HBB HG1 HBW HMK
      have HG1 := HGN
      have HBB := HBN
      have HFA1 := HFA
      clear HGN HBN HFA HAB
      obtain ⟨W2, hW2⟩ : ∃ W2, W2 = wr := ⟨_, rfl⟩
      rw [← hW2] at HG1 HBB HFA1 HMK2 c0 c1 c2 ⊢
      clear hW2
      obtain ⟨a1, ha1⟩ : ∃ a1, a1 = a := ⟨_, rfl⟩
      rw [← ha1] at HFA1 ⊢
      clear ha1
      obtain ⟨cx1, hcx1⟩ : ∃ cx1, cx1 = cx := ⟨_, rfl⟩
      rw [← hcx1] at ⊢
      clear hcx1
      go_wp2_with (at_make; refine wpList_make_known rfl (.tmp 38) (.tmp 38) 26 rfl (.int .i64 ((D + 7) / 8)) (.int .i64 ((D + 7) / 8)) _ _ rfl rfl HMK2.out ?_)
      clear c0 c1 c2
      go_loopw [9, 10] (fun x i wr => ∃ k : Nat, k ≤ (nD D) ∧ i = .int .i64 k ∧ (∃ a cx, x = .slice (some a) (bD D) cx ∧ BAt wr (some a) (bD D) (fillW y2 (bD D) k) ∧ W2.heap.size ≤ a.block) ∧ Below W2.heap.size W2 wr) (fun _ i _ => (nD D) - (intOf i).toNat)
      case atStart =>
        exact ⟨0, Nat.zero_le _, rfl, ⟨⟨W2.heap.size, 0, none⟩, (bD D), rfl, RAt.full (blk_new W2 _) (zeros_length _), Nat.le_refl _⟩, (Below.refl _ W2).alloc (Nat.le_refl _) _⟩
      case round =>
        obtain ⟨k, hk, rfl, ⟨a, cx, rfl, hba, hab⟩, hbw⟩ := hrel
        obtain ⟨c0, c1, c2⟩ := (HG1.out.below hbw HG1.out.lt).g3
        by_cases hlt : k < (nD D)
        · have hlti : (k : Int) < D := by have := HNI.out; omega
          have hki : I64 (k : Int) := ⟨by omega, by have := HNI.out; omega⟩
          have HGET := Hid.mk (refget_any wr (some ⟨a0.block, a0.off + 64, none⟩) 960 (c - 64) y2 ((fun W hB => HS2.out W (HBB.out.trans (hB.mono HBB.out.size))) wr hbw) HB2.out (k : Int) hki)
          have HWI := Hid.mk (refwith_any wr (some a) (bD D) cx (k : Int) hki (getI y2 (k : Int)) _ hba (by simp) (by have := HNI.out; omega))
          have HBW := Hid.mk hbw
          have HFS : Hid (withI (fillW y2 (bD D) k) (k : Int) (getI y2 (k : Int)) = fillW y2 (bD D) (k + 1)) := Hid.mk rfl
          clear hba hki hbw
          generalize getI y2 (k : Int) = on at *
          go_wp2_with (first
            | (go_at_call 33; refine HGET.out.mono ?_; rintro e w3 ⟨rfl, hw⟩; subst w3)
            | (go_at_call 32; refine HWI.out.mono ?_; rintro e w3 ⟨v3, rfl, ho3, hb3⟩; obtain ⟨ao3, c3, rfl, hba3, hbl3, hne3⟩ := owns_BAt ho3; obtain ⟨a3, rfl⟩ := Option.ne_none_iff_exists'.1 (hne3 (by have := HNI.out; omega)); have HA3 := Hid.mk hba3; have HL3 := Hid.mk (hbl3 a3 rfl).1; have HB3 := Hid.mk hb3; clear ho3 hba3 hbl3 hne3 hb3))
          go_roundw
          case rel => exact ⟨k + 1, by omega, by go_num, ⟨a3, c3, rfl, by rw [← HFS.out]; exact HA3.out, Nat.le_trans HBW.out.size HL3.out⟩, HBW.out.trans (HB3.out.mono HBW.out.size)⟩
          case measure => simp [intOf]; omega
        · have hge : D ≤ (k : Int) := by have := HNI.out; omega
          obtain rfl : k = (nD D) := by omega
          have HBW := Hid.mk hbw
          have HFA := Hid.mk hba
          have HAB := Hid.mk hab
          clear hba hbw hab hlt hk
          go_wp2
          go_ret2
          have hx := HFA1.out.new HBW.out (Nat.le_refl _)
          refine ⟨a1, cx1, a, cx, rfl, ?_, ?_, ?_⟩
          · rw [fill_mask _ _ _ HB1.out (by have := HNI.out; omega), HY1.out, maskL_take] at hx
            exact hx
          · have hz := HFA.out
            rw [fill_mask _ _ _ HB2.out (by have := HNI.out; omega), HY2.out] at hz
            exact hz
          · exact HBB.out.trans (HBW.out.mono HBB.out.size)
end Go.Proofs.Ytebeejmpnkdllaa
