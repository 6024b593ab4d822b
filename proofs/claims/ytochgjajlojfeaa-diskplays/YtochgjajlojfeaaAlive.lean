/-
  The document's example, which every statement runs first: it answers true, and nothing that lay has turned.
-/
import Derived.Test.YtochgjajlojfeaaLog
namespace Go.Proofs.Ytochgjajlojfeaa
open Go Go.Proofs Go.RowKit Go.Shelf

def zeros (n : Nat) : List Int := List.replicate n 0
theorem zeros_len (n : Nat) : (zeros n).length = n := by unfold zeros; exact List.length_replicate
theorem zeros_get (n i : Nat) : ((zeros n)[i]?.getD 0 : Int) = 0 := by
  unfold zeros
  rw [List.getElem?_replicate]
  split <;> rfl

/-- The document's example: the disk behind it. -/
def exT (Z X : List Int) : DS := ⟨splice Z 1024 ((X.drop 0).take 512), [((2 : Int), (X.drop 0).take 512)], true, true, 0⟩
theorem ex_write (Z X : List Int) : writeS ⟨Z, [], false, true, 1⟩ 1 X = (false, exT Z X) := by
  have h0 : stepS 1 X ⟨Z, [], false, true, 1⟩ 0 = some ⟨splice Z 1024 ((X.drop 0).take 512), [((2 : Int), (X.drop 0).take 512)], false, true, 0⟩ := by
    simp [stepS, pow, putS]
  unfold writeS
  rw [h0]
  simp [stepS, pow, exT]
theorem exT_len {Z X : List Int} (hZ : Z.length = 3072) (hX : X.length = 1024) : (exT Z X).img.length = 3072 := by
  show (splice _ _ _).length = _
  rw [length_splice _ _ _ (by simp; omega), hZ]
theorem exT_1024 {Z X : List Int} (hZ : Z.length = 3072) (hX : X.length = 1024) (h : (X[0]?.getD 0 : Int) = 7) : (exT Z X).img[1024]?.getD 0 = 7 := by
  show (splice _ _ _)[1024]?.getD 0 = 7
  unfold splice
  rw [List.getElem?_append_right (by simp; omega), List.getElem?_append_left (by simp; omega)]
  simp [hZ, h]
theorem exT_1536 {Z X : List Int} (hZ : Z.length = 3072) (hX : X.length = 1024) (h : ∀ i : Nat, (Z[i]?.getD 0 : Int) = 0) : (exT Z X).img[1536]?.getD 0 = 0 := by
  show (splice _ _ _)[1536]?.getD 0 = 0
  unfold splice
  rw [List.getElem?_append_right (by simp; omega), List.getElem?_append_right (by simp; omega), List.getElem?_drop]
  simp [h]

theorem make_zeros {w w' : World} {n : Nat} (hown : w'.ownsRow w.heap.size 5 1 (.slice (some ⟨w.heap.size, 0, none⟩) n n) n (madeCells (Value.int .u8 0).cells (n * 1)).toList) (hg : w.grownBy w' none) :
    w'.heap[w.heap.size]? = some (.cells (By (zeros n)).toArray 5 (0, 0)) ∧ (0 < n → w'.cell? ⟨w.heap.size, 0, none⟩ = some (.int .u8 0)) ∧ (512 < n → w'.cell? ⟨w.heap.size, 512, none⟩ = some (.int .u8 0)) ∧
      w'.frozen? ⟨w.heap.size, 0, none⟩ = false ∧ w'.frozen? ⟨w.heap.size, 512, none⟩ = false ∧ w.grownBy w' none := by
  obtain ⟨_, hb⟩ := owns_full hown
  rw [Nat.mul_one] at hb
  have hb2 : w'.heap[w.heap.size]? = some (.cells (By (zeros n)).toArray 5 (0, 0)) := by
    rw [hb, show (Value.int .u8 0).cells = #[Value.int .u8 0] from rfl, toList_madeCells_one]
    simp [By, zeros]
  have get : ∀ i, i < n → w'.cell? ⟨w.heap.size, i, none⟩ = some (.int .u8 0) := fun i hi => by
    have := bytes_at hb2 0 i (by rw [zeros_len]; omega)
    rw [add_at, Nat.zero_add] at this
    rw [this]
    have h2 := zeros_get n i
    simp only [List.getD, h2]
  exact ⟨hb2, get 0, get 512, blk_free hb2 0, blk_free hb2 512, hg⟩

theorem By_set (xs : List Int) (i : Nat) (v : Int) : (By xs).toArray.setIfInBounds i (.int .u8 v) = (By (xs.set i v)).toArray := by
  simp [By, List.map_set]

theorem ex_call {F : Nat → Prop} {w2 w3 : World} {d : Nat} (hD : DiskAt F w2 d ⟨zeros 3072, [], false, true, 1⟩) (hF : ∀ k, F k → k < w2.heap.size) (hm : w3.heap[w2.heap.size]? = some (.cells (By (zeros 1024)).toArray 5 (0, 0))) (hg : w2.grownBy w3 none) :
    Calls Try.prog 9 #[.pointer (some ⟨d, 0, none⟩), .int .i64 1, .slice (some ⟨w2.heap.size, 0, none⟩) 1024 1024] ((w3.setCell ⟨w2.heap.size, 0, none⟩ (.int .u8 7)).setCell ⟨w2.heap.size, 512, none⟩ (.int .u8 8)) fun e w' =>
      e = .returned (.bool false) ∧ DiskAt (fun k => F k ∨ w2.heap.size ≤ k) w' d (exT (zeros 3072) (((zeros 1024).set 0 7).set 512 8)) ∧ Only (fun k => F k ∨ w2.heap.size ≤ k) w2 w' := by
  obtain ⟨w4, h4⟩ : ∃ w4, w4 = (w3.setCell ⟨w2.heap.size, 0, none⟩ (.int .u8 7)).setCell ⟨w2.heap.size, 512, none⟩ (.int .u8 8) := ⟨_, rfl⟩
  have hb : w4.heap[w2.heap.size]? = some (.cells (By (((zeros 1024).set 0 7).set 512 8)).toArray 5 (0, 0)) := by
    rw [h4, ← By_set, ← By_set]
    exact blk_set (blk_set hm)
  have hO : Only (fun _ => False) w2 w4 := by
    rw [h4]
    exact (((Only.refl (fun _ => False) w2).grown hg (by simp)).setCell (.inr (Nat.le_refl _)) _).setCell (.inr (Nat.le_refl _)) _
  rw [← h4]
  have hx : (((zeros 1024).set 0 7).set 512 8).length = 1024 := by simp [zeros_len]
  have hD4 := hD.only hO (fun _ _ _ h => h)
  have hlt := lt_of_block hb
  refine (write_yes F w4 d _ hD4 (by rw [zeros_len]; omega) (by decide) (by decide) (by decide) 1 ⟨w2.heap.size, 0, none⟩ 1024 _ (by simp [hasB, zeros_len]) rfl hx (Nat.le_refl _) (fun h => by have := hF _ h; simp at this) hlt
    (fun i hi => by have := bytes_at hb 0 i (by omega); rwa [Nat.zero_add] at this)).mono ?_
  rintro e w' ⟨rfl, h1, h2⟩
  rw [ex_write] at h1 ⊢
  exact ⟨rfl, h1.mono (fun k _ e => e.imp id (fun e => Nat.le_trans hO.size e)), (Only.mono (T := fun k => F k ∨ w2.heap.size ≤ k) (hO.mono (fun _ _ h => h.elim)) (fun _ _ h => h)).trans h2 (fun k e => .inl (.inl e))⟩

set_option maxRecDepth 100000 in
set_option maxHeartbeats 2000000 in
theorem alive_any (w : World) : Calls Try.prog 7 #[] w fun e w' => e = .returned (.bool true) ∧ Below w.heap.size w w' := by
  have HN := new_any w 3
  have hz : (⟨List.replicate (1024 * capB 3) 0, [], false, false, 0⟩ : DS) = ⟨zeros 3072, [], false, false, 0⟩ := by
    have : 1024 * capB 3 = 3072 := by decide
    rw [this]
    rfl
  rw [hz] at HN
  have HN := Hid.mk HN
  clear hz
  obtain ⟨i0, hi, hz0, hz1, hz2⟩ := info5p
  go_enter Try.func7, Try.ntmps7
  go_wp2_with fail
  refine HN.out.mono ?_
  rintro e w1 ⟨d, rfl, hd, hD, hB⟩
  have HD := Hid.mk (hD.mono (H := fun k => w.heap.size ≤ k ∧ k < w1.heap.size) (fun k hk e => ⟨e, hk.lt⟩))
  have HB := Hid.mk hB
  clear hD hB
  go_wp2_with fail
  refine (cut_any _ w1 d _ HD.out 1).mono ?_
  rintro e w2 ⟨rfl, hD2, hO2⟩
  have HD2 := Hid.mk (show DiskAt (fun k => w.heap.size ≤ k ∧ k < w1.heap.size) w2 d ⟨zeros 3072, [], false, true, 1⟩ from hD2)
  have HO2 := Hid.mk hO2
  have hs2 := hO2.size
  clear hD2 hO2
  go_wp2_with (at_make; refine wpList_make_full _ rfl _ _ 27 rfl w2.heap.size 5 i0 (.int .u8 0) 1 Try.underlying27 hi hz0 hz1 .i64 .i64 _ _ 1024 rfl rfl rfl rfl (by rw [hz2]; omega) (by decide) (Nat.le_refl _) ?_; intro w3 hown hg; have hm := make_zeros hown hg; obtain ⟨hm1, hm2, hm3, hm4, hm5, hm6⟩ := hm; have HM := Hid.mk hm1; have HM6 := Hid.mk hm6; clear hown hg hm1 hm6)
  refine (ex_call HD2.out (fun k e => by omega) HM.out HM6.out).mono ?_
  rintro e w5 ⟨rfl, hD5, hO5⟩
  have HD5 := Hid.mk hD5
  have HO5 := Hid.mk hO5
  have hX1 : (((zeros 1024).set 0 7).set 512 8).length = 1024 := by simp [zeros_len]
  have hX2 : ((((zeros 1024).set 0 7).set 512 8)[0]?.getD 0 : Int) = 7 := by
    rw [List.getElem?_set_ne (by omega), List.getElem?_set_self (by rw [zeros_len]; omega)]
    rfl
  generalize ((zeros 1024).set 0 7).set 512 8 = X at *
  have hL := exT_len (zeros_len 3072) hX1
  have h1024 := exT_1024 (zeros_len 3072) hX1 hX2
  have h1536 := exT_1536 (zeros_len 3072) hX1 (zeros_get 3072)
  have hlg : (exT (zeros 3072) X).log.length = 1 := rfl
  have hlg2 : ∀ k, k < (exT (zeros 3072) X).log.length → ((exT (zeros 3072) X).log.getD k (0, [])).2.length ≤ 1000000 := by
    intro k hk
    obtain rfl : k = 0 := by omega
    simp [exT]
    omega
  have hdd : (exT (zeros 3072) X).dead = true := rfl
  generalize exT (zeros 3072) X = T at *
  have HL := Hid.mk hL
  have H10 := Hid.mk h1024
  have H15 := Hid.mk h1536
  have HLG := Hid.mk hlg
  have HLG2 := Hid.mk hlg2
  have HDD := Hid.mk hdd
  clear hX1 hX2 hL h1024 h1536 hlg hlg2 hdd hD5 hO5 hm4 hm5
  go_wp2_with fail
  refine (image_any _ w5 d T HD5.out (by rw [HL.out]; omega)).mono ?_
  rintro e w6 ⟨v', rfl, hown6, hnn6, hb6⟩
  obtain ⟨g6, cap6, rfl, hg6, hlt6, hcap6, hlen6, hcell6⟩ := owns_bytes hown6 hnn6
  have c10 : w6.cell? ⟨g6, 1024, none⟩ = some (.int .u8 7) := by
    have := hcell6 1024 (by rw [HL.out]; omega)
    rw [add_at, Nat.zero_add] at this
    rw [this, List.getD, H10.out]
  have c15 : w6.cell? ⟨g6, 1536, none⟩ = some (.int .u8 0) := by
    have := hcell6 1536 (by rw [HL.out]; omega)
    rw [add_at, Nat.zero_add] at this
    rw [this, List.getD, H15.out]
  rw [HL.out] at hcap6 ⊢
  have HD6 := Hid.mk (HD5.out.only (Only.of_new (fun _ => False) hb6) (fun _ _ _ h => h))
  have HB6 := Hid.mk hb6
  clear hown6 hnn6 hcell6 hb6 hg6 hlt6 hlen6
  have HDE := dead_any _ w6 d T HD6.out
  rw [HDD.out] at HDE
  have HDE := Hid.mk HDE
  have HLO := log_any _ w6 d T HD6.out (by rw [HLG.out]; omega) HLG2.out
  rw [HLG.out] at HLO
  have HLO := Hid.mk HLO
  go_wp2_with (first | (go_at_call 14; refine HDE.out.mono ?_; rintro e w7 ⟨rfl, hw⟩; subst w7) | (go_at_call 15; refine HLO.out.mono ?_; rintro e w7 ⟨g7, cells7, rfl, r1, r2, r3, hb7⟩; have HB7 := Hid.mk hb7; clear r1 r2 r3 hb7))
  go_ret
  have s1 := HB.out.size
  have s5 := HO5.out.size
  have s6 := HB6.out.size
  refine ⟨rfl, HB.out.trans ((HO2.out.below s1 (fun k e => e.1)).trans ((HO5.out.below (by omega) (fun k e => by omega)).trans ((HB6.out.mono (by omega)).trans (HB7.out.mono (by omega)))))⟩
end Go.Proofs.Ytochgjajlojfeaa
