/-
  PackBlock of the program.
-/
import Derived.Test.YteegopccpgbakaaEntEnts
namespace Go.Proofs.Yteegopccpgbakaa
open Go Go.Proofs Go.RowKit Go.Shelf
namespace Ent
/-- Have these entries a block? -/
def okB (L : List (Int × ByteArray)) : Bool := decide (L.length ≤ 32) && allB L
/-- The block of these entries. -/
def blockL (L : List (Int × ByteArray)) : List Int := catL L ++ zeros (1024 - 32 * L.length)
theorem pblock_long (w : World) (ao : Option Addr) (n c : Nat) (hn : 32 < n) (hn2 : n ≤ 9223372036854775807) : Calls Try.prog 30 #[.slice ao n c] w fun e w' => e = .returned (.tuple #[.slice none 0 0, .int .i64 1]) ∧ w' = w := by
  go_enter Try.func30, Try.ntmps30
  go_wp2
  go_ret2
  exact ⟨rfl, rfl⟩
set_option maxRecDepth 100000 in
set_option maxHeartbeats 4000000 in
theorem pblock_short (w : World) (ao : Option Addr) (n c : Nat) (L : List (Int × ByteArray)) (h : EAt w ao n L) (hL : ∀ e ∈ L, e.2.size ≤ 1000) (hn : n ≤ 32) : Calls Try.prog 30 #[.slice ao n c] w fun e w' => Below w.heap.size w w' ∧ ((okB L = false ∧ e = .returned (.tuple #[.slice none 0 0, .int .i64 1])) ∨
    (okB L = true ∧ ∃ g, e = .returned (.tuple #[.slice (some ⟨g, 0, none⟩) 1024 1024, .int .i64 0]) ∧ RAt w' g (blockL L) ∧ w.heap.size ≤ g)) := by
  obtain ⟨g, hg⟩ : ∃ g, g = w.heap.size := ⟨_, rfl⟩
  obtain ⟨W1, hW1⟩ : ∃ W1, W1 = w.alloc (.cells (By (zeros 1024)).toArray 5) := ⟨_, rfl⟩
  have hMK := make_run w 1024 (by omega)
  rw [← hg] at hMK ⊢
  change _ = Result.ok _ (w.alloc (.cells (By (zeros 1024)).toArray 5)) at hMK
  rw [← hW1] at hMK
  have HR1 : Hid (RAt W1 g (zeros 1024)) := Hid.mk (by rw [hW1, hg]; exact blk_new _ _)
  have HB1 : Hid (Below g w W1) := Hid.mk (by rw [hW1]; exact (Below.refl _ w).alloc (by omega) _)
  have HMK := Hid.mk hMK
  have HLEN := Hid.mk h.1
  have HE : Hid (∀ W, Below g w W → EAt W ao n L) := Hid.mk (fun W hB => h.below (by rw [hg] at hB; exact hB))
  have HL := Hid.mk hL
  have HGS : Hid (g ≤ w.heap.size) := Hid.mk (by omega)
  clear hMK hW1 hg h hL
  go_enter Try.func30, Try.ntmps30
  go_wp2_with (at_make; refine wpList_make_known rfl _ _ 26 rfl _ _ _ _ rfl rfl HMK.out ?_)
  go_loopw [15] (fun i wr => ∃ k : Nat, k ≤ n ∧ i = .int .i64 k ∧ allB (L.take k) = true ∧ RAt wr g (catL (L.take k) ++ zeros (1024 - 32 * k)) ∧ Below g w wr) (fun i _ => n - (intOf i).toNat)
  case atStart => exact ⟨0, by omega, rfl, rfl, by simpa [catL] using HR1.out, HB1.out⟩
  case round =>
    obtain ⟨k, hk, rfl, hall, hr, hb⟩ := hrel
    have HA := Hid.mk hall
    have HR := Hid.mk hr
    have HB := Hid.mk hb
    clear hall hr hb HR1 HB1 HMK
    by_cases hlt : k < n
    · obtain ⟨a, e, halt, hld, -⟩ := (HE.out wr HB.out).at k hlt
      subst e
      have HM : Hid (L.getD k noE ∈ L) := Hid.mk (by
        have hk2 : k < L.length := by rw [HLEN.out]; exact hlt
        simp [List.getD, List.getElem?_eq_getElem hk2])
      have HSZ := Hid.mk (HL.out _ HM.out)
      have HLD := Hid.mk hld
      have HT := Hid.mk (takeE_snoc L k (by rw [HLEN.out]; exact hlt))
      have HNO : Hid (isB (L.getD k noE).1 (nm (L.getD k noE).2) = false → okB L = false) := Hid.mk (fun h => by
        unfold okB
        rw [allB_no (by rw [HLEN.out]; exact hlt) h]
        simp)
      clear hld halt HM
      generalize L.getD k noE = x at *
      obtain ⟨i, s⟩ := x
      dsimp only at *
      obtain ⟨X, Y, d, hrX, hrY, hD, hBY, hd⟩ := var26 wr i s
      have HRX := Hid.mk hrX
      have HRY := Hid.mk hrY
      have HD := Hid.mk hD
      have HBY := Hid.mk hBY
      clear hrX hrY hD hBY hd
      cases hf : isB i (nm s) with
      | false =>
        have HF := Hid.mk (HNO.out hf)
        have HP := Hid.mk (pack_no Y i s HSZ.out hf)
        clear hf
        go_wp2_with (first
          | (refine wpL_loadat (.tmp 18) rfl rfl _ i s rfl HLD.out ?_)
          | (refine wpL_new rfl rfl _ X HRX.out ?_)
          | (refine wpL_store (.tmp 6) (.tmp 19) rfl rfl _ _ Y rfl rfl HRY.out ?_)
          | (refine wpL_load (.tmp 6) rfl rfl d i s rfl HD.out ?_)
          | (go_at_call 52; refine HP.out.mono ?_; rintro e W4 ⟨rfl, hB4⟩; have HB4 := Hid.mk hB4; clear hB4))
        go_ret2
        exact ⟨(HB.out.trans (HBY.out.mono (Nat.le_trans HGS.out HB.out.size))).trans (HB4.out.mono (Nat.le_trans (Nat.le_trans HGS.out HB.out.size) HBY.out.size)), .inl ⟨HF.out, rfl⟩⟩
      | true =>
        obtain ⟨p, hp⟩ : ∃ p, p = 32 * k := ⟨_, rfl⟩
        have hpk : (k : Int) * 32 = (p : Int) := by omega
        have hp2 : p + 32 ≤ 1024 := by omega
        have HP := Hid.mk (pack_yes Y i s hf)
        have HPL := Hid.mk (isB_parts hf).2
        have HAS : Hid (allB (L.take (k + 1)) = true) := Hid.mk (by rw [HT.out, allB_snoc, HA.out, hf]; rfl)
        have HCL : Hid ((catL (L.take k)).length = p) := Hid.mk (by rw [catL_length _ HA.out, List.length_take, HLEN.out, hp]; omega)
        have HCP : Hid (∀ W4 q, Below Y.heap.size Y W4 → RAt W4 q (entL i (nm s)) → ∃ W5, (Builtin.copy_ #[26, 26] 3 #[.slice (some ⟨g, p, none⟩) (1024 - p) (1024 - p), .slice (some ⟨q, 0, none⟩) 32 32]).run Try.prog W4 = .ok (.int .i64 32) W5 ∧ RAt W5 g (catL (L.take (k + 1)) ++ zeros (1024 - 32 * (k + 1))) ∧ Below g w W5) := Hid.mk (fun W4 q hB4 hrow => by
          have hr1 : RAt W4 g (catL (L.take k) ++ zeros (1024 - 32 * k)) := (HR.out.below HBY.out HR.out.lt).below hB4 (Nat.lt_of_lt_of_le HR.out.lt HBY.out.size)
          have hel := entL_length i (nm s) HPL.out
          obtain ⟨W5, h1, h2, h3⟩ := copy_run W4 g p (1024 - p) (1024 - p) _ (entL i (nm s)) (some ⟨q, 0, none⟩) 32 32 hr1 (hrow.full hel) (fun e => by cases e) (by rw [List.length_append, HCL.out, zeros_length]; omega)
          have hmin : min 32 (1024 - p) = 32 := by omega
          rw [hmin] at h1 h2
          have e1 : (entL i (nm s)).take 32 = entL i (nm s) := List.take_of_length_le (by omega)
          have e2 : catL (L.take (k + 1)) = catL (L.take k) ++ entL i (nm s) := by rw [HT.out, catL_snoc]
          have e3 : 1024 - 32 * (k + 1) = 1024 - (p + 32) := by omega
          rw [e1, ← hp, splice_zero 1024 (catL (L.take k)) (entL i (nm s)) p HCL.out (by omega), hel, ← e2, ← e3] at h2
          have hg4 : g ≤ Y.heap.size := Nat.le_trans (Nat.le_trans HGS.out HB.out.size) HBY.out.size
          exact ⟨W5, h1, h2, ((HB.out.trans (HBY.out.mono (Nat.le_trans HGS.out HB.out.size))).trans (hB4.mono hg4)).trans (h3.below (Nat.le_trans hg4 hB4.size) (fun k e => by omega))⟩)
        clear hf hp
        go_wp2_with (first
          | (refine wpL_loadat (.tmp 18) rfl rfl _ i s rfl HLD.out ?_)
          | (refine wpL_new rfl rfl _ X HRX.out ?_)
          | (refine wpL_store (.tmp 6) (.tmp 19) rfl rfl _ _ Y rfl rfl HRY.out ?_)
          | (refine wpL_load (.tmp 6) rfl rfl d i s rfl HD.out ?_)
          | (go_at_call 52; refine HP.out.mono ?_; rintro e W4 ⟨q, rfl, hrow, hq, hB4⟩; obtain ⟨W5, hr5, hrow5, hB5⟩ := HCP.out W4 q hB4 hrow; have HR5 := Hid.mk hr5; have HROW := Hid.mk hrow5; have HB5 := Hid.mk hB5; clear hrow hq hB4 hr5 hrow5 hB5)
          | (refine wpList_copy_known rfl (.tmp 31) (.tmp 32) 26 26 rfl _ _ _ _ rfl rfl HR5.out ?_))
        go_roundw
        case rel => exact ⟨k + 1, by omega, by go_num, HAS.out, HROW.out, HB5.out⟩
        case measure => simp [intOf]; omega
    · have hge : (n : Int) ≤ k := by omega
      obtain rfl : k = n := by omega
      have HT : Hid (L.take k = L) := Hid.mk (List.take_of_length_le (by rw [HLEN.out]; omega))
      have HLE : Hid (k ≤ 32) := Hid.mk hn
      go_wp2
      go_ret2
      have h1 := HA.out
      have h2 := HR.out
      rw [HT.out] at h1 h2
      exact ⟨HB.out, .inr ⟨by unfold okB; rw [h1, HLEN.out, decide_eq_true HLE.out]; rfl, g, rfl, by unfold blockL; rw [HLEN.out]; exact h2, Nat.le_refl _⟩⟩
end Ent
end Go.Proofs.Yteegopccpgbakaa
