/-
  PackEntries and Entries of the reference.
-/
import Derived.Test.YteegopccpgbakaaEntPBlock
namespace Go.Proofs.Yteegopccpgbakaa
open Go Go.Proofs Go.RowKit Go.Shelf
namespace Ent
theorem rpblock_long (w : World) (ao : Option Addr) (n c : Nat) (hn : 32 < n) (hn2 : n ≤ 9223372036854775807) : Calls Try.prog 20 #[.slice ao n c] w fun e w' => e = .returned (.tuple #[.slice none 0 0, .bool false]) ∧ w' = w := by
  go_enter Try.func20, Try.ntmps20
  go_wp2
  go_ret2
  exact ⟨rfl, rfl⟩
set_option maxRecDepth 100000 in
set_option maxHeartbeats 4000000 in
theorem rpblock_short (w : World) (ao : Option Addr) (n c : Nat) (L : List (Int × ByteArray)) (h : EAt w ao n L) (hL : ∀ e ∈ L, e.2.size ≤ 1000) (hn : n ≤ 32) : Calls Try.prog 20 #[.slice ao n c] w fun e w' => Below w.heap.size w w' ∧ ((okB L = false ∧ e = .returned (.tuple #[.slice none 0 0, .bool false])) ∨
    (okB L = true ∧ ∃ v, e = .returned (.tuple #[v, .bool true]) ∧ w'.ownsRow w.heap.size 5 1 v 1024 (By (blockL L)))) := by
  obtain ⟨B, hBe⟩ : ∃ B, B = w.heap.size := ⟨_, rfl⟩
  rw [← hBe]
  have HLEN := Hid.mk h.1
  have HE : Hid (∀ W, Below B w W → EAt W ao n L) := Hid.mk (fun W hB => h.below (by rw [hBe] at hB; exact hB))
  have HL := Hid.mk hL
  have HGS : Hid (B ≤ w.heap.size) := Hid.mk (by omega)
  clear hBe h hL
  go_enter Try.func20, Try.ntmps20
  go_wp2
  go_loopw [4, 5] (fun b i wr => ∃ k : Nat, k ≤ n ∧ i = .int .i64 k ∧ allB (L.take k) = true ∧ wr.ownsRow B 5 1 b (32 * k) (By (catL (L.take k))) ∧ Below B w wr) (fun _ i _ => n - (intOf i).toNat)
  case atStart => exact ⟨0, by omega, rfl, rfl, World.ownsRow_nil _ _ 5 1, Below.refl _ _⟩
  case round =>
    obtain ⟨k, hk, rfl, hall, ho, hb⟩ := hrel
    have HA := Hid.mk hall
    have HO := Hid.mk ho
    have HB := Hid.mk hb
    clear hall ho hb
    by_cases hlt : k < n
    · obtain ⟨a, e, halt, hld, -⟩ := (HE.out _ HB.out).at k hlt
      subst e
      have HM : Hid (L.getD k noE ∈ L) := Hid.mk (by
        have hk2 : k < L.length := by rw [HLEN.out]; exact hlt
        simp [List.getD, List.getElem?_eq_getElem hk2])
      have HSZ := Hid.mk (HL.out _ HM.out)
      have HLD := Hid.mk hld
      have HT := Hid.mk (takeE_snoc L k (by rw [HLEN.out]; exact hlt))
      have HNO : Hid (isB (L.getD k noE).1 (nm (L.getD k noE).2) = false → okB L = false) := Hid.mk (fun h => by
        unfold okB
        rw [allB_no (by rw [HLEN.out]; exact hlt) h]
        simp)
      clear hld halt HM
      generalize L.getD k noE = x at *
      obtain ⟨i, s⟩ := x
      dsimp only at *
      cases hf : isB i (nm s) with
      | false =>
        have HF := Hid.mk (HNO.out hf)
        have HP := Hid.mk (rpack_no wr i s HSZ.out hf)
        clear hf
        go_wp2_with (first
          | (refine wpL_loadat (.tmp 20) rfl rfl _ i s rfl HLD.out ?_)
          | (go_at_call 39; refine HP.out.mono ?_; rintro e W4 ⟨rfl, hB4⟩; have HB4 := Hid.mk hB4; clear hB4))
        go_ret2
        exact ⟨HB.out.trans (HB4.out.mono (Nat.le_trans HGS.out HB.out.size)), .inl ⟨HF.out, rfl⟩⟩
      | true =>
        have HP := Hid.mk (rpack_yes wr i s hf)
        have HAS : Hid (allB (L.take (k + 1)) = true) := Hid.mk (by rw [HT.out, allB_snoc, HA.out, hf]; rfl)
        have HAP : Hid (∀ W4 v, Below wr.heap.size wr W4 → W4.ownsRow wr.heap.size 5 1 v 32 (By (entL i (nm s))) → ∃ v' W5, (Builtin.append_ #[26, 26] 26 #[u4, v]).run Try.prog W4 = .ok v' W5 ∧ W5.ownsRow B 5 1 v' (32 * (k + 1)) (By (catL (L.take (k + 1)))) ∧ Below B w W5) := Hid.mk (fun W4 v hB4 ho => by
          obtain ⟨ao2, c2, rfl, hb2, -, hne⟩ := owns_BAt ho
          have hsz : B ≤ wr.heap.size := Nat.le_trans HGS.out HB.out.size
          have ho4 : W4.ownsRow B 5 1 u4 (32 * k) (By (catL (L.take k))) := owns_at HO.out (fun j hj => hB4.block j (HO.out.lt j hj).2)
          cases ao2 with
          | none => exact absurd rfl (hne (by omega))
          | some a2 =>
            obtain ⟨v', W5, h1, h2, h3⟩ := append_row_run W4 B u4 (32 * k) _ ho4 (Nat.le_trans hsz hB4.size) a2 32 c2 _ hb2 (by omega)
            have e2 : catL (L.take (k + 1)) = catL (L.take k) ++ entL i (nm s) := by rw [HT.out, catL_snoc]
            rw [← e2] at h2
            exact ⟨v', W5, h1, h2, (HB.out.trans (hB4.mono hsz)).grown h3 (Nat.le_trans hsz hB4.size) (fun j hj => (HO.out.lt j hj).1)⟩)
        clear hf HO
        go_wp2_with (first
          | (refine wpL_loadat (.tmp 20) rfl rfl _ i s rfl HLD.out ?_)
          | (go_at_call 39; refine HP.out.mono ?_; rintro e W4 ⟨v, rfl, ho4, hB4⟩; obtain ⟨v5, W5, hr5, ho5, hB5⟩ := HAP.out W4 v hB4 ho4; have HR5 := Hid.mk hr5; have HO5 := Hid.mk ho5; have HB5 := Hid.mk hB5; clear ho4 hB4 hr5 ho5 hB5)
          | (at_builtin; refine wpList_append_known rfl (.tmp 27) (.tmp 28) 26 rfl _ _ _ _ rfl rfl HR5.out ?_))
        go_roundw
        case rel => exact ⟨k + 1, by omega, by go_num, HAS.out, HO5.out, HB5.out⟩
        case measure => simp [intOf]; omega
    · have hge : (n : Int) ≤ k := by omega
      obtain rfl : k = n := by omega
      have HT : Hid (L.take k = L) := Hid.mk (List.take_of_length_le (by rw [HLEN.out]; omega))
      have HLE : Hid (k ≤ 32) := Hid.mk hn
      have HFI := Hid.mk (fill_any wr B u4 (32 * k) 1024 _ HO.out (Nat.le_trans HGS.out HB.out.size) (by omega) (by omega))
      go_wp2_with (go_at_call 32; refine HFI.out.mono ?_; rintro e W5 ⟨v, rfl, ho5, hB5⟩; have HO5 := Hid.mk ho5; have HB5 := Hid.mk (HB.out.trans hB5); clear ho5 hB5)
      go_ret2
      have h1 := HA.out
      have h2 := HO5.out
      rw [HT.out] at h1 h2
      exact ⟨HB5.out, .inr ⟨by unfold okB; rw [h1, HLEN.out, decide_eq_true HLE.out]; rfl, v, rfl, by unfold blockL; rw [HLEN.out]; exact h2⟩⟩
/-- The bytes of entry k of a block. -/
def blkAt (xs : List Int) (k : Nat) : List Int := (xs.drop (32 * k)).take 32
/-- The first entries of a block. -/
def entsL (xs : List Int) (n : Nat) : List (Int × ByteArray) := (List.range n).map (fun j => (rdI (blkAt xs j), rdS (blkAt xs j)))
theorem entsL_length (xs : List Int) (n : Nat) : (entsL xs n).length = n := by simp [entsL]
theorem entsL_snoc (xs : List Int) (n : Nat) : entsL xs (n + 1) = entsL xs n ++ [(rdI (blkAt xs n), rdS (blkAt xs n))] := by simp [entsL, List.range_succ]
theorem entsL_get (xs : List Int) (n k : Nat) (h : k < n) : (entsL xs n).getD k noE = (rdI (blkAt xs k), rdS (blkAt xs k)) := by simp [entsL, List.getD, h]
theorem blkAt_bound (xs : List Int) (h : ∀ x ∈ xs, 0 ≤ x ∧ x ≤ 255) (k : Nat) : ∀ x ∈ blkAt xs k, 0 ≤ x ∧ x ≤ 255 := take_bound _ (drop_bound _ h _) _
theorem _root_.Go.Proofs.Yteegopccpgbakaa.BAt.part {W : World} {a : Addr} {n : Nat} {xs : List Int} (h : BAt W (some a) n xs) (p m : Nat) (hm : p + m ≤ n) : BAt W (some (a.add p)) m ((xs.drop p).take m) := by
  refine ⟨by simp [h.1]; omega, fun hp => ?_⟩
  obtain ⟨a', e, hlt, hc⟩ := h.2 (by omega)
  cases e
  refine ⟨_, rfl, by rw [add_block]; exact hlt, fun i hi => ?_⟩
  rw [add_add, hc (p + i) (by omega)]
  simp [List.getD, hi]
end Ent
end Go.Proofs.Yteegopccpgbakaa
