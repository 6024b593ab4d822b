/-
  DinodePacks: the bytes of every inode, or that it has none, and that they are read as it.
-/
import Derived.Test.YtnajpnnmiocckaaPackRef
namespace Go.Proofs.Ytnajpnnmiocckaa
open Go Go.Proofs Go.RowKit Go.Shelf

section
variable {w : World} {ops : Array Oper} {rest : List Oper} {o : Oper} {a : Act} {Q : Exit → Act → World → Prop}
/-- string(b). -/
theorem wpL_conv (x : Operand) (ho : o.op = .convert 26 9 x) (hw : Region.wanted o (yielded ops a.tmps) = true) (ao : Option Addr) (n c : Nat) (xs : List Int) (hx : a.eval x = .slice ao n c) (hB : BAt w ao n xs) (SX : ByteArray) (hS : SX = strOfNums xs) (h : wpList Try.prog ops Q rest (a.put o.dst (.string SX)) w) : wpList Try.prog ops Q (o :: rest) a w := by
  subst hS
  exact wpList_known hw _ _ (exec_convert ho hx (conv_bytes w ao n c xs hB)) h
theorem wpL_boxed (x : Operand) (ho : o.op = .box 24 x) (hw : Region.wanted o (yielded ops a.tmps) = true) (l : List Int) (b : Nat) (W1 : World) (hb : b = w.heap.size) (hW : W1 = w.alloc (.cells (Iy l).toArray 24)) (hx : a.eval x = inoV l) (h : wpList Try.prog ops Q rest (a.put o.dst (.pointer (some ⟨b, 0, none⟩))) W1) : wpList Try.prog ops Q (o :: rest) a w := by
  subst hb hW
  exact wpL_box x ho hw l hx h
end
theorem rpack_no (w : World) (l : List Int) (hl : l.length = 13) (h : fineL l = false) : Calls Try.prog 10 #[inoV l] w fun e w' => e = .returned (.tuple #[.slice none 0 0, .bool false]) ∧ Below w.heap.size w w' := by
  refine (rpack_any w l hl).mono ?_
  rintro e w' ⟨hB, ⟨-, rfl⟩ | ⟨h2, -⟩⟩
  · exact ⟨rfl, hB⟩
  · rw [h] at h2; cases h2
theorem rpack_yes (w : World) (l : List Int) (hl : l.length = 13) (h : fineL l = true) : Calls Try.prog 10 #[inoV l] w fun e w' => ∃ ao c, e = .returned (.tuple #[.slice ao 64 c, .bool true]) ∧ BAt w' ao 64 (inoL l) ∧ Below w.heap.size w w' := by
  refine (rpack_any w l hl).mono ?_
  rintro e w' ⟨hB, ⟨h2, -⟩ | ⟨-, v, rfl, ho⟩⟩
  · rw [h] at h2; cases h2
  · obtain ⟨ao, c, rfl, hb, -⟩ := owns_BAt ho
    exact ⟨ao, c, rfl, hb, hB⟩
theorem BAt.nil (W : World) : BAt W none 0 [] := ⟨rfl, fun h => absurd h (Nat.lt_irrefl 0)⟩
theorem BAt.below {W W' : World} {ao : Option Addr} {n : Nat} {xs : List Int} (h : BAt W ao n xs) (hB : Below W.heap.size W W') : BAt W' ao n xs := h.only (Only.of_new (fun _ => False) hB) (fun _ _ _ h => h)

set_option maxRecDepth 100000 in
set_option maxHeartbeats 4000000 in
theorem packs_any (w : World) (l : List Int) (hl : l.length = 13) : Calls Try.prog 3 #[inoV l] w fun e w' => e = .returned (.bool true) ∧ Below w.heap.size w w' := by
  obtain ⟨W1, hW1⟩ : ∃ W1, W1 = w.alloc (.cells (Iy l).toArray 24) := ⟨_, rfl⟩
  have hB1 : Below w.heap.size w W1 := by rw [hW1]; exact (Below.refl _ w).alloc (Nat.le_refl _) _
  have hN1 : NAt w.heap.size l W1 := by rw [hW1]; exact NAt.new w l
  obtain ⟨b, hb⟩ : ∃ b, b = w.heap.size := ⟨_, rfl⟩
  rw [← hb] at hN1 hB1 ⊢
  have HW1 := Hid.mk hW1
  have HBE := Hid.mk hb
  have HN := Hid.mk hN1
  have HB := Hid.mk hB1
  clear hW1 hb hN1 hB1
  cases hf : fineL l with
  | false =>
    have HP := Hid.mk (fun W => pack_no W l hl hf)
    have HQ := Hid.mk (fun W => rpack_no W l hl hf)
    obtain ⟨SX, hSX⟩ : ∃ SX, SX = strOfNums [] := ⟨_, rfl⟩
    have HSX := Hid.mk hSX
    clear hf hSX
    go_enter Try.func3, Try.ntmps3
    go_wp2_with (first
      | (refine wpL_boxed (.tmp 0) rfl rfl l b W1 HBE.out HW1.out rfl ?_)
      | (go_at_call 8; refine (alive_any _).mono ?_; rintro e W2 ⟨rfl, hB⟩; replace HB := Hid.mk (HB.out.trans (hB.mono (Nat.le_of_lt HN.out.lt))); replace HN := Hid.mk (HN.out.below hB HN.out.lt); clear hB)
      | (refine wpL_load (.tmp 1) rfl rfl b l rfl HN.out hl ?_)
      | (go_at_call 9; refine (HP.out _).mono ?_; rintro e W3 ⟨rfl, hB⟩; replace HB := Hid.mk (HB.out.trans (hB.mono (Nat.le_of_lt HN.out.lt))); replace HN := Hid.mk (HN.out.below hB HN.out.lt); clear hB)
      | (go_at_call 10; refine (HQ.out _).mono ?_; rintro e W4 ⟨rfl, hB⟩; replace HB := Hid.mk (HB.out.trans (hB.mono (Nat.le_of_lt HN.out.lt))); replace HN := Hid.mk (HN.out.below hB HN.out.lt); clear hB)
      | (go_at_call 11; refine (num_any _ _).mono ?_; rintro e w3 ⟨rfl, hw⟩; subst w3)
      | (refine wpL_conv (.tmp 40) rfl rfl none 0 0 [] rfl (BAt.nil _) SX HSX.out ?_)
      | (refine wpL_conv (.tmp 42) rfl rfl none 0 0 [] rfl (BAt.nil _) SX HSX.out ?_))
    go_ret
    exact ⟨rfl, HB.out⟩
  | true =>
    have HP := Hid.mk (fun W => pack_yes W l hl hf)
    have HQ := Hid.mk (fun W => rpack_yes W l hl hf)
    obtain ⟨SX, hSX⟩ : ∃ SX, SX = strOfNums (inoL l) := ⟨_, rfl⟩
    have HSX := Hid.mk hSX
    have HRD : Hid (∀ W g, RAt W g (inoL l) → Calls Try.prog 12 #[.slice (some ⟨g, 0, none⟩) 64 64] W fun e w' => e = .returned (.tuple #[inoV l, .int .i64 0]) ∧ Below W.heap.size W w') := Hid.mk (fun W g hr => by
      have h := read_any W (some ⟨g, 0, none⟩) 64 64 (inoL l) (hr.full (inoL_length l hl)) (inoL_bound l) (by omega) (by omega)
      rwa [(ino_reads hl hf).2.1, (ino_reads hl hf).2.2] at h)
    have HIL := Hid.mk (inoL_length l hl)
    clear hf hSX
    go_enter Try.func3, Try.ntmps3
    go_wp2_with (first
      | (refine wpL_boxed (.tmp 0) rfl rfl l b W1 HBE.out HW1.out rfl ?_)
      | (go_at_call 8; refine (alive_any _).mono ?_; rintro e W2 ⟨rfl, hB⟩; replace HB := Hid.mk (HB.out.trans (hB.mono (Nat.le_of_lt HN.out.lt))); replace HN := Hid.mk (HN.out.below hB HN.out.lt); clear hB)
      | (refine wpL_load (.tmp 1) rfl rfl b l rfl HN.out hl ?_)
      | (go_at_call 9; refine (HP.out _).mono ?_; rintro e W3 ⟨g, rfl, hrow, hge, hB⟩; replace HB := Hid.mk (HB.out.trans (hB.mono (Nat.le_of_lt HN.out.lt))); replace HN := Hid.mk (HN.out.below hB HN.out.lt); have HRW := Hid.mk hrow; clear hB hrow hge HP)
      | (go_at_call 10; refine (HQ.out _).mono ?_; rintro e W4 ⟨ao, vc, rfl, hba, hB⟩; replace HRW := Hid.mk (HRW.out.below hB HRW.out.lt); replace HB := Hid.mk (HB.out.trans (hB.mono (Nat.le_of_lt HN.out.lt))); replace HN := Hid.mk (HN.out.below hB HN.out.lt); have HBA := Hid.mk hba; clear hB hba)
      | (go_at_call 11; refine (num_any _ _).mono ?_; rintro e w3 ⟨rfl, hw⟩; subst w3)
      | (refine wpL_conv (.tmp 40) rfl rfl (some ⟨g, 0, none⟩) 64 64 (inoL l) rfl (HRW.out.full HIL.out) SX HSX.out ?_)
      | (refine wpL_conv (.tmp 42) rfl rfl ao 64 vc (inoL l) rfl HBA.out SX HSX.out ?_)
      | (go_at_call 12; refine (HRD.out _ _ HRW.out).mono ?_; rintro e W6 ⟨rfl, hB⟩; replace HB := Hid.mk (HB.out.trans (hB.mono (Nat.le_of_lt HN.out.lt))); replace HN := Hid.mk (HN.out.below hB HN.out.lt); clear hB; obtain ⟨X, Y, d, hrX, hrY, hD, hB, hd⟩ := var24 W6 l hl; replace HB := Hid.mk (HB.out.trans (hB.mono (Nat.le_of_lt HN.out.lt))); replace HN := Hid.mk (HN.out.below hB HN.out.lt); have HD := Hid.mk hD; have HRX := Hid.mk hrX; have HRY := Hid.mk hrY; clear hB hrX hrY hD hd)
      | (refine wpL_alloc rfl rfl _ X HRX.out ?_)
      | (refine wpL_store (.tmp 8) (.tmp 51) rfl rfl _ _ Y rfl rfl HRY.out ?_)
      | (refine wpL_load (.tmp 8) rfl rfl d l rfl HD.out hl ?_)
      | (refine wpL_eql (.tmp 57) (.tmp 58) 24 rfl rfl l l true (by simp [eqB]) rfl rfl hl hl ?_))
    go_ret
    exact ⟨rfl, HB.out⟩
end Go.Proofs.Ytnajpnnmiocckaa
