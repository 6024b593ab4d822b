/-
  ReadInode of the reference.
-/
import Derived.Test.YtnajpnnmiocckaaPacksWalk
namespace Go.Proofs.Ytnajpnnmiocckaa
open Go Go.Proofs Go.RowKit Go.Shelf

theorem exec_strneq {ev : Operand → Value} {oi : Oper} {x y : Operand} {u : TypeId} {s t : ByteArray} {w : World} (c : Bool) (hc : (s.toList == t.toList) = c) (ho : oi.op = .binOp .neq 9 x y u) (hx : ev x = .string s) (hy : ev y = .string t) : (execOp ev oi).run Try.prog w = .ok (.value (.bool (!c))) w := by
  subst hc
  unfold execOp
  rw [ho]
  simp only [hx, hy]
  go_simp
theorem exec_streql {ev : Operand → Value} {oi : Oper} {x y : Operand} {u : TypeId} {s t : ByteArray} {w : World} (c : Bool) (hc : (s.toList == t.toList) = c) (ho : oi.op = .binOp .eql 9 x y u) (hx : ev x = .string s) (hy : ev y = .string t) : (execOp ev oi).run Try.prog w = .ok (.value (.bool c)) w := by
  subst hc
  unfold execOp
  rw [ho]
  simp only [hx, hy]
  go_simp
/-- The inode while its direct ones are read. -/
def partL (l : List Int) (k : Nat) : List Int := l.take (3 + k) ++ (zeros (8 - k) ++ l.drop 11)
theorem part_set (l : List Int) (hl : l.length = 13) (k : Nat) (hk : k < 8) : (partL l k).set (3 + k) (l.getD (3 + k) 0) = partL l (k + 1) := by
  obtain ⟨a0, a1, a2, a3, a4, a5, a6, a7, a8, a9, a10, a11, a12, rfl⟩ := list13 l hl
  match k, hk with
  | 0, _ => rfl
  | 1, _ => rfl
  | 2, _ => rfl
  | 3, _ => rfl
  | 4, _ => rfl
  | 5, _ => rfl
  | 6, _ => rfl
  | 7, _ => rfl
theorem part_length (l : List Int) (hl : l.length = 13) (k : Nat) (hk : k ≤ 8) : (partL l k).length = 13 := by
  simp [partL, zeros_length, hl]
  omega
theorem part_zero (l : List Int) (hl : l.length = 13) : partL l 0 = [l.getD 0 0, l.getD 1 0, l.getD 2 0, 0, 0, 0, 0, 0, 0, 0, 0, l.getD 11 0, l.getD 12 0] := by
  obtain ⟨a0, a1, a2, a3, a4, a5, a6, a7, a8, a9, a10, a11, a12, rfl⟩ := list13 l hl
  rfl
theorem part_all (l : List Int) (hl : l.length = 13) : partL l 8 = l := by
  obtain ⟨a0, a1, a2, a3, a4, a5, a6, a7, a8, a9, a10, a11, a12, rfl⟩ := list13 l hl
  rfl
theorem ofB_half (xs : List Int) (h : xs.length = 64) (i : Nat) (hi : i < 2) : (ofB xs).getD i 0 = numL ((xs.drop (2 * i)).take 2) := by
  have h0 := allL_get 2 (xs.take 4) i (by simp [h]; omega)
  have e : (ofB xs).getD i 0 = (allL 2 (xs.take 4)).getD i 0 := by
    unfold ofB
    simp only [List.getD]
    rw [List.getElem?_append_left (by rw [allL_length]; simp [h]; omega)]
  rw [e, h0, List.drop_take, List.take_take]
  congr 2
  omega
theorem ofB_word (xs : List Int) (h : xs.length = 64) (i : Nat) (hi : i < 11) : (ofB xs).getD (2 + i) 0 = numL ((xs.drop (4 + 4 * i)).take 4) := by
  have h0 := allL_get 4 ((xs.drop 4).take 44) i (by simp [h]; omega)
  have e : (ofB xs).getD (2 + i) 0 = (allL 4 ((xs.drop 4).take 44)).getD i 0 := by
    unfold ofB
    have e2 : (allL 2 (xs.take 4)).length = 2 := by rw [allL_length]; simp [h]
    simp only [List.getD]
    rw [List.getElem?_append_right (by rw [e2]; omega), e2, Nat.add_sub_cancel_left]
  rw [e, h0, List.drop_take, List.take_take, List.drop_drop]
  congr 2
  omega

theorem NAt.set {b : Nat} {l : List Int} {W : World} (h : NAt b l W) (i : Nat) (y : Int) : NAt b (l.set i y) (W.setCell ⟨b, i, none⟩ (.int .i64 y)) := by
  unfold NAt
  rw [blk_set h, Iy_setArr]
section
variable {w : World} {ops : Array Oper} {rest : List Oper} {o : Oper} {a : Act} {Q : Exit → Act → World → Prop}
theorem wpL_strneq (x y : Operand) (u : TypeId) (ho : o.op = .binOp .neq 9 x y u) (hw : Region.wanted o (yielded ops a.tmps) = true) (s t : ByteArray) (c : Bool) (hc : (s.toList == t.toList) = c) (hx : a.eval x = .string s) (hy : a.eval y = .string t) (h : wpList Try.prog ops Q rest (a.put o.dst (.bool (!c))) w) : wpList Try.prog ops Q (o :: rest) a w :=
  wpList_known hw _ _ (exec_strneq c hc ho hx hy) h
theorem wpL_streql (x y : Operand) (u : TypeId) (ho : o.op = .binOp .eql 9 x y u) (hw : Region.wanted o (yielded ops a.tmps) = true) (s t : ByteArray) (c : Bool) (hc : (s.toList == t.toList) = c) (hx : a.eval x = .string s) (hy : a.eval y = .string t) (h : wpList Try.prog ops Q rest (a.put o.dst (.bool c)) w) : wpList Try.prog ops Q (o :: rest) a w :=
  wpList_known hw _ _ (exec_streql c hc ho hx hy) h
end

theorem rread_short (w : World) (ao : Option Addr) (n c : Nat) (hn : n ≠ 64) :
    Calls Try.prog 13 #[.slice ao n c] w fun e w' => e = .returned (.tuple #[inoV (zeros 13), .bool false]) ∧ Below w.heap.size w w' := by
  have h1 : ((n : Int) == 64) = false := by simp; omega
  have h2 : ¬ ((n : Int) = 64) := by omega
  obtain ⟨X, b, hrX, hX, hXB, hXb⟩ := alloc24_any w
  obtain ⟨Y, hrY, hY, hYo⟩ := store24_run (m := zeros 13) hX (zeros_length 13) (zeros_length 13)
  have HRX := Hid.mk hrX
  have HRY := Hid.mk hrY
  have HY := Hid.mk hY
  have HB := Hid.mk (hXB.trans (hYo.below hXB.size (fun k e => by rw [e]; exact hXb)))
  clear hrX hX hXB hrY hY hYo hXb
  go_enter Try.func13, Try.ntmps13
  go_wp2_with (first
    | (refine wpL_alloc rfl rfl _ X HRX.out ?_)
    | (refine wpL_build rfl rfl ?_)
    | (refine wpL_store (.tmp 2) (.tmp 11) rfl rfl _ _ Y rfl rfl HRY.out ?_))
  exact bodyPost_ret (results_cell2 Try.results13 rfl HY.out (zeros_length 13)) rfl ⟨rfl, HB.out⟩

set_option maxRecDepth 100000 in
set_option maxHeartbeats 4000000 in
theorem rread_full (w : World) (a : Addr) (c : Nat) (xs : List Int) (h : BAt w (some a) 64 xs) (hx : ∀ x ∈ xs, 0 ≤ x ∧ x ≤ 255) :
    Calls Try.prog 13 #[.slice (some a) 64 c] w fun e w' => e = .returned (.tuple #[inoV (rdL xs), .bool (rdB xs)]) ∧ Below w.heap.size w w' := by
  have hlen := h.1
  have HX := Hid.mk hx
  obtain ⟨W1, b, hrX, hX, hXB, hXb⟩ := alloc24_any w
  obtain ⟨B, hBe⟩ : ∃ B, B = w.heap.size := ⟨_, rfl⟩
  rw [← hBe] at hXB hXb
  have HBA : Hid (∀ W, Below B w W → BAt W (some a) 64 xs) := Hid.mk (fun W hB => h.only (Only.of_new (fun _ => False) (by rw [hBe] at hB; exact hB)) (fun _ _ _ h => h))
  rw [← hBe]
  have HBs : Hid (B ≤ w.heap.size) := Hid.mk (by omega)
  clear h hx hBe
  have HNUM : Hid (∀ W q K, 0 < K → K ≤ 4 → q + K ≤ 64 → Below B w W → Calls Try.prog 31 #[.slice (some a) 64 c, .int .i64 (q : Nat), .int .i64 (K : Nat)] W fun e w' => e = .returned (.int .i64 (numL ((xs.drop q).take K))) ∧ w' = W) := Hid.mk (fun W q K h1 h2 h3 hB => rnum_any W a 64 c q K h1 h2 xs (HBA.out W hB) HX.out h3 (by omega))
  have hol := ofB_length xs hlen
  have HRD : Hid (rdB xs = (fineL (ofB xs) && eqB xs (inoL (ofB xs)))) := Hid.mk (by unfold rdB; rw [hlen]; simp)
  have hw0 := ofB_half xs hlen 0 (by omega)
  have hw1 := ofB_half xs hlen 1 (by omega)
  have hww := ofB_word xs hlen
  obtain ⟨l, hle⟩ : ∃ l, l = ofB xs := ⟨_, rfl⟩
  rw [← hle] at hol HRD hw0 hw1 hww
  have N0 : Hid (Calls Try.prog 31 #[.slice (some a) 64 c, .int .i64 0, .int .i64 2] W1 fun e w' => e = .returned (.int .i64 (l.getD 0 0)) ∧ w' = W1) := Hid.mk (by rw [hw0]; exact HNUM.out W1 0 2 (by omega) (by omega) (by omega) hXB)
  have N1 : Hid (Calls Try.prog 31 #[.slice (some a) 64 c, .int .i64 2, .int .i64 2] W1 fun e w' => e = .returned (.int .i64 (l.getD 1 0)) ∧ w' = W1) := Hid.mk (by rw [hw1]; exact HNUM.out W1 2 2 (by omega) (by omega) (by omega) hXB)
  have N2 : Hid (Calls Try.prog 31 #[.slice (some a) 64 c, .int .i64 4, .int .i64 4] W1 fun e w' => e = .returned (.int .i64 (l.getD 2 0)) ∧ w' = W1) := Hid.mk (by rw [hww 0 (by omega)]; exact HNUM.out W1 4 4 (by omega) (by omega) (by omega) hXB)
  have N3 : Hid (Calls Try.prog 31 #[.slice (some a) 64 c, .int .i64 40, .int .i64 4] W1 fun e w' => e = .returned (.int .i64 (l.getD 11 0)) ∧ w' = W1) := Hid.mk (by rw [hww 9 (by omega)]; exact HNUM.out W1 40 4 (by omega) (by omega) (by omega) hXB)
  have N4 : Hid (Calls Try.prog 31 #[.slice (some a) 64 c, .int .i64 44, .int .i64 4] W1 fun e w' => e = .returned (.int .i64 (l.getD 12 0)) ∧ w' = W1) := Hid.mk (by rw [hww 10 (by omega)]; exact HNUM.out W1 44 4 (by omega) (by omega) (by omega) hXB)
  have ND : Hid (∀ W k, k < 8 → Below B w W → Calls Try.prog 31 #[.slice (some a) 64 c, .int .i64 ((8 + 4 * k : Nat) : Int), .int .i64 4] W fun e w' => e = .returned (.int .i64 (l.getD (3 + k) 0)) ∧ w' = W) := Hid.mk (fun W k hk hB => by
    have e1 := hww (1 + k) (by omega)
    rw [show 2 + (1 + k) = 3 + k by omega, show 4 + 4 * (1 + k) = 8 + 4 * k by omega] at e1
    rw [e1]
    exact HNUM.out W (8 + 4 * k) 4 (by omega) (by omega) (by omega) hB)
  obtain ⟨X2, Y, d, hr1, hr2, hD, hBY, hd⟩ := var24 W1 (partL l 0) (part_length l hol 0 (by omega))
  rw [part_zero l hol] at hr2
  have HRX := Hid.mk hrX
  have HR1 := Hid.mk hr1
  have HD0 := Hid.mk hD
  have HN0 := Hid.mk (hX.below hBY hX.lt)
  have HB0 := Hid.mk (hXB.trans (hBY.mono (Nat.le_trans HBs.out hXB.size)))
  have HBb := Hid.mk hXb
  have hbd : b < d := Nat.lt_of_lt_of_le hX.lt hd
  have HOL := Hid.mk hol
  have HPS := Hid.mk (part_set l hol)
  have HPA := Hid.mk (part_all l hol)
  have HPL := Hid.mk (part_length l hol)
  have HLE := Hid.mk hle
  clear hw0 hw1 hww hrX hr1 hD hBY hd hX hXB hXb hol hle HNUM
  generalize l.getD 0 0 = k0 at *
  generalize l.getD 1 0 = k1 at *
  generalize l.getD 2 0 = k2 at *
  generalize l.getD 11 0 = k11 at *
  generalize l.getD 12 0 = k12 at *
  have HR2 := Hid.mk hr2
  clear hr2
  go_enter Try.func13, Try.ntmps13
  go_wp2_with (first
    | (have hA := HRX.out; refine wpL_alloc rfl rfl _ W1 hA ?_; clear hA HRX)
    | (go_at_call 31; have hN := N0.out; refine hN.mono ?_; clear hN N0; rintro e w3 ⟨rfl, hw⟩; subst w3)
    | (go_at_call 31; have hN := N1.out; refine hN.mono ?_; clear hN N1; rintro e w3 ⟨rfl, hw⟩; subst w3)
    | (go_at_call 31; have hN := N2.out; refine hN.mono ?_; clear hN N2; rintro e w3 ⟨rfl, hw⟩; subst w3)
    | (go_at_call 31; have hN := N3.out; refine hN.mono ?_; clear hN N3; rintro e w3 ⟨rfl, hw⟩; subst w3)
    | (go_at_call 31; have hN := N4.out; refine hN.mono ?_; clear hN N4; rintro e w3 ⟨rfl, hw⟩; subst w3)
    | (refine wpL_alloc rfl rfl _ X2 HR1.out ?_)
    | (refine wpL_store (.tmp 4) (.tmp 22) rfl rfl _ _ Y rfl rfl HR2.out ?_))
  go_loopw [5] (fun i wr => ∃ k : Nat, k ≤ 8 ∧ i = .int .i64 k ∧ NAt d (partL l k) wr ∧ NAt b (zeros 13) wr ∧ Below B w wr) (fun i _ => 8 - (intOf i).toNat)
  case atStart => exact ⟨0, by omega, rfl, HD0.out, HN0.out, HB0.out⟩
  case round =>
    obtain ⟨k, hk, rfl, hD, hN, hB⟩ := hrel
    have HD := Hid.mk hD
    have HN := Hid.mk hN
    have HB := Hid.mk hB
    clear hD hN hB HD0 HN0 HB0
    by_cases hlt : k < 8
    · have hc := HD.out.cell (3 + k) (by rw [HPL.out k hk]; omega)
      have hf := blk_free HD.out (3 + k)
      generalize (partL l k).getD (3 + k) 0 = old at hc
      have HC := Hid.mk (ND.out wr k hlt HB.out)
      have HS := Hid.mk (HPS.out k hlt)
      obtain ⟨q, hq⟩ : ∃ q, q = 8 + 4 * k := ⟨_, rfl⟩
      rw [← hq] at HC
      have hqi : (8 : Int) + 4 * (k : Int) = (q : Int) := by omega
      have hqb : q ≤ 64 := by omega
      clear hq
      generalize l.getD (3 + k) 0 = y at *
      go_wp2_with (go_at_call 31; refine HC.out.mono ?_; rintro e w3 ⟨rfl, hw⟩; subst w3)
      go_roundw
      case rel => exact ⟨k + 1, by omega, by go_num, by rw [← HS.out]; exact HD.out.set (3 + k) y, HN.out.only ((Only.refl (fun k => k = d) wr).setCell (p := ⟨d, 3 + k, none⟩) (.inl rfl) _) (by omega), HB.out.setCell (p := ⟨d, 3 + k, none⟩) (by have := HBb.out; show B ≤ d; omega) _⟩
      case measure => simp [intOf]; omega
    · have hge : (8 : Int) ≤ k := by omega
      obtain rfl : k = 8 := by omega
      rw [HPA.out] at HD
      have HBX := Hid.mk (HBA.out wr HB.out)
      have HFIN : Hid (∀ W5 Y : World, Below wr.heap.size wr W5 → Only (fun k => k = b) W5 Y → Below B w Y) := Hid.mk (fun W5 Y h1 h2 => (HB.out.trans (h1.mono (Nat.le_trans HBs.out HB.out.size))).trans (h2.below (Nat.le_trans (Nat.le_trans HBs.out HB.out.size) h1.size) (fun k e => by rw [e]; exact HBb.out)))
      obtain ⟨SX, hSX⟩ : ∃ SX, SX = strOfNums xs := ⟨_, rfl⟩
      obtain ⟨SY, hSY⟩ : ∃ SY, SY = strOfNums (inoL l) := ⟨_, rfl⟩
      have HSX := Hid.mk hSX
      have HSY := Hid.mk hSY
      have HSE : Hid ((SY.toList == SX.toList) = eqB (inoL l) xs) := Hid.mk (by rw [hSX, hSY]; exact str_eqB _ _ (inoL_bound l) HX.out)
      clear hSX hSY HBA ND HPS HPL HPA HR1 HR2
      cases hfi : fineL l with
      | false =>
        have HP := Hid.mk (rpack_no wr l HOL.out hfi)
        have hrb : rdB xs = false := by rw [HRD.out, hfi]; rfl
        have HR := Hid.mk (rd_no hrb)
        have HRB := Hid.mk hrb
        clear hfi HRD hrb
        go_wp2_with (first
          | (refine wpL_load (.tmp 4) rfl rfl d l rfl HD.out HOL.out ?_)
          | (go_at_call 10; refine HP.out.mono ?_; rintro e w5 ⟨rfl, hB5⟩; obtain ⟨Y5, hrY, hY, hYo⟩ := store24_run (m := zeros 13) (HN.out.below hB5 HN.out.lt) (zeros_length 13) (zeros_length 13); have HB5 := Hid.mk (HFIN.out _ _ hB5 hYo); have HY := Hid.mk hY; have HRY := Hid.mk hrY; clear hB5 hrY hY hYo)
          | (refine wpL_build rfl rfl ?_)
          | (refine wpL_store (.tmp 2) (.tmp 49) rfl rfl _ _ Y5 rfl rfl HRY.out ?_))
        exact bodyPost_ret (results_cell2 Try.results13 rfl HY.out (zeros_length 13)) rfl ⟨by rw [HR.out.1, HRB.out]; rfl, HB5.out⟩
      | true =>
        have HP := Hid.mk (rpack_yes wr l HOL.out hfi)
        cases heq : eqB xs (inoL l) with
        | false =>
          have hrb : rdB xs = false := by rw [HRD.out, hfi, heq]; rfl
          have HR := Hid.mk (rd_no hrb)
          have HRB := Hid.mk hrb
          have HS2 : Hid ((SY.toList == SX.toList) = false) := Hid.mk (by rw [HSE.out]; unfold eqB at heq ⊢; simp at heq ⊢; exact fun e => heq e.symm)
          clear hfi HRD hrb heq
          go_wp2_with (first
            | (refine wpL_load (.tmp 4) rfl rfl d l rfl HD.out HOL.out ?_)
            | (go_at_call 10; refine HP.out.mono ?_; rintro e w5 ⟨ao, vc, rfl, hba, hB5⟩; obtain ⟨Y5, hrY, hY, hYo⟩ := store24_run (m := zeros 13) (HN.out.below hB5 HN.out.lt) (zeros_length 13) (zeros_length 13); have HA5 := Hid.mk hba; have HX5 := Hid.mk (HBX.out.below hB5); have HB5 := Hid.mk (HFIN.out _ _ hB5 hYo); have HY := Hid.mk hY; have HRY := Hid.mk hrY; clear hB5 hrY hY hYo hba)
            | (refine wpL_conv (.tmp 43) rfl rfl ao 64 vc (inoL l) rfl HA5.out SY HSY.out ?_)
            | (refine wpL_conv (.tmp 45) rfl rfl (some a) 64 c xs rfl HX5.out SX HSX.out ?_)
            | (refine wpL_strneq (.tmp 44) (.tmp 46) 9 rfl rfl SY SX false HS2.out rfl rfl ?_)
            | (refine wpL_build rfl rfl ?_)
            | (refine wpL_store (.tmp 2) (.tmp 49) rfl rfl _ _ Y5 rfl rfl HRY.out ?_))
          exact bodyPost_ret (results_cell2 Try.results13 rfl HY.out (zeros_length 13)) rfl ⟨by rw [HR.out.1, HRB.out]; rfl, HB5.out⟩
        | true =>
          have hrb : rdB xs = true := by rw [HRD.out, hfi, heq]; rfl
          have HR := Hid.mk (rd_yes hrb)
          have HRB := Hid.mk hrb
          have HS2 : Hid ((SY.toList == SX.toList) = true) := Hid.mk (by rw [HSE.out]; unfold eqB at heq ⊢; simp at heq ⊢; exact heq.symm)
          clear hfi HRD hrb heq
          go_wp2_with (first
            | (have hA := HD.out; refine wpL_load (.tmp 4) rfl rfl d l rfl hA HOL.out ?_; clear hA)
            | (go_at_call 10; refine HP.out.mono ?_; rintro e w5 ⟨ao, vc, rfl, hba, hB5⟩; obtain ⟨Y5, hrY, hY, hYo⟩ := store24_run (m := l) (HN.out.below hB5 HN.out.lt) (zeros_length 13) HOL.out; have HA5 := Hid.mk hba; have HX5 := Hid.mk (HBX.out.below hB5); have HD5 := Hid.mk (HD.out.below hB5 HD.out.lt); clear HD; have HB5 := Hid.mk (HFIN.out _ _ hB5 hYo); have HY := Hid.mk hY; have HRY := Hid.mk hrY; clear hB5 hrY hY hYo hba)
            | (refine wpL_conv (.tmp 43) rfl rfl ao 64 vc (inoL l) rfl HA5.out SY HSY.out ?_)
            | (refine wpL_conv (.tmp 45) rfl rfl (some a) 64 c xs rfl HX5.out SX HSX.out ?_)
            | (refine wpL_strneq (.tmp 44) (.tmp 46) 9 rfl rfl SY SX true HS2.out rfl rfl ?_)
            | (refine wpL_load (.tmp 4) rfl rfl d l rfl HD5.out HOL.out ?_)
            | (refine wpL_store (.tmp 2) (.tmp 50) rfl rfl _ _ Y5 rfl rfl HRY.out ?_))
          exact bodyPost_ret (results_cell2 Try.results13 rfl HY.out HOL.out) rfl ⟨by rw [HR.out.1, HRB.out, HLE.out]; rfl, HB5.out⟩

theorem rread_any (w : World) (ao : Option Addr) (n c : Nat) (xs : List Int) (h : BAt w ao n xs) (hx : ∀ x ∈ xs, 0 ≤ x ∧ x ≤ 255) :
    Calls Try.prog 13 #[.slice ao n c] w fun e w' => e = .returned (.tuple #[inoV (rdL xs), .bool (rdB xs)]) ∧ Below w.heap.size w w' := by
  by_cases hn : n = 64
  · subst hn
    obtain ⟨a, rfl, -⟩ := h.at 0 (by omega)
    exact rread_full w a c xs h hx
  · have hb : rdB xs = false := by unfold rdB; rw [h.1, decide_eq_false hn]; rfl
    rw [(rd_no hb).1, hb]
    exact rread_short w ao n c hn
end Go.Proofs.Ytnajpnnmiocckaa
