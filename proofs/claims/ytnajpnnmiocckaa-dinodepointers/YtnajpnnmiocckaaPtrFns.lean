/-
  Pointers and PackPointers, of the program and of the reference.
-/
import Derived.Test.YtnajpnnmiocckaaPacksWalk
namespace Go.Proofs.Ytnajpnnmiocckaa
open Go Go.Proofs Go.RowKit Go.Shelf

theorem ptr_yes (w : World) (a : Addr) (c : Nat) (xs : List Int) (h : BAt w (some a) 1024 xs) (hx : ∀ x ∈ xs, 0 ≤ x ∧ x ≤ 255) (hc : 1024 ≤ c) (hc2 : c ≤ 9223372036854775807) :
    Calls Try.prog 14 #[.slice (some a) 1024 c] w fun e w' => e = .returned (.slice (some ⟨w.heap.size, 0, none⟩) 256 256) ∧ QAt w' w.heap.size (allL 4 xs) ∧ Below w.heap.size w w' := by
  have HC : Hid (Calls Try.prog 29 #[.slice (some a) 1024 c] w fun e w' => e = .returned (.slice (some ⟨w.heap.size, 0, none⟩) 256 256) ∧ QAt w' w.heap.size (allL 4 xs) ∧ Below w.heap.size w w') := Hid.mk (all32_any w a 1024 c xs h hx (by omega) hc hc2)
  clear h hx
  go_enter Try.func14, Try.ntmps14
  go_wp2_with (go_at_call 29; refine HC.out.mono ?_; rintro e w1 ⟨rfl, hq, hB⟩; have HQ := Hid.mk hq; have HB := Hid.mk hB; clear hq hB)
  go_ret
  exact ⟨rfl, HQ.out, HB.out⟩
theorem ptr_no (w : World) (ao : Option Addr) (n c : Nat) (hn : n ≠ 1024) :
    Calls Try.prog 14 #[.slice ao n c] w fun e w' => e = .returned (.slice none 0 0) ∧ w' = w := by
  have h1 : ((n : Int) == 1024) = false := by simp; omega
  have h2 : ¬ ((n : Int) = 1024) := by omega
  go_enter Try.func14, Try.ntmps14
  go_wp2
  go_ret
  exact ⟨rfl, rfl⟩
theorem rptr_no (w : World) (ao : Option Addr) (n c : Nat) (hn : n ≠ 1024) :
    Calls Try.prog 15 #[.slice ao n c] w fun e w' => e = .returned (.slice none 0 0) ∧ w' = w := by
  have h1 : ((n : Int) == 1024) = false := by simp; omega
  have h2 : ¬ ((n : Int) = 1024) := by omega
  go_enter Try.func15, Try.ntmps15
  go_wp2
  go_ret
  exact ⟨rfl, rfl⟩
set_option maxRecDepth 100000 in
set_option maxHeartbeats 2000000 in
theorem rptr_yes (w : World) (a : Addr) (c : Nat) (xs : List Int) (h : BAt w (some a) 1024 xs) (hx : ∀ x ∈ xs, 0 ≤ x ∧ x ≤ 255) :
    Calls Try.prog 15 #[.slice (some a) 1024 c] w fun e w' => ∃ v', e = .returned v' ∧ w'.ownsRow w.heap.size 3 1 v' 256 (Iy (allL 4 xs)) ∧ Below w.heap.size w w' := by
  obtain ⟨B, hBe⟩ : ∃ B, B = w.heap.size := ⟨_, rfl⟩
  have HBA : Hid (∀ W, Below B w W → BAt W (some a) 1024 xs) := Hid.mk (fun W hB => h.below (by rw [hBe] at hB; exact hB))
  have HX := Hid.mk hx
  have HAL : Hid ((allL 4 xs).length = 256) := Hid.mk (by rw [allL_length, h.1])
  have HAG : Hid (∀ i, i < 256 → (allL 4 xs).getD i 0 = numL ((xs.drop (4 * i)).take 4)) := Hid.mk (fun i hi => allL_get 4 xs i (by rw [h.1]; omega))
  have HBs : Hid (B ≤ w.heap.size) := Hid.mk (by omega)
  rw [← hBe]
  clear h hx hBe
  go_enter Try.func15, Try.ntmps15
  go_wp2
  go_loopw [3, 4] (fun v i wr => ∃ k : Nat, k ≤ 256 ∧ i = .int .i64 k ∧ wr.ownsRow B 3 1 v k (Iy ((allL 4 xs).take k)) ∧ Below B w wr) (fun _ i _ => 256 - (intOf i).toNat)
  case atStart => exact ⟨0, by omega, rfl, World.ownsRow_nil w B 3 1, Below.refl _ _⟩
  case round =>
    obtain ⟨k, hk, rfl, ho, hB⟩ := hrel
    by_cases hlt : k < 256
    · have HT := Hid.mk (take_snoc (allL 4 xs) k (by rw [HAL.out]; exact hlt))
      have HC := Hid.mk (rnum_any wr a 1024 c (4 * k) 4 (by omega) (by omega) xs (HBA.out wr hB) HX.out (by omega) (by omega))
      rw [← HAG.out k hlt] at HC
      generalize (allL 4 xs).getD k 0 = x at *
      obtain ⟨v2, W2, hr, ho2, hB2⟩ := appendi_run (wr.alloc (.cells (Iy [x]).toArray 3)) B _ k _ (ho.alloc _) (by simp; have := HBs.out; have := hB.size; omega) ⟨wr.heap.size, 0, none⟩ 1 1 _ (lat_newi wr [x]) (by omega)
      have HR := Hid.mk hr
      have HO := Hid.mk ho2
      have HB := Hid.mk ((hB.alloc (Nat.le_trans HBs.out hB.size) _).trans hB2)
      obtain ⟨q, hq⟩ : ∃ q, q = 4 * k := ⟨_, rfl⟩
      rw [← hq] at HC
      have hqi : (4 : Int) * (k : Int) = (q : Int) := by omega
      have hqb : q ≤ 1024 := by omega
      clear hq ho hB hr ho2 hB2
      go_wp2_with (first
        | (go_at_call 31; refine HC.out.mono ?_; rintro e w3 ⟨rfl, hw⟩; subst w3)
        | (at_builtin; refine wpList_append_known rfl (.tmp 12) (.tmp 17) 39 rfl _ (.slice (some ⟨wr.heap.size, 0, none⟩) 1 1) _ _ rfl rfl HR.out ?_))
      go_roundw
      case rel => exact ⟨k + 1, by omega, by go_num, by rw [HT.out]; exact HO.out, HB.out⟩
      case measure => simp [intOf]; omega
    · have hge : (256 : Int) ≤ k := by omega
      obtain rfl : k = 256 := by omega
      have HO := Hid.mk ho
      have HB := Hid.mk hB
      clear ho hB
      go_wp2
      go_ret
      refine ⟨_, rfl, ?_, HB.out⟩
      have h := HO.out
      rwa [List.take_of_length_le (by rw [HAL.out]; omega)] at h

/-- Have pointers a block? -/
def ppB (l : List Int) : Bool := decide (l.length ≤ 256) && fitL 4294967295 l
/-- Their block. -/
def ppL (l : List Int) : List Int := leLs 4 l ++ zeros (1024 - 4 * l.length)
theorem ppL_length (l : List Int) (h : l.length ≤ 256) : (ppL l).length = 1024 := by
  simp [ppL, leLs_length, zeros_length]
  omega
theorem ppL_bound (l : List Int) : ∀ x ∈ ppL l, 0 ≤ x ∧ x ≤ 255 := by
  intro x hx
  simp only [ppL, List.mem_append] at hx
  rcases hx with hx | hx
  · exact leLs_bound _ _ x hx
  · exact zeros_bound _ x hx
theorem pp_put (l : List Int) (h : l.length ≤ 256) : splice (zeros 1024) 0 (leLs 4 l) = ppL l := by
  have h1 := splice_zero 1024 [] (leLs 4 l) 0 rfl (by simp [leLs_length]; omega)
  simp only [List.nil_append, Nat.sub_zero, Nat.zero_add] at h1
  rw [h1, leLs_length]
  rfl

set_option maxHeartbeats 400000 in
theorem put32_none (w : World) (d : Value) (g o m c : Nat) (ao : Option Addr) (lc : Nat) (hd : d = .slice (some ⟨g, o, none⟩) m c) :
    Calls Try.prog 23 #[d, .slice ao 0 lc] w fun e w' => e = .returned (.int .i64 0) ∧ w' = w := by
  subst hd
  go_enter Try.func23, Try.ntmps23
  go_wp2
  go_loop [5, 11] (fun p i => p = .int .i64 0 ∧ i = .int .i64 0) (fun _ _ => 0)
  case atStart => exact ⟨rfl, rfl⟩
  case round =>
    obtain ⟨rfl, rfl⟩ := hrel
    go_wp2
    go_ret
    exact ⟨rfl, rfl⟩

theorem ppk_put (w : World) (ao : Option Addr) (n c : Nat) (l : List Int) (h : LAt w ao n l) (hn : n ≤ 256) (hf : fitL 4294967295 l = true) : ∃ W1, (Instr.makeSlice 26 (.int .i64 1024) (.int .i64 1024)).run Try.prog w = .ok (.slice (some ⟨w.heap.size, 0, none⟩) 1024 1024) W1 ∧
    Calls Try.prog 23 #[.slice (some ⟨w.heap.size, 0, none⟩) 1024 1024, .slice ao n c] W1 fun e w' => e = .returned (.int .i64 ((4 * n : Nat) : Int)) ∧ RAt w' w.heap.size (ppL l) ∧ Below w.heap.size w w' := by
  have hr : RAt (w.alloc (.cells (By (zeros 1024)).toArray 5)) w.heap.size (zeros 1024) := blk_new w _
  have hb : Below w.heap.size w (w.alloc (.cells (By (zeros 1024)).toArray 5)) := (Below.refl _ w).alloc (Nat.le_refl _) _
  refine ⟨_, make_run w 1024 (by omega), ?_⟩
  rcases Nat.eq_zero_or_pos n with rfl | hp
  · obtain rfl : l = [] := List.eq_nil_of_length_eq_zero h.1
    refine (put32_none _ _ w.heap.size 0 1024 1024 ao c rfl).mono ?_
    rintro e w' ⟨rfl, hw⟩
    subst hw
    exact ⟨rfl, hr, hb⟩
  · obtain ⟨a, rfl, hlt, -⟩ := h.2 hp
    refine (put32_any _ w.heap.size 0 1024 1024 (zeros 1024) (some a) n c l hr (h.only (Only.of_new (fun _ => False) hb) (fun _ _ _ h => h)) (fun a' e => by cases e; omega) (fitL_iff.1 hf) (by omega) (by rw [zeros_length]; omega) (by omega)).mono ?_
    rintro e w' ⟨rfl, h1, h2⟩
    rw [pp_put l (by rw [h.1]; exact hn)] at h1
    exact ⟨rfl, h1, hb.trans (h2.below hb.size (fun k e => by rw [e]; omega))⟩

set_option maxHeartbeats 1000000 in
theorem ppk_yes (w : World) (ao : Option Addr) (n c : Nat) (l : List Int) (h : LAt w ao n l) (hp : ppB l = true) :
    Calls Try.prog 16 #[.slice ao n c] w fun e w' => e = .returned (.tuple #[.slice (some ⟨w.heap.size, 0, none⟩) 1024 1024, .int .i64 0]) ∧ RAt w' w.heap.size (ppL l) ∧ Below w.heap.size w w' := by
  unfold ppB at hp
  simp only [Bool.and_eq_true, decide_eq_true_eq] at hp
  have hn : n ≤ 256 := by have := h.1; omega
  obtain ⟨W1, hMK, hC⟩ := ppk_put w ao n c l h hn hp.2
  have HF := Hid.mk (fits32_any w ao n c l h (by omega))
  rw [hp.2] at HF
  have HMK := Hid.mk hMK
  have HC := Hid.mk hC
  have d1 : decide ((256 : Int) < (n : Int)) = false := decide_eq_false (by omega)
  clear hMK hC hp h
  go_enter Try.func16, Try.ntmps16
  go_wp2_with (first
    | (go_at_call 21; refine HF.out.mono ?_; rintro e w3 ⟨rfl, hw⟩; subst w3)
    | (at_make; refine wpList_make_known rfl _ _ 26 rfl _ _ _ _ rfl rfl HMK.out ?_)
    | (go_at_call 23; refine HC.out.mono ?_; rintro e W3 ⟨rfl, hr3, hp3⟩; have HR3 := Hid.mk hr3; have HP3 := Hid.mk hp3; clear hr3 hp3))
  go_ret2
  exact ⟨rfl, HR3.out, HP3.out⟩
theorem ppk_no (w : World) (ao : Option Addr) (n c : Nat) (l : List Int) (h : LAt w ao n l) (hp : ppB l = false) (hn9 : n ≤ 9223372036854775807) :
    Calls Try.prog 16 #[.slice ao n c] w fun e w' => e = .returned (.tuple #[.slice none 0 0, .int .i64 1]) ∧ w' = w := by
  by_cases hn : n ≤ 256
  · have hf : fitL 4294967295 l = false := by
      unfold ppB at hp
      rw [h.1, decide_eq_true hn] at hp
      exact hp
    have HF := Hid.mk (fits32_any w ao n c l h (by omega))
    rw [hf] at HF
    have d1 : decide ((256 : Int) < (n : Int)) = false := decide_eq_false (by omega)
    clear h hp hf
    go_enter Try.func16, Try.ntmps16
    go_wp2_with (go_at_call 21; refine HF.out.mono ?_; rintro e w3 ⟨rfl, hw⟩; subst w3)
    go_ret2
    exact ⟨rfl, rfl⟩
  · have d1 : (256 : Int) < (n : Int) := by omega
    clear h hp
    go_enter Try.func16, Try.ntmps16
    go_wp2
    go_ret2
    exact ⟨rfl, rfl⟩

theorem rppk_long (w : World) (ao : Option Addr) (n c : Nat) (hn : 256 < n) (hn9 : n ≤ 9223372036854775807) :
    Calls Try.prog 17 #[.slice ao n c] w fun e w' => e = .returned (.tuple #[.slice none 0 0, .bool false]) ∧ w' = w := by
  have d1 : (256 : Int) < (n : Int) := by omega
  go_enter Try.func17, Try.ntmps17
  go_wp2
  go_ret2
  exact ⟨rfl, rfl⟩
set_option maxHeartbeats 2000000 in
theorem rppk_short (w : World) (ao : Option Addr) (n c : Nat) (l : List Int) (h : LAt w ao n l) (hn : n ≤ 256) :
    Calls Try.prog 17 #[.slice ao n c] w fun e w' => Below w.heap.size w w' ∧ ((fitL 4294967295 l = false ∧ e = .returned (.tuple #[.slice none 0 0, .bool false])) ∨
      (fitL 4294967295 l = true ∧ ∃ v', e = .returned (.tuple #[v', .bool true]) ∧ w'.ownsRow w.heap.size 5 1 v' 1024 (By (ppL l)))) := by
  obtain ⟨B, hBe⟩ : ∃ B, B = w.heap.size := ⟨_, rfl⟩
  have HLA : Hid (∀ W, Below B w W → LAt W ao n l) := Hid.mk (fun W hB => h.only (Only.of_new (fun _ => False) (by rw [hBe] at hB; exact hB)) (fun _ _ _ h => h))
  have HLN := Hid.mk h.1
  have HBs : Hid (B ≤ w.heap.size) := Hid.mk (by omega)
  have d1 : ¬ ((256 : Int) < (n : Int)) := by omega
  rw [← hBe]
  clear h hBe
  go_enter Try.func17, Try.ntmps17
  go_wp2
  go_loopw [4, 5] (fun v i wr => ∃ k : Nat, k ≤ n ∧ i = .int .i64 k ∧ wr.ownsRow B 5 1 v (4 * k) (By (leLs 4 (l.take k))) ∧ Below B w wr ∧ ∀ j, j < k → fitB 4294967295 (l.getD j 0) = true) (fun _ i _ => n - (intOf i).toNat)
  case atStart => exact ⟨0, by omega, rfl, World.ownsRow_nil w B 5 1, Below.refl _ _, fun j hj => by omega⟩
  case round =>
    obtain ⟨k, hk, rfl, ho, hB, hall⟩ := hrel
    have HO := Hid.mk ho
    have HB := Hid.mk hB
    have HA := Hid.mk hall
    clear ho hB hall
    by_cases hlt : k < n
    · obtain ⟨a, e, hc⟩ := (HLA.out wr HB.out).at k hlt
      subst e
      cases hf : fitB 4294967295 (l.getD k 0) with
      | false =>
        have HD := Hid.mk (fitL_no (by rw [HLN.out]; exact hlt) hf)
        have HF := Hid.mk hf
        clear hf
        generalize l.getD k 0 = x at *
        go_wp2_with (go_at_call 24; refine (rfits4_any _ x).mono ?_; rintro e w3 ⟨rfl, hw⟩; subst w3; rw [HF.out])
        go_ret2
        exact ⟨HB.out, .inl ⟨HD.out, rfl⟩⟩
      | true =>
        have hxb := fitB_iff.1 hf
        have HA2 : Hid (∀ j, j < k + 1 → fitB 4294967295 (l.getD j 0) = true) := Hid.mk (fun j hj => by
          rcases Nat.lt_or_ge j k with h | h
          · exact HA.out j h
          · obtain rfl : j = k := by omega
            exact hf)
        have HF := Hid.mk hf
        have HT := Hid.mk (take_snoc l k (by rw [HLN.out]; exact hlt))
        clear hf
        generalize l.getD k 0 = x at *
        have HPT := Hid.mk (rput_any wr B _ (4 * k) 4 _ x (.inl HO.out) (Nat.le_trans HBs.out HB.out.size) (by omega) (by omega) (by omega) (by omega) (by omega))
        go_wp2_with (first
          | (go_at_call 24; refine (rfits4_any _ x).mono ?_; rintro e w3 ⟨rfl, hw⟩; subst w3; rw [HF.out])
          | (go_at_call 25; refine HPT.out.mono ?_; rintro e w4 ⟨v4, rfl, ho4, hb4⟩; have HO4 := Hid.mk ho4; have HB4 := Hid.mk (HB.out.trans hb4); clear ho4 hb4))
        go_roundw
        case rel => exact ⟨k + 1, by omega, by go_num, by rw [HT.out, leLs_snoc]; exact HO4.out, HB4.out, HA2.out⟩
        case measure => simp [intOf]; omega
    · have hge : (n : Int) ≤ k := by omega
      obtain rfl : k = n := by omega
      have HD := Hid.mk (show fitL 4294967295 l = true from fitL_all (by rw [HLN.out]; exact HA.out))
      have HFI := Hid.mk (fill_any wr B _ (4 * k) 1024 _ HO.out (Nat.le_trans HBs.out HB.out.size) (by omega) (by omega))
      have HE : Hid (leLs 4 (l.take k) ++ zeros (1024 - 4 * k) = ppL l) := Hid.mk (by rw [List.take_of_length_le (by rw [HLN.out]; omega)]; unfold ppL; rw [HLN.out])
      rw [HE.out] at HFI
      go_wp2_with (go_at_call 26; refine HFI.out.mono ?_; rintro e w4 ⟨v4, rfl, ho4, hb4⟩; have HO4 := Hid.mk ho4; have HB4 := Hid.mk (HB.out.trans hb4); clear ho4 hb4)
      go_ret2
      exact ⟨HB4.out, .inr ⟨HD.out, _, rfl, HO4.out⟩⟩
theorem rppk_no (w : World) (ao : Option Addr) (n c : Nat) (l : List Int) (h : LAt w ao n l) (hp : ppB l = false) (hn9 : n ≤ 9223372036854775807) :
    Calls Try.prog 17 #[.slice ao n c] w fun e w' => e = .returned (.tuple #[.slice none 0 0, .bool false]) ∧ Below w.heap.size w w' := by
  by_cases hn : n ≤ 256
  · have hf : fitL 4294967295 l = false := by
      unfold ppB at hp
      rw [h.1, decide_eq_true hn] at hp
      exact hp
    refine (rppk_short w ao n c l h hn).mono ?_
    rintro e w' ⟨hB, ⟨-, rfl⟩ | ⟨h2, -⟩⟩
    · exact ⟨rfl, hB⟩
    · rw [hf] at h2; cases h2
  · refine (rppk_long w ao n c (by omega) hn9).mono ?_
    rintro e w' ⟨rfl, hw⟩
    subst hw
    exact ⟨rfl, Below.refl _ _⟩
theorem rppk_yes (w : World) (ao : Option Addr) (n c : Nat) (l : List Int) (h : LAt w ao n l) (hp : ppB l = true) :
    Calls Try.prog 17 #[.slice ao n c] w fun e w' => ∃ bo bc, e = .returned (.tuple #[.slice bo 1024 bc, .bool true]) ∧ BAt w' bo 1024 (ppL l) ∧ Below w.heap.size w w' := by
  unfold ppB at hp
  simp only [Bool.and_eq_true, decide_eq_true_eq] at hp
  refine (rppk_short w ao n c l h (by have := h.1; omega)).mono ?_
  rintro e w' ⟨hB, ⟨h2, -⟩ | ⟨-, v, rfl, ho⟩⟩
  · rw [hp.2] at h2; cases h2
  · obtain ⟨bo, bc, rfl, hb, -⟩ := owns_BAt ho
    exact ⟨bo, bc, rfl, hb, hB⟩
end Go.Proofs.Ytnajpnnmiocckaa
