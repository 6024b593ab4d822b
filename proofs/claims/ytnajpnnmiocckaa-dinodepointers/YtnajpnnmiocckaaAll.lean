/-
  All of the program: the numbers of which bytes are made.
-/
import Derived.Test.YtnajpnnmiocckaaInts
namespace Go.Proofs.Ytnajpnnmiocckaa
open Go Go.Proofs Go.RowKit Go.Shelf

theorem info3 : (Try.prog.info? 3).map (fun i => (i.zero, i.size, i.bytes)) = some (some (.int .i64 0), 1, 8) := by kernel_rfl
theorem info3p : ∃ i0, Try.prog.info? 3 = some i0 ∧ i0.zero = some (.int .i64 0) ∧ i0.size = 1 ∧ i0.bytes = 8 := by
  obtain ⟨i0, hi, hz0, hz1, hz2⟩ := info_parts info3
  exact ⟨i0, hi, hz0, hz1, hz2⟩
/-- make([]int, n). -/
theorem makei_run (w : World) (n : Nat) (hn : n ≤ 4096) : (Instr.makeSlice 39 (.int .i64 n) (.int .i64 n)).run Try.prog w = .ok (.slice (some ⟨w.heap.size, 0, none⟩) n n) (w.alloc (.cells (Iy (zeros n)).toArray 3)) := by
  obtain ⟨i0, hi, hz0, hz1, hz2⟩ := info3p
  rw [run_makeSlice (P := Try.prog) w 39 3 i0 (.int .i64 0) Try.underlying39 hi hz0 .i64 .i64 n n (by omega) (by omega) (by rw [hz1]; simp; omega) (by rw [hz2]; omega) (by omega)]
  have e : madeCells (Value.int .i64 0).cells ((n : Int).toNat * i0.size) = (Iy (zeros n)).toArray := by
    rw [hz1]
    apply Array.ext'
    rw [show (Iy (zeros n)).toArray.toList = List.replicate n (Value.int .i64 0) by simp [Iy, zeros], List.eq_replicate_iff]
    simp [madeCells, Value.cells, Nat.mod_one]
  rw [e]
  simp

/-- Block g is a row of these ints. -/
def QAt (W : World) (g : Nat) (xs : List Int) : Prop := W.heap[g]? = some (.cells (Iy xs).toArray 3 (0, 0))
theorem QAt.lt {W : World} {g : Nat} {xs : List Int} (h : QAt W g xs) : g < W.heap.size := lt_of_block h
theorem QAt.below {W W' : World} {g B : Nat} {xs : List Int} (h : QAt W g xs) (hb : Below B W W') (hg : g < B) : QAt W' g xs := by
  unfold QAt
  rw [hb.block g hg]
  exact h
theorem QAt.lat {W : World} {g n : Nat} {xs : List Int} (h : QAt W g xs) (hn : xs.length = n) : LAt W (some ⟨g, 0, none⟩) n xs := by
  refine ⟨hn, fun _ => ⟨_, rfl, h.lt, fun i hi => ?_⟩⟩
  rw [add_at, blk_cell h, Nat.zero_add]
  simpa using Iy_get xs i (by omega)

theorem add_off (a : Addr) (o : Nat) : (a.add o).off = a.off + o := by
  unfold Addr.add
  split
  · next h => subst h; rfl
  · rfl
theorem add_add (a : Addr) (o i : Nat) : (a.add o).add i = a.add (o + i) := by
  by_cases hi : i = 0
  · subst hi; unfold Addr.add; simp
  · have h1 : (a.add o).add i = ⟨(a.add o).block, (a.add o).off + i, none⟩ := by
      conv => lhs; unfold Addr.add
      rw [if_neg hi]
      rfl
    rw [h1, add_block, add_off]
    unfold Addr.add
    rw [if_neg (by omega), Nat.add_assoc]
theorem BAt.from {W : World} {a : Addr} {n : Nat} {xs : List Int} (h : BAt W (some a) n xs) (o : Nat) (hn : o ≤ n) : BAt W (some (a.add o)) (n - o) (xs.drop o) := by
  refine ⟨by simp [h.1], fun hp => ?_⟩
  obtain ⟨a', e, hlt, hc⟩ := h.2 (by omega)
  cases e
  refine ⟨_, rfl, by rw [add_block]; exact hlt, fun i hi => ?_⟩
  rw [add_add, hc (o + i) (by omega)]
  simp [List.getD]

/-- The numbers of so many bytes each. -/
def allL (K : Nat) (xs : List Int) : List Int := (List.range (xs.length / K)).map (fun i => numL ((xs.drop (K * i)).take K))
theorem allL_length (K : Nat) (xs : List Int) : (allL K xs).length = xs.length / K := by simp [allL]
theorem allL_get (K : Nat) (xs : List Int) (i : Nat) (h : i < xs.length / K) : (allL K xs).getD i 0 = numL ((xs.drop (K * i)).take K) := by
  simp [allL, List.getD, h]
theorem splice_all (N : Nat) (A : List Int) (h : A.length = N) : splice (zeros N) 0 A = A := by
  unfold splice
  rw [Nat.zero_add, List.drop_of_length_le (by rw [zeros_length]; omega)]
  simp

set_option maxHeartbeats 2000000 in
theorem all32_any (w : World) (a : Addr) (n c : Nat) (xs : List Int) (h : BAt w (some a) n xs) (hx : ∀ x ∈ xs, 0 ≤ x ∧ x ≤ 255) (hn : n ≤ 1024) (hc : n ≤ c) (hc2 : c ≤ 9223372036854775807) :
    Calls Try.prog 29 #[.slice (some a) n c] w fun e w' => e = .returned (.slice (some ⟨w.heap.size, 0, none⟩) (n / 4) (n / 4)) ∧ QAt w' w.heap.size (allL 4 xs) ∧ Below w.heap.size w w' := by
  have HX := Hid.mk hx
  have HBA : Hid (∀ W, Below w.heap.size w W → BAt W (some a) n xs) := Hid.mk (fun W hB => h.only (Only.of_new (fun _ => False) hB) (fun _ _ _ h => h))
  have hAl := allL_length 4 xs
  have hAg := allL_get 4 xs
  rw [h.1] at hAl hAg
  have e4 : (n : Int) / 4 = ((n / 4 : Nat) : Int) := by omega
  have hN4 : 4 * (n / 4) ≤ n := by omega
  clear h hx
  generalize n / 4 = N at *
  have HAL := Hid.mk hAl
  have HAG := Hid.mk hAg
  have HMK := Hid.mk (makei_run w N (by omega))
  have H0 : Hid (QAt (w.alloc (.cells (Iy (zeros N)).toArray 3)) w.heap.size (zeros N)) := Hid.mk (blk_new w _)
  have HB0 : Hid (Below w.heap.size w (w.alloc (.cells (Iy (zeros N)).toArray 3))) := Hid.mk ((Below.refl _ w).alloc (Nat.le_refl _) _)
  clear hAl hAg
  go_enter Try.func29, Try.ntmps29
  go_wp2_with (first
    | (go_at_call 33; refine (width32_any _).mono ?_; rintro e w' ⟨rfl, hw⟩; subst w')
    | (at_make; refine wpList_make_known rfl _ _ 39 rfl (.int .i64 N) (.int .i64 N) _ _ (by simp [Act.eval]) (by simp [Act.eval]) HMK.out ?_))
  clear e4
  generalize hGe : w.heap.size = G at *
  have HGE := Hid.mk hGe
  clear hGe
  go_loopw [14] (fun i wr => ∃ k : Nat, k ≤ N ∧ i = .int .i64 k ∧ QAt wr G (splice (zeros N) 0 ((allL 4 xs).take k)) ∧ Below G w wr) (fun i _ => N - (intOf i).toNat)
  case atStart => exact ⟨0, by omega, rfl, by simpa [splice] using H0.out, HB0.out⟩
  case round =>
    obtain ⟨k, hk, rfl, hq, hB⟩ := hrel
    by_cases hlt : k < N
    · have HT := Hid.mk (take_snoc (allL 4 xs) k (by rw [HAL.out]; exact hlt))
      rw [HAG.out k hlt] at HT
      have htl : ((allL 4 xs).take k).length = k := by rw [List.length_take, HAL.out]; omega
      have hlen : (splice (zeros N) 0 ((allL 4 xs).take k)).length = N := by rw [splice_length _ _ _ (by rw [htl, zeros_length]; omega), zeros_length]
      have hc1 : wr.cell? ⟨G, k, none⟩ = some (.int .i64 ((splice (zeros N) 0 ((allL 4 xs).take k)).getD k 0)) := by
        rw [blk_cell hq]; simpa using Iy_get _ k (by rw [hlen]; omega)
      have hc2 : wr.frozen? ⟨G, k, none⟩ = false := blk_free hq _
      generalize (splice (zeros N) 0 ((allL 4 xs).take k)).getD k 0 = old at hc1
      have HG := Hid.mk (fun q (e : q = 4 * k) => get32_any wr (a.add q) (n - q) (c - q) (xs.drop q) ((HBA.out wr hB).from q (by omega)) (drop_bound xs HX.out q) (by omega) (by omega))
      have HS := Hid.mk (fun y => splice_snoc (zeros N) 0 ((allL 4 xs).take k) y (by rw [htl, zeros_length]; omega))
      have HTL := Hid.mk htl
      have HQ := Hid.mk hq
      have HB := Hid.mk hB
      have hk4 : (k : Int) * 4 = ((4 * k : Nat) : Int) := by omega
      have hq4 : 4 * k ≤ n := by omega
      clear hq hB hlen htl
      obtain ⟨q, hqe⟩ : ∃ q, q = 4 * k := ⟨_, rfl⟩
      rw [← hqe] at hk4 hq4 HT
      have HG2 := Hid.mk (HG.out q hqe)
      have hq4i : (q : Int) ≤ n := by omega
      have hqc : q ≤ c := by omega
      clear hqe HG
      go_wp2_with (go_at_call 35; refine (HG2.out).mono ?_; rintro e w' ⟨rfl, hw⟩; subst w')
      go_roundw
      case rel =>
        refine ⟨k + 1, by omega, by go_num, ?_, HB.out.setCell (p := ⟨G, k, none⟩) (Nat.le_refl _) _⟩
        unfold QAt
        rw [blk_set HQ.out, Iy_setArr, HT.out, ← HS.out, HTL.out, Nat.zero_add]
      case measure => simp [intOf]; omega
    · have hge : (N : Int) ≤ k := by omega
      obtain rfl : k = N := by omega
      have HQ := Hid.mk hq
      have HB := Hid.mk hB
      clear hq hB
      go_wp2
      go_ret
      rw [HGE.out]
      refine ⟨rfl, ?_, HB.out⟩
      have h := HQ.out
      rwa [List.take_of_length_le (by rw [HAL.out]; omega), splice_all _ _ HAL.out] at h
set_option maxHeartbeats 2000000 in
theorem all16_any (w : World) (a : Addr) (n c : Nat) (xs : List Int) (h : BAt w (some a) n xs) (hx : ∀ x ∈ xs, 0 ≤ x ∧ x ≤ 255) (hn : n ≤ 1024) (hc : n ≤ c) (hc2 : c ≤ 9223372036854775807) :
    Calls Try.prog 28 #[.slice (some a) n c] w fun e w' => e = .returned (.slice (some ⟨w.heap.size, 0, none⟩) (n / 2) (n / 2)) ∧ QAt w' w.heap.size (allL 2 xs) ∧ Below w.heap.size w w' := by
  have HX := Hid.mk hx
  have HBA : Hid (∀ W, Below w.heap.size w W → BAt W (some a) n xs) := Hid.mk (fun W hB => h.only (Only.of_new (fun _ => False) hB) (fun _ _ _ h => h))
  have hAl := allL_length 2 xs
  have hAg := allL_get 2 xs
  rw [h.1] at hAl hAg
  have e2 : (n : Int) / 2 = ((n / 2 : Nat) : Int) := by omega
  have hN4 : 2 * (n / 2) ≤ n := by omega
  clear h hx
  generalize n / 2 = N at *
  have HAL := Hid.mk hAl
  have HAG := Hid.mk hAg
  have HMK := Hid.mk (makei_run w N (by omega))
  have H0 : Hid (QAt (w.alloc (.cells (Iy (zeros N)).toArray 3)) w.heap.size (zeros N)) := Hid.mk (blk_new w _)
  have HB0 : Hid (Below w.heap.size w (w.alloc (.cells (Iy (zeros N)).toArray 3))) := Hid.mk ((Below.refl _ w).alloc (Nat.le_refl _) _)
  clear hAl hAg
  go_enter Try.func28, Try.ntmps28
  go_wp2_with (first
    | (go_at_call 32; refine (width16_any _).mono ?_; rintro e w' ⟨rfl, hw⟩; subst w')
    | (at_make; refine wpList_make_known rfl _ _ 39 rfl (.int .i64 N) (.int .i64 N) _ _ (by simp [Act.eval]) (by simp [Act.eval]) HMK.out ?_))
  clear e2
  generalize hGe : w.heap.size = G at *
  have HGE := Hid.mk hGe
  clear hGe
  go_loopw [14] (fun i wr => ∃ k : Nat, k ≤ N ∧ i = .int .i64 k ∧ QAt wr G (splice (zeros N) 0 ((allL 2 xs).take k)) ∧ Below G w wr) (fun i _ => N - (intOf i).toNat)
  case atStart => exact ⟨0, by omega, rfl, by simpa [splice] using H0.out, HB0.out⟩
  case round =>
    obtain ⟨k, hk, rfl, hq, hB⟩ := hrel
    by_cases hlt : k < N
    · have HT := Hid.mk (take_snoc (allL 2 xs) k (by rw [HAL.out]; exact hlt))
      rw [HAG.out k hlt] at HT
      have htl : ((allL 2 xs).take k).length = k := by rw [List.length_take, HAL.out]; omega
      have hlen : (splice (zeros N) 0 ((allL 2 xs).take k)).length = N := by rw [splice_length _ _ _ (by rw [htl, zeros_length]; omega), zeros_length]
      have hc1 : wr.cell? ⟨G, k, none⟩ = some (.int .i64 ((splice (zeros N) 0 ((allL 2 xs).take k)).getD k 0)) := by
        rw [blk_cell hq]; simpa using Iy_get _ k (by rw [hlen]; omega)
      have hc2 : wr.frozen? ⟨G, k, none⟩ = false := blk_free hq _
      generalize (splice (zeros N) 0 ((allL 2 xs).take k)).getD k 0 = old at hc1
      have HG := Hid.mk (fun q (e : q = 2 * k) => get16_any wr (a.add q) (n - q) (c - q) (xs.drop q) ((HBA.out wr hB).from q (by omega)) (drop_bound xs HX.out q) (by omega) (by omega))
      have HS := Hid.mk (fun y => splice_snoc (zeros N) 0 ((allL 2 xs).take k) y (by rw [htl, zeros_length]; omega))
      have HTL := Hid.mk htl
      have HQ := Hid.mk hq
      have HB := Hid.mk hB
      have hk4 : (k : Int) * 2 = ((2 * k : Nat) : Int) := by omega
      have hq4 : 2 * k ≤ n := by omega
      clear hq hB hlen htl
      obtain ⟨q, hqe⟩ : ∃ q, q = 2 * k := ⟨_, rfl⟩
      rw [← hqe] at hk4 hq4 HT
      have HG2 := Hid.mk (HG.out q hqe)
      have hq4i : (q : Int) ≤ n := by omega
      have hqc : q ≤ c := by omega
      clear hqe HG
      go_wp2_with (go_at_call 34; refine (HG2.out).mono ?_; rintro e w' ⟨rfl, hw⟩; subst w')
      go_roundw
      case rel =>
        refine ⟨k + 1, by omega, by go_num, ?_, HB.out.setCell (p := ⟨G, k, none⟩) (Nat.le_refl _) _⟩
        unfold QAt
        rw [blk_set HQ.out, Iy_setArr, HT.out, ← HS.out, HTL.out, Nat.zero_add]
      case measure => simp [intOf]; omega
    · have hge : (N : Int) ≤ k := by omega
      obtain rfl : k = N := by omega
      have HQ := Hid.mk hq
      have HB := Hid.mk hB
      clear hq hB
      go_wp2
      go_ret
      rw [HGE.out]
      refine ⟨rfl, ?_, HB.out⟩
      have h := HQ.out
      rwa [List.take_of_length_le (by rw [HAL.out]; omega), splice_all _ _ HAL.out] at h
end Go.Proofs.Ytnajpnnmiocckaa
