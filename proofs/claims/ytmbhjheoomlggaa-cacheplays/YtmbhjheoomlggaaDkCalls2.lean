/-
  What Read and Of do, each for every disk and every image.
-/
import Derived.Test.YtmbhjheoomlggaaDkCalls1
namespace Go.Proofs.Ytmbhjheoomlggaa
open Go Go.Proofs Go.RowKit
namespace Dk
set_option maxRecDepth 100000 in
set_option maxHeartbeats 400000 in
theorem read_no (F : Nat → Prop) (w : World) (d : Nat) (s : DS) (h : DiskAt F w d s) (hn : s.img.length ≤ 20480000) (block : Int) (hno : hasB s block = false ∨ s.dead = true) :
    Calls Try.prog 27 #[.pointer (some ⟨d, 0, none⟩), .int .i64 block] w fun e w' => e = .returned (.tuple #[.slice none 0 0, .bool false]) ∧ w' = w := by
  have HB := has_any F w d s h hn block
  obtain ⟨h0, bi, lv, h1, h2⟩ := h
  have hc := blk_cell h1 2
  simp at hc
  clear h1 h2
  cases hb : hasB s block with
  | false =>
    rw [hb] at HB
    have HBH := Hid.mk HB
    clear HB hno hb
    go_enter Try.func27, Try.ntmps27
    go_wp2_with (go_at_call 33; refine HBH.out.mono ?_; rintro e w' ⟨rfl, rfl⟩)
    go_ret2
    exact ⟨rfl, rfl⟩
  | true =>
    rw [hb] at HB hno
    have hd : s.dead = true := by simpa using hno
    rw [hd] at hc
    have HBH := Hid.mk HB
    clear HB hno hb hd
    go_enter Try.func27, Try.ntmps27
    go_wp2_with (go_at_call 33; refine HBH.out.mono ?_; rintro e w' ⟨rfl, rfl⟩)
    go_ret2
    exact ⟨rfl, rfl⟩
theorem hasB_nat {s : DS} {block : Int} (h : hasB s block = true) : ∃ q : Nat, block = q ∧ 1024 * q + 1024 ≤ s.img.length := by
  simp [hasB] at h
  exact ⟨block.toNat, by omega, by omega⟩
theorem getD_window (l : List Int) (o n i : Nat) (h : i < n) : ((l.drop o).take n).getD i 0 = l.getD (o + i) 0 := by
  simp [List.getD, List.getElem?_drop, h]
set_option maxRecDepth 100000 in
set_option maxHeartbeats 400000 in
theorem read_yes (F : Nat → Prop) (w : World) (d : Nat) (s : DS) (h : DiskAt F w d s) (hn : s.img.length ≤ 20480000) (block : Nat) (hyes : hasB s block = true) (hd : s.dead = false) :
    Calls Try.prog 27 #[.pointer (some ⟨d, 0, none⟩), .int .i64 block] w fun e w' => ∃ v', e = .returned (.tuple #[v', .bool true]) ∧
      w'.ownsRow w.heap.size 5 1 v' 1024 (By ((s.img.drop (1024 * block)).take 1024)) ∧ v' ≠ .slice none 0 0 ∧ Below w.heap.size w w' := by
  have HB := has_any F w d s h hn block
  rw [hyes] at HB
  have hq : 1024 * block + 1024 ≤ s.img.length := by
    obtain ⟨q, e, h'⟩ := hasB_nat hyes
    omega
  obtain ⟨h0, bi, lv, h1, h2⟩ := h
  have hc := blk_cell h1 2
  have hc0 := blk_cell h1 0
  simp [hd] at hc hc0
  have HC : Hid (∀ c, Calls Try.prog 32 #[.slice (some ⟨bi, 1024 * block, none⟩) 1024 c] w fun e w' => ∃ v', e = .returned v' ∧
      w'.ownsRow w.heap.size 5 1 v' 1024 (By ((s.img.drop (1024 * block)).take 1024)) ∧ v' ≠ .slice none 0 0 ∧ Below w.heap.size w w') := fun c =>
    clone_any ⟨bi, 1024 * block, none⟩ 1024 c _ w (by simp; omega) (by omega) (fun i hi => by
      rw [getD_window _ _ _ _ hi]
      exact bytes_at h2.2.1 (1024 * block) i (by omega))
  clear h1 h2
  have HBH := Hid.mk HB
  clear HB hyes
  generalize s.img.length = L at *
  go_enter Try.func27, Try.ntmps27
  go_wp2_with fail
  refine HBH.out.mono ?_
  rintro e w' ⟨rfl, hw⟩
  subst w'
  go_wp2_with fail
  rw [show (block + 1) * 1024 - block * 1024 = 1024 from by omega, Nat.mul_comm block 1024]
  refine (HC.out _).mono ?_
  rintro e w' ⟨v', rfl, hown, hnn, hb⟩
  go_wp2
  go_ret2
  exact ⟨v', rfl, hown, hnn, hb⟩
def ofB (xs : List Int) : DS := ⟨xs.take (1024 * min (xs.length / 1024) 20000), [], false, false, 0⟩
theorem size5 : (Try.prog.info? 5).map (·.size) = some 1 := by kernel_rfl
end Dk
end Go.Proofs.Ytmbhjheoomlggaa
