/-
  CacheNone: of no disk nothing is there.
-/
import Derived.Test.YtmbhjheoomlggaaCaAlive
namespace Go.Proofs.Ytmbhjheoomlggaa
open Go Go.Proofs Go.RowKit Go.Shelf
/-- A cache without a disk, made since w. -/
def Cn (w W : World) (c m : Nat) (size : Int) : Prop := CaAt (fun k => w.heap.size ≤ k) W c m niV size 0 [] ∧ Below w.heap.size w W
theorem Cn.below {w W W' : World} {c m : Nat} {size : Int} (h : Cn w W c m size) (hB : Below W.heap.size W W') : Cn w W' c m size := ⟨h.1.below hB, h.2.trans (hB.mono h.2.size)⟩
set_option maxRecDepth 100000 in
set_option maxHeartbeats 4000000 in
theorem none_any (w : World) (n : Int) (hw : (Lit.int .i64 n).wf = true) : Calls Try.prog 4 #[.int .i64 n] w fun e w' => e = .returned (.bool true) ∧ Below w.heap.size w w' := by
  have HAL := Hid.mk (alive_any w)
  have HNEW : Hid (∀ W, Below w.heap.size w W → Calls Try.prog 10 #[.pointer none, .int .i64 n] W fun e w' => ∃ c m, e = .returned (ptV c) ∧ Cn w w' c m (szN n)) := Hid.mk (fun W hB => (cnew_any W none n).mono (by
    rintro e w' ⟨c, m, rfl, _, hC, hB'⟩
    exact ⟨c, m, rfl, hC.mono (fun k hk _ => Nat.le_trans hB.size hk), hB.trans (hB'.mono hB.size)⟩))
  have HGET : Hid (∀ W c m sz, Cn w W c m sz → Calls Try.prog 12 #[ptV c, .int .i64 n] W fun e w' => e = .returned (.tuple #[.slice none 0 0, .bool false]) ∧ w' = W) := Hid.mk (fun W c m sz h => get_none (R := fun w' => w' = W) n (find_nil [] n hw (by simp) h.1))
  have HPUT : Hid (∀ W c m sz bo bl bc, Cn w W c m sz → Calls Try.prog 17 #[ptV c, .int .i64 n, .slice bo bl bc] W fun e w' => e = .returned (.bool false) ∧ w' = W) := Hid.mk (fun W c m sz bo bl bc h => put_no [] n sz bo bl bc hw (by simp) h.1)
  have HREL : Hid (∀ W c m sz, Cn w W c m sz → Calls Try.prog 15 #[ptV c, .int .i64 n] W fun e w' => e = .returned (.bool false) ∧ w' = W) := Hid.mk (fun W c m sz h => release_no [] n sz hw (by simp) h.1)
  have HHELD : Hid (∀ W c m sz, Cn w W c m sz → Calls Try.prog 23 #[ptV c] W fun e w' => e = .returned (.slice (some ⟨W.heap.size, 0, none⟩) 0 0) ∧ Cn w w' c m sz) := Hid.mk (fun W c m sz h => (held_any [] h.1 (by simp)).mono (by
    rintro e w' ⟨rfl, _, hB⟩
    exact ⟨rfl, h.below hB⟩))
  have HBLK : Hid (∀ W c m sz, Cn w W c m sz → Calls Try.prog 16 #[.int .i64 1] W fun e w' => e = .returned (.slice (some ⟨W.heap.size, 0, none⟩) 1024 1024) ∧ Cn w w' c m sz) := Hid.mk (fun W c m sz h => (block_any W 1).mono (by
    rintro e w' ⟨rfl, _, hB⟩
    exact ⟨rfl, h.below hB⟩))
  go_enter Try.func4, Try.ntmps4
  go_wp2_with (first
    | (go_at_call 8; refine HAL.out.mono ?_; rintro e w1 ⟨rfl, hb1⟩; have HB1 := Hid.mk hb1; clear hb1 HAL)
    | (go_at_call 10; refine (HNEW.out _ HB1.out).mono ?_; rintro e w2 ⟨c, m, rfl, h2⟩; have H2 := Hid.mk h2; clear h2)
    | (go_at_call 12; refine (HGET.out _ _ _ _ H2.out).mono ?_; rintro e w3 ⟨rfl, rfl⟩)
    | (go_at_call 16; refine (HBLK.out _ _ _ _ H2.out).mono ?_; rintro e w4 ⟨rfl, h4⟩; have H4 := Hid.mk h4; clear h4)
    | (go_at_call 17; refine (HPUT.out _ _ _ _ _ _ _ H4.out).mono ?_; rintro e w5 ⟨rfl, rfl⟩)
    | (go_at_call 15; refine (HREL.out _ _ _ _ H4.out).mono ?_; rintro e w6 ⟨rfl, rfl⟩)
    | (go_at_call 23; refine (HHELD.out _ _ _ _ H4.out).mono ?_; rintro e w7 ⟨rfl, h7⟩; have H7 := Hid.mk h7; clear h7))
  go_ret
  exact ⟨rfl, H7.out.2⟩
end Go.Proofs.Ytmbhjheoomlggaa
