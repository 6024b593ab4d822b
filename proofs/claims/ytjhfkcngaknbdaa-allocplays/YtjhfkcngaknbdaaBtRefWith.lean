/-
  The document's own With, for every row and number.
-/
import Derived.Test.YtjhfkcngaknbdaaBtRef
namespace Go.Proofs.Ytjhfkcngaknbdaa
open Go Go.Proofs Go.RowKit Go.Shelf
namespace Bt
set_option maxRecDepth 100000 in
set_option maxHeartbeats 1000000 in
theorem refwith_yes (w : World) (a : Addr) (n c q : Nat) (on : Bool) (xs : List Int) (h : BAt w (some a) n xs) (hbig : n ≤ 140737488355328) (hq : q / 8 < n) :
    Calls Try.prog 37 #[.slice (some a) n c, .int .i64 q, .bool on] w fun e w' => ∃ v', e = .returned v' ∧ w'.ownsRow w.heap.size 5 1 v' n (By (xs.set (q / 8) (setB (xs.getD (q / 8) 0) q on))) ∧ Below w.heap.size w w' := by
  have hq2 : q < 9223372036854775808 := by omega
  have hq3 : (q : Int) / 8 < n := by omega
  obtain ⟨v', w', hrun, hown, hB⟩ := append_nil_below w (some a) n c xs h hbig (by simp)
  obtain ⟨g, cap, rfl, hg, -⟩ := owns_bytes hown (by rintro rfl; rcases hown.2 with h2 | ⟨_, _, _, h2, _⟩; omega; cases h2)
  obtain ⟨hc1, hc2, -⟩ := owns_cell hown (q / 8) hq
  obtain ⟨ga, hga⟩ : ∃ ga : Addr, ga = ⟨g, 0, none⟩ := ⟨_, rfl⟩
  have hadd : ga.add (q / 8) = ⟨g, q / 8, none⟩ := by rw [hga, add_at, Nat.zero_add]
  rw [← hadd] at hc1 hc2
  rw [← hga] at hown hrun
  obtain ⟨x, hxe⟩ : ∃ x, x = xs.getD (q / 8) 0 := ⟨_, rfl⟩
  rw [← hxe] at hc1
  have hw8 : IntKind.i64.wrap ((q : Int) / 8) = (q : Int) / 8 := by rw [IntKind.wrap_i64]; omega
  have h08 : (0 : Int) ≤ (q : Int) / 8 := by omega
  have ht8 : ((q : Int) / 8).toNat = q / 8 := by omega
  have hm : (2 : Int) ^ (q % 8) % 256 = maskN q := by
    have := maskN_bound q
    have e : (2 : Int) ^ (q % 8) = maskN q := by simp [maskN]
    rw [e]
    omega
  have fin1 : ∀ W : World, W.heap = (w'.setCell (ga.add (q / 8)) (.int .u8 (bits BinOp.andNot IntKind.u8 x (maskN q)))).heap → Below w.heap.size w' W → W.ownsRow w.heap.size 5 1 (.slice (some ga) n cap) n (By (xs.set (q / 8) (setB (xs.getD (q / 8) 0) q false))) ∧ Below w.heap.size w W := by
    intro W hW hBW
    refine ⟨?_, hB.trans hBW⟩
    subst hga
    have h2 := owns_set hown (q / 8) (bits BinOp.andNot IntKind.u8 x (maskN q))
    rw [← hadd] at h2
    rw [← hxe]
    exact owns_at h2 (fun k _ => by rw [hW])
  have fin2 : ∀ W : World, W.heap = ((w'.setCell (ga.add (q / 8)) (.int .u8 (bits BinOp.andNot IntKind.u8 x (maskN q)))).setCell (ga.add (q / 8)) (.int .u8 (bits BinOp.or IntKind.u8 (bits BinOp.andNot IntKind.u8 x (maskN q)) (maskN q)))).heap → Below w.heap.size w' W → W.ownsRow w.heap.size 5 1 (.slice (some ga) n cap) n (By (xs.set (q / 8) (setB (xs.getD (q / 8) 0) q true))) ∧ Below w.heap.size w W := by
    intro W hW hBW
    refine ⟨?_, hB.trans hBW⟩
    subst hga
    have h2 := owns_set (owns_set hown (q / 8) (bits BinOp.andNot IntKind.u8 x (maskN q))) (q / 8) (bits BinOp.or IntKind.u8 (bits BinOp.andNot IntKind.u8 x (maskN q)) (maskN q))
    rw [← hadd, List.set_set] at h2
    rw [← hxe]
    exact owns_at h2 (fun k _ => by rw [hW])
  have hgb : w.heap.size ≤ (ga.add (q / 8)).block := by rw [hadd]; exact hg
  have F1 := Hid.mk fin1
  have F2 := Hid.mk fin2
  have HGB := Hid.mk hgb
  have HR := Hid.mk hrun
  clear fin1 fin2 hgb hrun hown hB hga hadd hxe h hg
  cases on
  · go_enter Try.func37, Try.ntmps37
    go_wp2_with (at_builtin; refine wpList_append_known rfl _ _ 39 rfl (.slice none 0 0) (.slice (some a) n c) _ _ rfl rfl HR.out ?_)
    go_ret
    exact ⟨_, rfl, F1.out _ rfl ((Below.refl _ w').setCell HGB.out _)⟩
  · go_enter Try.func37, Try.ntmps37
    go_wp2_with (at_builtin; refine wpList_append_known rfl _ _ 39 rfl (.slice none 0 0) (.slice (some a) n c) _ _ rfl rfl HR.out ?_)
    go_ret
    exact ⟨_, rfl, F2.out _ rfl (((Below.refl _ w').setCell HGB.out _).setCell HGB.out _)⟩
set_option maxRecDepth 100000 in
set_option maxHeartbeats 1000000 in
theorem refwith_no (w : World) (ao : Option Addr) (n c : Nat) (i : Int) (hi : I64 i) (on : Bool) (xs : List Int) (h : BAt w ao n xs) (hnone : ao = none → n = 0 ∧ c = 0) (hbig : n ≤ 140737488355328) (hno : hasI n i = false) :
    Calls Try.prog 37 #[.slice ao n c, .int .i64 i, .bool on] w fun e w' => ∃ v', e = .returned v' ∧ w'.ownsRow w.heap.size 5 1 v' n (By xs) ∧ Below w.heap.size w w' := by
  obtain ⟨v', w', hrun, hown, hB⟩ := append_nil_below w ao n c xs h hbig hnone
  have HR := Hid.mk hrun
  have HO := Hid.mk hown
  have HB := Hid.mk hB
  obtain ⟨hi1, hi2⟩ := hi
  clear hrun hown hB h hnone
  by_cases h0 : 0 ≤ i
  · obtain ⟨q, rfl⟩ : ∃ q : Nat, i = q := ⟨i.toNat, by omega⟩
    rw [hasI_nat] at hno
    simp at hno
    have hno2 : (n : Int) ≤ (q : Int) / 8 := by omega
    go_enter Try.func37, Try.ntmps37
    go_wp2_with (at_builtin; refine wpList_append_known rfl _ _ 39 rfl (.slice none 0 0) (.slice ao n c) _ _ rfl rfl HR.out ?_)
    go_ret
    exact ⟨_, rfl, HO.out, HB.out⟩
  · clear hno
    go_enter Try.func37, Try.ntmps37
    go_wp2_with (at_builtin; refine wpList_append_known rfl _ _ 39 rfl (.slice none 0 0) (.slice ao n c) _ _ rfl rfl HR.out ?_)
    go_ret
    exact ⟨_, rfl, HO.out, HB.out⟩
set_option maxRecDepth 100000 in
theorem refwith_any (w : World) (ao : Option Addr) (n c : Nat) (i : Int) (hi : I64 i) (on : Bool) (xs : List Int) (h : BAt w ao n xs) (hnone : ao = none → n = 0 ∧ c = 0) (hbig : n ≤ 140737488355328) :
    Calls Try.prog 37 #[.slice ao n c, .int .i64 i, .bool on] w fun e w' => ∃ v', e = .returned v' ∧ w'.ownsRow w.heap.size 5 1 v' n (By (withI xs i on)) ∧ Below w.heap.size w w' := by
  cases hh : hasI n i with
  | false =>
    rw [show withI xs i on = xs from by unfold withI; rw [h.1, hh]; simp]
    exact refwith_no w ao n c i hi on xs h hnone hbig hh
  | true =>
    have hh' := hh
    simp [hasI] at hh'
    obtain ⟨hi1, hi2⟩ := hi
    obtain ⟨q, rfl⟩ : ∃ q : Nat, i = q := ⟨i.toNat, by omega⟩
    simp only [Int.toNat_natCast] at hh'
    obtain ⟨a, rfl, _⟩ := h.at (q / 8) hh'.2
    rw [show withI xs (q : Int) on = xs.set (q / 8) (setB (xs.getD (q / 8) 0) q on) from by unfold withI; rw [h.1, if_pos hh]; rfl]
    exact refwith_yes w a n c q on xs h hbig hh'.2
end Bt
end Go.Proofs.Ytjhfkcngaknbdaa
