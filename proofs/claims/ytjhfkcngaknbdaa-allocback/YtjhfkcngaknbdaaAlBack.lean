/-
  AllocBack: what is given back is given out again, the first of it first.
-/
import Derived.Test.YtjhfkcngaknbdaaAlAll
namespace Go.Proofs.Ytjhfkcngaknbdaa
open Go Go.Proofs Go.RowKit Go.Shelf

theorem all_no {k k1 : Nat} {x : Int} {zs : List Int} (hk : k1 = k + 1) (h : false = decide (∀ q, q < k → zs.getD q 0 ≠ x)) : false = decide (∀ q, q < k1 → zs.getD q 0 ≠ x) := by
  have h' : ¬ ∀ q, q < k → zs.getD q 0 ≠ x := of_decide_eq_false h.symm
  exact (decide_eq_false (fun ha => h' (fun q hq => ha q (by omega)))).symm
theorem all_hit {k k1 : Nat} {x : Int} {zs : List Int} (hk : k1 = k + 1) (_ : true = decide (∀ q, q < k → zs.getD q 0 ≠ x)) (hx : zs.getD k 0 = x) : false = decide (∀ q, q < k1 → zs.getD q 0 ≠ x) :=
  (decide_eq_false (fun ha => ha k (by omega) hx)).symm
theorem all_yes {k k1 : Nat} {x : Int} {zs : List Int} (hk : k1 = k + 1) (h : true = decide (∀ q, q < k → zs.getD q 0 ≠ x)) (hx : zs.getD k 0 ≠ x) : true = decide (∀ q, q < k1 → zs.getD q 0 ≠ x) := by
  have h' : ∀ q, q < k → zs.getD q 0 ≠ x := of_decide_eq_true h.symm
  refine (decide_eq_true (fun q hq => ?_)).symm
  rcases Nat.lt_or_ge q k with hlt | hge
  · exact h' q hlt
  · obtain rfl : q = k := by omega
    exact hx
/-- The first free one, as Inode numbers it. -/
def lst (r : Option Nat) : Nat := match r with
  | some m => m + 1
  | none => 0
theorem next_zero {t : Nat → Bool} {N : Nat} : nextN t N 0 = (List.range N).find? (fun j => !t j) := by
  unfold nextN
  have e : (List.range N).find? (fun j => !t ((0 + j) % N)) = (List.range N).find? (fun j => !t j) := find_congr _ (fun j hj => by rw [Nat.zero_add, Nat.mod_eq_of_lt (List.mem_range.1 hj)])
  rw [e]
  cases h : (List.range N).find? (fun j => !t j) with
  | none => rfl
  | some j =>
    have hj := List.mem_range.1 (List.mem_of_find?_eq_some h)
    simp [Nat.mod_eq_of_lt hj]
theorem next_back {t : Nat → Bool} {N p : Nat} (hp : p < N) (ht : t p = true) : lst (nextN (updT t p false) N 0) = if lst (nextN t N 0) = 0 ∨ p + 1 < lst (nextN t N 0) then p + 1 else lst (nextN t N 0) := by
  rw [next_zero, next_zero]
  cases h : (List.range N).find? (fun j => !t j) with
  | none =>
    have hn := fstN_not h
    rw [find_range_some (J := p) hp (fun j hj => ?_) (by simp [updT])]
    · rw [if_pos (.inl rfl)]; rfl
    · have := hn j (by omega)
      unfold updT
      rw [if_neg (by omega)]
      exact this
  | some m =>
    obtain ⟨hm, hm1, hm2⟩ := fstN_some h
    have hne : p ≠ m := by rintro rfl; rw [ht] at hm1; cases hm1
    by_cases hlt : p < m
    · rw [find_range_some (J := p) hp (fun j hj => ?_) (by simp [updT])]
      · rw [if_pos (.inr (by show p + 1 < m + 1; omega))]; rfl
      · have := hm2 j (by omega)
        unfold updT
        rw [if_neg (by omega)]
        exact this
    · rw [find_range_some (J := m) hm (fun j hj => ?_) ?_]
      · rw [if_neg (by show ¬ (m + 1 = 0 ∨ p + 1 < m + 1); omega)]
      · unfold updT
        rw [if_neg (fun e => hne e.symm)]
        exact hm1
      · have := hm2 j hj
        unfold updT
        rw [if_neg (by omega)]
        exact this
/-- Behind j of the numbers: what has been given back, how many, and the least of them. -/
structure BkAt (N j : Nat) (zs : List Int) (ti : Nat → Bool) (ls nn : Nat) : Prop where
  t : ∀ m, m < N → ti m = decide (∀ q, q < j → zs.getD q 0 ≠ ((m + 1 : Nat) : Int))
  n : nn = freeN ti N
  l : ls = lst (nextN ti N 0)
theorem BkAt.same {N j j1 : Nat} {zs : List Int} {ti : Nat → Bool} {ls nn : Nat} (h : BkAt N j zs ti ls nn) (hj : j1 = j + 1) (hx : ∀ m, m < N → ti m = true → zs.getD j 0 ≠ ((m + 1 : Nat) : Int)) : BkAt N j1 zs ti ls nn := by
  refine ⟨fun m hm => ?_, h.n, h.l⟩
  rw [h.t m hm]
  by_cases ha : ∀ q, q < j → zs.getD q 0 ≠ ((m + 1 : Nat) : Int)
  · have ht : ti m = true := by rw [h.t m hm]; exact decide_eq_true ha
    rw [decide_eq_true ha, decide_eq_true]
    intro q hq
    rcases Nat.lt_or_ge q j with hlt | hge
    · exact ha q hlt
    · obtain rfl : q = j := by omega
      exact hx m hm ht
  · rw [decide_eq_false ha, decide_eq_false]
    exact fun h' => ha (fun q hq => h' q (by omega))
theorem BkAt.back {N j j1 p : Nat} {zs : List Int} {ti : Nat → Bool} {ls nn : Nat} (h : BkAt N j zs ti ls nn) (hj : j1 = j + 1) (hp : p < N) (hx : zs.getD j 0 = ((p + 1 : Nat) : Int)) (ht : ti p = true) : BkAt N j1 zs (updT ti p false) (if ls = 0 ∨ p + 1 < ls then p + 1 else ls) (nn + 1) := by
  refine ⟨fun m hm => ?_, by rw [freeN_back N hp ht, h.n], by rw [next_back hp ht, ← h.l]⟩
  unfold updT
  by_cases hmp : m = p
  · subst hmp
    rw [if_pos rfl, decide_eq_false]
    exact fun h' => h' j (by omega) hx
  · rw [if_neg hmp, h.t m hm]
    by_cases ha : ∀ q, q < j → zs.getD q 0 ≠ ((m + 1 : Nat) : Int)
    · rw [decide_eq_true ha, decide_eq_true]
      intro q hq
      rcases Nat.lt_or_ge q j with hlt | hge
      · exact ha q hlt
      · obtain rfl : q = j := by omega
        rw [hx]
        omega
    · rw [decide_eq_false ha, decide_eq_false]
      exact fun h' => ha (fun q hq => h' q (by omega))
set_option maxRecDepth 100000 in
set_option maxHeartbeats 4000000 in
theorem back_out (w : World) (G I D : Int) (ao : Option Addr) (n c : Nat) (h : good G I D = false ∨ 20 < n) : Calls Try.prog 6 #[geo G I D, .slice ao n c] w fun e w' => e = .returned (.bool true) ∧ Below w.heap.size w w' := by
  have HAL := Hid.mk (fun W => alive_any W)
  cases hg : good G I D with
  | false =>
    have HGD := Hid.mk (fun W => good_is W G I D false hg)
    clear h hg
    go_enter Try.func6, Try.ntmps6
    go_wp2_with (first
      | (go_at_call 7; refine (HAL.out _).mono ?_; rintro e w1 ⟨rfl, hB1⟩; obtain ⟨hG1, hB1'⟩ := behind hB1; obtain ⟨c0, c1, c2⟩ := hG1.g3; have HB1 := Hid.mk hB1'; clear hB1 hG1 hB1')
      | (go_at_call 8; refine (HGD.out _).mono ?_; rintro e w2 ⟨rfl, hB2⟩))
    go_ret
    exact ⟨rfl, HB1.out.trans (hB2.mono HB1.out.size)⟩
  | true =>
    have HGD := Hid.mk (fun W => good_is W G I D true hg)
    have h3 : (20 : Int) < (n : Int) := by
      rcases h with h | h
      · rw [hg] at h; cases h
      · omega
    clear h hg
    go_enter Try.func6, Try.ntmps6
    go_wp2_with (first
      | (go_at_call 7; refine (HAL.out _).mono ?_; rintro e w1 ⟨rfl, hB1⟩; obtain ⟨hG1, hB1'⟩ := behind hB1; obtain ⟨c0, c1, c2⟩ := hG1.g3; have HB1 := Hid.mk hB1'; clear hB1 hG1 hB1')
      | (go_at_call 8; refine (HGD.out _).mono ?_; rintro e w2 ⟨rfl, hB2⟩))
    go_ret
    exact ⟨rfl, HB1.out.trans (hB2.mono HB1.out.size)⟩
theorem tuD_zero (g i d : Nat) (ti td : Nat → Bool) (x : Int) (on : Bool) : tuD g i d ti td x 0 on = td := by unfold tuD; rw [if_neg (by simp)]
theorem tnG_zero (g i d : Nat) (ti td : Nat → Bool) (x : Int) (on : Bool) : tnG g i d ti td x 0 on = tnI g i d ti x on := by unfold tnG tnB; simp
set_option maxRecDepth 100000 in
set_option maxHeartbeats 16000000 in
theorem back_in (w : World) (g i d : Nat) (hg : good (g : Int) (i : Int) (d : Int) = true) (ao : Option Addr) (n c : Nat) (zs : List Int) (hz : LAt w ao n zs) (hzr : ∀ q, q < n → I64 (zs.getD q 0)) (hn : n ≤ 20) : Calls Try.prog 6 #[geo g i d, .slice ao n c] w fun e w' => e = .returned (.bool true) ∧ Below w.heap.size w w' := by
  have HAL := Hid.mk (fun W => alive_any W)
  have HGD := Hid.mk (fun W => good_is W g i d true hg)
  have hbd := good_iff.1 hg
  obtain ⟨N, hN⟩ : ∃ N, N = g * (16 * i) := ⟨_, rfl⟩
  have hN512 : N ≤ 512 := by rw [hN]; exact Nat.mul_le_mul (show g ≤ 8 by omega) (show 16 * i ≤ 64 by omega)
  have hinoI : inoI (g : Int) (i : Int) (d : Int) = (N : Int) := by rw [ino_yes hg, hN]; push_cast; rw [Int.mul_comm 16]
  have HRI : Hid (∀ W, Calls Try.prog 22 #[geo g i d] W fun e w' => e = .returned (.int .i64 N) ∧ Below W.heap.size W w') := Hid.mk (fun W => by have := rinodes_any W g i d; rw [hinoI] at this; exact this)
  have HGR : Hid (∀ x : Int, grB (g : Int) (i : Int) (d : Int) x = true ↔ 1 ≤ x ∧ x ≤ (N : Int)) := Hid.mk (fun x => by rw [gr_ino, hinoI])
  have HNEW : Hid (∀ W, Calls Try.prog 9 #[geo g i d] W fun e w' => ∃ b, e = .returned (.pointer (some ⟨b, 0, none⟩)) ∧ Hid (W.heap.size ≤ b ∧ AlAt w' b g i d noT noT ∧ Below W.heap.size W w')) := Hid.mk (fun W => by
    refine (new_yes W g i d hg).mono ?_
    rintro e w' ⟨b, rfl, h⟩
    exact ⟨b, rfl, Hid.mk h⟩)
  have HINO : Hid (∀ W b gb ti, 0 < freeN ti N → LwAt w b gb g i d ao n zs ti noT W → Calls Try.prog 11 #[.pointer (some ⟨b, 0, none⟩), .int .i64 0] W fun e w' => ∃ v, e = .returned v ∧ Hid (∃ m, m < N ∧ ti m = false ∧ LwAt w b gb g i d ao n zs (updT ti m true) noT w')) := Hid.mk (fun W b gb ti hf hL => by
    obtain ⟨m, h1, h2, h3⟩ := next_ex2 (base := grpOf g 0 * (16 * i)) hf
    refine (inode_any W b g i d ti noT hL.al 0).mono ?_
    rintro e w' ⟨rfl, hA, hO⟩
    have e : nxI g i ti 0 = some m := by unfold nxI; rw [← hN]; exact h1
    rw [e] at hA ⊢
    exact ⟨_, rfl, Hid.mk ⟨m, h2, h3, hL.then hA hO⟩⟩)
  have HLAST : Hid (∀ W b gb ti, LwAt w b gb g i d ao n zs ti noT W → Calls Try.prog 11 #[.pointer (some ⟨b, 0, none⟩), .int .i64 0] W fun e w' => e = .returned (.tuple #[.int .i64 (lst (nextN ti N 0)), .bool (decide (0 < freeN ti N))]) ∧ Below w.heap.size w w') := Hid.mk (fun W b gb ti hL => by
    refine (inode_any W b g i d ti noT hL.al 0).mono ?_
    rintro e w' ⟨rfl, hA, hO⟩
    have hg0 : grpOf g 0 = 0 := by unfold grpOf; split <;> rfl
    have e : nxI g i ti 0 = nextN ti N 0 := by unfold nxI; rw [← hN, hg0, Nat.zero_mul]
    refine ⟨?_, (hL.then hA hO).below⟩
    rw [e]
    cases hx : nextN ti N 0 with
    | none => rw [freeN_all (next_not hx)]; rfl
    | some m =>
      have h0 : 0 < freeN ti N := by
        rcases Nat.eq_zero_or_pos (freeN ti N) with h | h
        · rw [next_full h] at hx; cases hx
        · exact h
      rw [decide_eq_true h0]; rfl)
  have HGIVE : Hid (∀ W b gb ti x, I64 x → LwAt w b gb g i d ao n zs ti noT W → Calls Try.prog 17 #[.pointer (some ⟨b, 0, none⟩), .int .i64 x, .int .i64 0] W fun e w' => e = .returned (.bool (tnI g i d ti x false)) ∧ Hid (LwAt w b gb g i d ao n zs (tuI g i d ti noT x 0 false) noT w')) := Hid.mk (fun W b gb ti x hx hL => by
    refine (give_any W b g i d ti noT hL.al x 0 hx).mono ?_
    rintro e w' ⟨rfl, hA, hO⟩
    rw [tuD_zero] at hA
    rw [tnG_zero]
    exact ⟨rfl, Hid.mk (hL.then hA hO)⟩)
  have HFR : Hid (∀ W b gb ti, LwAt w b gb g i d ao n zs ti noT W → Calls Try.prog 18 #[.pointer (some ⟨b, 0, none⟩)] W fun e w' => ∃ y : Int, e = .returned (.tuple #[.int .i64 ((freeN ti N : Nat) : Int), .int .i64 y]) ∧ Hid (LwAt w b gb g i d ao n zs ti noT w')) := Hid.mk (fun W b gb ti hL => by
    refine (free2_any W b g i d ti noT hL.al).mono ?_
    rintro e w' ⟨rfl, hB⟩
    rw [← hN]
    exact ⟨_, rfl, Hid.mk (hL.new hB)⟩)
  have h3 : ¬ (20 : Int) < (n : Int) := by omega
  have HNN : Hid (N ≤ 512 ∧ n ≤ 20) := Hid.mk ⟨hN512, hn⟩
  have HZ := Hid.mk hz
  have HZR := Hid.mk hzr
  clear hbd hN hN512 hinoI hg hz hzr hn
  go_enter Try.func6, Try.ntmps6
  go_wp2_with (first
    | (go_at_call 7; refine (HAL.out _).mono ?_; rintro e w1 ⟨rfl, hB1⟩; obtain ⟨hG1, hB1'⟩ := behind hB1; obtain ⟨c0, c1, c2⟩ := hG1.g3; have HG1 := Hid.mk hG1; have HB1 := Hid.mk hB1'; clear hB1 hG1 hB1')
    | (go_at_call 8; refine (HGD.out _).mono ?_; rintro e w2 ⟨rfl, hB2⟩; have hG2 := HG1.out.below hB2 HG1.out.lt; obtain ⟨d0, d1, d2⟩ := hG2.g3; have HG2 := Hid.mk hG2; have HB2 : Hid (Below w.heap.size w w2) := Hid.mk (HB1.out.trans (hB2.mono HB1.out.size)); clear hB2 hG2)
    | (go_at_call 9; refine (HNEW.out _).mono ?_; rintro e w3 ⟨b, rfl, H3⟩; have HLW : Hid (LwAt w b w.heap.size g i d ao n zs noT noT w3) := Hid.mk ⟨H3.out.2.1, HG2.out.below H3.out.2.2 HG2.out.lt, HZ.out.only (Only.of_new (fun _ => False) (HB2.out.trans (H3.out.2.2.mono HB2.out.size))) (fun _ _ _ h => h), Nat.le_trans HB2.out.size H3.out.1, Nat.le_refl _, by have := HG2.out.lt; have := H3.out.1; omega, fun a ea h0 => by (obtain ⟨a', e', hl, _⟩ := HZ.out.2 h0; rw [ea] at e'; cases e'; exact hl), HB2.out.trans (H3.out.2.2.mono HB2.out.size)⟩))
  obtain ⟨gb, hgb⟩ : ∃ gb, gb = w.heap.size := ⟨_, rfl⟩
  have HL5 : Hid (LwAt w b gb g i d ao n zs noT noT w3) := Hid.mk (by rw [hgb]; exact HLW.out)
  rw [← hgb]
  clear hgb HLW H3 HNEW HZ HG2 HB2 HG1 HB1 HAL HGD d0 d1 d2 c0 c1 c2
  go_loopw [8] (fun j wr => ∃ k : Nat, j = .int .i64 k ∧ Hid (k ≤ N ∧ ∃ ti, freeN ti N + k = N ∧ LwAt w b gb g i d ao n zs ti noT wr)) (fun j _ => N - (intOf j).toNat)
  case atStart => exact ⟨0, rfl, Hid.mk ⟨Nat.zero_le _, noT, by rw [freeN_no]; rfl, HL5.out⟩⟩
  case round =>
    obtain ⟨k, rfl, HK⟩ := hrel
    obtain ⟨ti, HTI⟩ : ∃ ti, Hid (k ≤ N ∧ freeN ti N + k = N ∧ LwAt w b gb g i d ao n zs ti noT wr) := by
      obtain ⟨h1, ti, h2, h3⟩ := HK.out
      exact ⟨ti, Hid.mk ⟨h1, h2, h3⟩⟩
    obtain ⟨e0, e1, e2⟩ := HTI.out.2.2.ge.g3
    clear HK HL5
    by_cases hlt : (k : Int) < (N : Int)
    · obtain ⟨k1, hk1⟩ : ∃ n, n = k + 1 := ⟨_, rfl⟩
      have v3 : IntKind.i64.wrap ((k : Int) + 1) = (k1 : Int) := by have := HNN.out; rw [IntKind.wrap_i64]; omega
      have HK1 : Hid (k1 = k + 1 ∧ k < N) := Hid.mk ⟨hk1, by omega⟩
      have HF0 : Hid (0 < freeN ti N) := Hid.mk (by have := HTI.out.2.1; omega)
      clear hk1 HLAST HGIVE HFR
      go_wp2_with (first
        | (go_at_call 22; refine (HRI.out _).mono ?_; rintro e w4 ⟨rfl, hB4⟩; have HL4 := Hid.mk (HTI.out.2.2.new hB4); clear hB4)
        | (go_at_call 11; refine (HINO.out _ b gb ti HF0.out HL4.out).mono ?_; rintro e w5 ⟨v5, rfl, H5⟩))
      go_roundw
      case rel =>
        obtain ⟨m, hm, ht, hL⟩ := H5.out
        obtain ⟨e1, e2⟩ := HK1.out
        have h1 := HTI.out.2.1
        have h2 := freeN_upd (t := ti) (n := m) N ht
        rw [if_pos hm] at h2
        exact ⟨k1, rfl, Hid.mk ⟨by omega, _, by omega, hL⟩⟩
      case measure =>
        obtain ⟨e1, e2⟩ := HK1.out
        clear H5 HTI HL4
        simp [intOf]
        omega
    · have HF0 : Hid (freeN ti N = 0) := Hid.mk (by have := HTI.out; omega)
      clear HINO
      go_wp2_with (go_at_call 22; refine (HRI.out _).mono ?_; rintro e w4 ⟨rfl, hB4⟩; have HL4 := Hid.mk (HTI.out.2.2.new hB4); clear hB4)
      go_loopw [9, 10, 11] (fun lv nv jv wr => ∃ (j ls nn : Nat), jv = .int .i64 j ∧ lv = .int .i64 ls ∧ nv = .int .i64 nn ∧ Hid (j ≤ n ∧ ∃ ti, LwAt w b gb g i d ao n zs ti noT wr ∧ BkAt N j zs ti ls nn)) (fun _ _ jv _ => n - (intOf jv).toNat)
      case atStart =>
        refine ⟨0, 0, 0, rfl, rfl, rfl, Hid.mk ⟨Nat.zero_le _, ti, HL4.out, ⟨fun m hm => ?_, HF0.out.symm, by rw [next_full HF0.out]; rfl⟩⟩⟩
        rw [freeN_none HF0.out m hm]
        simp
      case round =>
        obtain ⟨j, ls, nn, rfl, rfl, rfl, HJ⟩ := hrel
        obtain ⟨t1, HT1⟩ : ∃ t1, Hid (j ≤ n ∧ LwAt w b gb g i d ao n zs t1 noT wr ∧ BkAt N j zs t1 ls nn) := by
          obtain ⟨h1, ti, h2, h3⟩ := HJ.out
          exact ⟨ti, Hid.mk ⟨h1, h2, h3⟩⟩
        clear HJ HTI HL4 HF0 e0 e1 e2
        by_cases hjl : (j : Int) < (n : Int)
        · obtain ⟨a, rfl, hca⟩ : ∃ a, ao = some a ∧ wr.cell? (a.add j) = some (.int .i64 (zs.getD j 0)) := HT1.out.2.1.at j (by omega)
          obtain ⟨x, hx⟩ : ∃ x, x = zs.getD j 0 := ⟨_, rfl⟩
          rw [← hx] at hca
          have HX := Hid.mk hx
          have hj0 : (0 : Int) ≤ (j : Int) := by omega
          have hjt : (j : Int).toNat = j := by simp
          obtain ⟨j1, hj1⟩ : ∃ m, m = j + 1 := ⟨_, rfl⟩
          have v3 : IntKind.i64.wrap ((j : Int) + 1) = (j1 : Int) := by have := HNN.out; rw [IntKind.wrap_i64]; omega
          have HJ1 : Hid (j1 = j + 1 ∧ j < n) := Hid.mk ⟨hj1, by omega⟩
          have HGV0 := Hid.mk (HGIVE.out wr b gb t1 x (by rw [hx]; exact HZR.out j (by omega)) HT1.out.2.1)
          have HBK0 := Hid.mk HT1.out.2.2
          clear hx hj1 HGIVE HLAST HFR HT1
          by_cases c0 : x = 0
          · subst c0
            have HSAME : Hid (BkAt N j1 zs t1 ls nn) := Hid.mk (HBK0.out.same HJ1.out.1 (fun m hm _ => by rw [← HX.out]; omega))
            have HGV : Hid (Calls Try.prog 17 #[.pointer (some ⟨b, 0, none⟩), .int .i64 0, .int .i64 0] wr fun e w' => e = .returned (.bool true) ∧ Hid (LwAt w b gb g i d (some a) n zs t1 noT w')) := Hid.mk (by
              have e1 : tnI g i d t1 0 false = true := by simp [tnI]
              have e2 : tuI g i d t1 noT 0 0 false = t1 := by unfold tuI; rw [if_neg (by simp)]
              have := HGV0.out
              rw [e1, e2] at this
              exact this)
            clear HGV0 HBK0
            go_wp2_with (go_at_call 17; refine HGV.out.mono ?_; rintro e w5 ⟨rfl, H5⟩)
            obtain ⟨e0, e1, e2⟩ := H5.out.ge.g3
            have hcj5 : w5.cell? (a.add j) = some (.int .i64 0) := by (obtain ⟨a', e', hc⟩ := H5.out.at j (by omega); cases e'; rw [HX.out]; exact hc)
            have HS6 : Hid (∀ W, Below w5.drew.heap.size w5.drew W → W.cell? (a.add j) = some (.int .i64 0) ∧ G3 gb g i d W) := Hid.mk (fun W hB => by (have h := H5.out.new (W' := W) ⟨hB.os, hB.tape, hB.output, hB.size, hB.block⟩; exact ⟨by (obtain ⟨a', e', hc⟩ := h.at j (by omega); cases e'; rw [HX.out]; exact hc), h.ge.g3⟩))
            refine wp_region_held_drew (S := fun W => W.cell? (a.add j) = some (.int .i64 0) ∧ G3 gb g i d W) (by kernel_rfl) ⟨hcj5, e0, e1, e2⟩ (fun hH => ?_)
            change wpAnyH Try.prog Region.Mode.any _ _ _ 15 _ _ _
            refine takeH 0 56 (.slice (some a) n c) rfl (by kernel_rfl) (by kernel_rfl) (by kernel_rfl) (by kernel_rfl) (fun _ _ _ h => h) (by kernel_rfl) (fun w hw => by kernel_rfl) hH ?_
            simp only [List.setIfInBounds_toArray, List.set_cons_zero, List.set_cons_succ]
            refine takeH 1 57 (.int .i64 j) rfl (by kernel_rfl) (by kernel_rfl) (by kernel_rfl) (by kernel_rfl) (fun _ _ _ h => h) (by kernel_rfl) (fun w hw => by kernel_rfl) hH ?_
            simp only [List.setIfInBounds_toArray, List.set_cons_zero, List.set_cons_succ]
            refine takeH 2 58 (.pointer (some (a.add j))) rfl (by kernel_rfl) (by kernel_rfl) (by kernel_rfl) (by kernel_rfl) (fun _ _ _ h => h) (by kernel_rfl) (fun w hw => by (try dsimp only at hw); go_simp) hH ?_
            simp only [List.setIfInBounds_toArray, List.set_cons_zero, List.set_cons_succ]
            refine takeH 3 59 (.int .i64 0) rfl (by kernel_rfl) (by kernel_rfl) (by kernel_rfl) (by kernel_rfl) (fun _ _ _ h => h) (by kernel_rfl) (fun w hw => by (try dsimp only at hw); go_simp) hH ?_
            simp only [List.setIfInBounds_toArray, List.set_cons_zero, List.set_cons_succ]
            refine takeH 4 60 (.bool false) rfl (by kernel_rfl) (by kernel_rfl) (by kernel_rfl) (by kernel_rfl) (fun _ _ _ h => h) (by kernel_rfl) (fun w hw => by (try dsimp only at hw); go_simp) hH ?_
            simp only [List.setIfInBounds_toArray, List.set_cons_zero, List.set_cons_succ]
            refine takeH 5 61 (.bool false) rfl (by kernel_rfl) (by kernel_rfl) (by kernel_rfl) (by kernel_rfl) (fun _ _ _ h => h) (by kernel_rfl) (fun w hw => by kernel_rfl) hH ?_
            simp only [List.setIfInBounds_toArray, List.set_cons_zero, List.set_cons_succ]
            refine skipH 6 62 rfl (by kernel_rfl) (by kernel_rfl) (by kernel_rfl) (by kernel_rfl) (fun _ _ _ h => h) (by kernel_rfl) hH ?_
            simp only [List.setIfInBounds_toArray, List.set_cons_zero, List.set_cons_succ]
            refine skipH 7 63 rfl (by kernel_rfl) (by kernel_rfl) (by kernel_rfl) (by kernel_rfl) (fun _ _ _ h => h) (by kernel_rfl) hH ?_
            simp only [List.setIfInBounds_toArray, List.set_cons_zero, List.set_cons_succ]
            refine skipH 8 64 rfl (by kernel_rfl) (by kernel_rfl) (by kernel_rfl) (by kernel_rfl) (fun _ _ _ h => h) (by kernel_rfl) hH ?_
            simp only [List.setIfInBounds_toArray, List.set_cons_zero, List.set_cons_succ]
            refine skipH 9 65 rfl (by kernel_rfl) (by kernel_rfl) (by kernel_rfl) (by kernel_rfl) (fun _ _ _ h => h) (by kernel_rfl) hH ?_
            simp only [List.setIfInBounds_toArray, List.set_cons_zero, List.set_cons_succ]
            refine skipH 10 66 rfl (by kernel_rfl) (by kernel_rfl) (by kernel_rfl) (by kernel_rfl) (fun _ _ _ h => h) (by kernel_rfl) hH ?_
            simp only [List.setIfInBounds_toArray, List.set_cons_zero, List.set_cons_succ]
            refine skipH 11 67 rfl (by kernel_rfl) (by kernel_rfl) (by kernel_rfl) (by kernel_rfl) (fun _ _ _ h => h) (by kernel_rfl) hH ?_
            simp only [List.setIfInBounds_toArray, List.set_cons_zero, List.set_cons_succ]
            refine skipH 12 68 rfl (by kernel_rfl) (by kernel_rfl) (by kernel_rfl) (by kernel_rfl) (fun _ _ _ h => h) (by kernel_rfl) hH ?_
            simp only [List.setIfInBounds_toArray, List.set_cons_zero, List.set_cons_succ]
            refine takeH 13 69 (.bool false) rfl (by kernel_rfl) (by kernel_rfl) (by kernel_rfl) (by kernel_rfl) (fun _ _ _ h => h) (by kernel_rfl) (fun w hw => by (try dsimp only at hw); go_simp) hH ?_
            simp only [List.setIfInBounds_toArray, List.set_cons_zero, List.set_cons_succ]
            refine takeH 14 13 (.bool false) rfl (by kernel_rfl) (by kernel_rfl) (by kernel_rfl) (by kernel_rfl) (fun _ _ _ h => h) (by kernel_rfl) (fun w hw => by kernel_rfl) hH ?_
            simp only [List.setIfInBounds_toArray, List.set_cons_zero, List.set_cons_succ]
            refine wpAnyH_done (by kernel_rfl) ?_ _
            have H6 : Hid (LwAt w b gb g i d (some a) n zs t1 noT w5.drew) := Hid.mk (H5.out.new ((Below.refl _ _).drew))
            clear e0 e1 e2 hcj5 HS6 H5 hH
            go_wp2
            go_loopw [13, 14] (fun bv kv wr => ∃ k : Nat, bv = .bool false ∧ kv = .int .i64 k ∧ k ≤ j ∧ Hid (LwAt w b gb g i d (some a) n zs t1 noT wr)) (fun _ kv _ => j - (intOf kv).toNat)
            case atStart => exact ⟨0, rfl, rfl, Nat.zero_le _, H6⟩
            case round =>
              obtain ⟨k, rfl, rfl, hkj, HLK⟩ := hrel
              by_cases hlt3 : (k : Int) < (j : Int)
              · obtain ⟨k1, hk1⟩ : ∃ m, m = k + 1 := ⟨_, rfl⟩
                have v4 : IntKind.i64.wrap ((k : Int) + 1) = (k1 : Int) := by have := HNN.out; rw [IntKind.wrap_i64]; omega
                have HK1 : Hid (k1 = k + 1 ∧ k < j) := Hid.mk ⟨hk1, by omega⟩
                clear hk1 hkj
                go_wp2_with fail
                refine wp_region_held_drew (S := fun _ => True) (by kernel_rfl) trivial (fun hH => ?_)
                change wpAnyH Try.prog Region.Mode.any _ _ _ 13 _ _ _
                refine takeH 0 75 (.bool false) rfl (by kernel_rfl) (by kernel_rfl) (by kernel_rfl) (by kernel_rfl) (fun _ _ _ h => h) (by kernel_rfl) (fun w hw => by kernel_rfl) hH ?_
                simp only [List.setIfInBounds_toArray, List.set_cons_zero, List.set_cons_succ]
                refine takeH 1 76 (.bool false) rfl (by kernel_rfl) (by kernel_rfl) (by kernel_rfl) (by kernel_rfl) (fun _ _ _ h => h) (by kernel_rfl) (fun w hw => by kernel_rfl) hH ?_
                simp only [List.setIfInBounds_toArray, List.set_cons_zero, List.set_cons_succ]
                refine skipH 2 77 rfl (by kernel_rfl) (by kernel_rfl) (by kernel_rfl) (by kernel_rfl) (fun _ _ _ h => h) (by kernel_rfl) hH ?_
                simp only [List.setIfInBounds_toArray, List.set_cons_zero, List.set_cons_succ]
                refine skipH 3 78 rfl (by kernel_rfl) (by kernel_rfl) (by kernel_rfl) (by kernel_rfl) (fun _ _ _ h => h) (by kernel_rfl) hH ?_
                simp only [List.setIfInBounds_toArray, List.set_cons_zero, List.set_cons_succ]
                refine skipH 4 79 rfl (by kernel_rfl) (by kernel_rfl) (by kernel_rfl) (by kernel_rfl) (fun _ _ _ h => h) (by kernel_rfl) hH ?_
                simp only [List.setIfInBounds_toArray, List.set_cons_zero, List.set_cons_succ]
                refine skipH 5 80 rfl (by kernel_rfl) (by kernel_rfl) (by kernel_rfl) (by kernel_rfl) (fun _ _ _ h => h) (by kernel_rfl) hH ?_
                simp only [List.setIfInBounds_toArray, List.set_cons_zero, List.set_cons_succ]
                refine skipH 6 81 rfl (by kernel_rfl) (by kernel_rfl) (by kernel_rfl) (by kernel_rfl) (fun _ _ _ h => h) (by kernel_rfl) hH ?_
                simp only [List.setIfInBounds_toArray, List.set_cons_zero, List.set_cons_succ]
                refine skipH 7 82 rfl (by kernel_rfl) (by kernel_rfl) (by kernel_rfl) (by kernel_rfl) (fun _ _ _ h => h) (by kernel_rfl) hH ?_
                simp only [List.setIfInBounds_toArray, List.set_cons_zero, List.set_cons_succ]
                refine skipH 8 83 rfl (by kernel_rfl) (by kernel_rfl) (by kernel_rfl) (by kernel_rfl) (fun _ _ _ h => h) (by kernel_rfl) hH ?_
                simp only [List.setIfInBounds_toArray, List.set_cons_zero, List.set_cons_succ]
                refine skipH 9 84 rfl (by kernel_rfl) (by kernel_rfl) (by kernel_rfl) (by kernel_rfl) (fun _ _ _ h => h) (by kernel_rfl) hH ?_
                simp only [List.setIfInBounds_toArray, List.set_cons_zero, List.set_cons_succ]
                refine skipH 10 85 rfl (by kernel_rfl) (by kernel_rfl) (by kernel_rfl) (by kernel_rfl) (fun _ _ _ h => h) (by kernel_rfl) hH ?_
                simp only [List.setIfInBounds_toArray, List.set_cons_zero, List.set_cons_succ]
                refine takeH 11 86 (.bool false) rfl (by kernel_rfl) (by kernel_rfl) (by kernel_rfl) (by kernel_rfl) (fun _ _ _ h => h) (by kernel_rfl) (fun w hw => by (try dsimp only at hw); go_simp) hH ?_
                simp only [List.setIfInBounds_toArray, List.set_cons_zero, List.set_cons_succ]
                refine takeH 12 13 (.bool false) rfl (by kernel_rfl) (by kernel_rfl) (by kernel_rfl) (by kernel_rfl) (fun _ _ _ h => h) (by kernel_rfl) (fun w hw => by kernel_rfl) hH ?_
                simp only [List.setIfInBounds_toArray, List.set_cons_zero, List.set_cons_succ]
                refine wpAnyH_done (by kernel_rfl) ?_ _
                go_wp2
                go_roundw
                case rel => exact ⟨k1, rfl, rfl, by have := HK1.out; omega, Hid.mk (HLK.out.new ((Below.refl _ _).drew))⟩
                case measure => (have := HK1.out; simp [intOf]; omega)
              · clear hkj
                have hcj2 : wr.cell? (a.add j) = some (.int .i64 0) := by (obtain ⟨a', e', hc⟩ := HLK.out.at j (by omega); cases e'; rw [HX.out]; exact hc)
                go_wp2
                exact ⟨⟨_, _, _, _, ⟨j1, rfl, ls, rfl, nn, rfl, Hid.mk ⟨by have := HJ1.out; omega, t1, HLK.out, HSAME.out⟩⟩, rfl, rfl, rfl, rfl⟩, by (have := HJ1.out; simp [intOf]; omega)⟩
          have hx0 : (x == 0) = false := by simpa using c0
          by_cases c1 : (1 : Int) ≤ x
          case neg =>
            have hgr : grB (g : Int) (i : Int) (d : Int) x = false := by
              cases h : grB (g : Int) (i : Int) (d : Int) x with
              | false => rfl
              | true => exact absurd ((HGR.out x).1 h).1 c1
            have HSAME : Hid (BkAt N j1 zs t1 ls nn) := Hid.mk (HBK0.out.same HJ1.out.1 (fun m hm _ => by rw [← HX.out]; omega))
            have HGV : Hid (Calls Try.prog 17 #[.pointer (some ⟨b, 0, none⟩), .int .i64 x, .int .i64 0] wr fun e w' => e = .returned (.bool false) ∧ Hid (LwAt w b gb g i d (some a) n zs t1 noT w')) := Hid.mk (by
              have e1 : tnI g i d t1 x false = false := by unfold tnI; rw [hgr, decide_eq_false c0]; rfl
              have e2 : tuI g i d t1 noT x 0 false = t1 := by unfold tuI; rw [tnG_zero, e1, if_neg (by simp)]
              have := HGV0.out
              rw [e1, e2] at this
              exact this)
            clear HGV0 HBK0 hgr
            go_wp2_with (go_at_call 17; refine HGV.out.mono ?_; rintro e w5 ⟨rfl, H5⟩)
            obtain ⟨e0, e1, e2⟩ := H5.out.ge.g3
            have hcj5 : w5.cell? (a.add j) = some (.int .i64 x) := by (obtain ⟨a', e', hc⟩ := H5.out.at j (by omega); cases e'; rw [HX.out]; exact hc)
            have HS6 : Hid (∀ W, Below w5.drew.heap.size w5.drew W → W.cell? (a.add j) = some (.int .i64 x) ∧ G3 gb g i d W) := Hid.mk (fun W hB => by (have h := H5.out.new (W' := W) ⟨hB.os, hB.tape, hB.output, hB.size, hB.block⟩; exact ⟨by (obtain ⟨a', e', hc⟩ := h.at j (by omega); cases e'; rw [HX.out]; exact hc), h.ge.g3⟩))
            refine wp_region_held_drew (S := fun W => W.cell? (a.add j) = some (.int .i64 x) ∧ G3 gb g i d W) (by kernel_rfl) ⟨hcj5, e0, e1, e2⟩ (fun hH => ?_)
            change wpAnyH Try.prog Region.Mode.any _ _ _ 15 _ _ _
            refine takeH 0 56 (.slice (some a) n c) rfl (by kernel_rfl) (by kernel_rfl) (by kernel_rfl) (by kernel_rfl) (fun _ _ _ h => h) (by kernel_rfl) (fun w hw => by kernel_rfl) hH ?_
            simp only [List.setIfInBounds_toArray, List.set_cons_zero, List.set_cons_succ]
            refine takeH 1 57 (.int .i64 j) rfl (by kernel_rfl) (by kernel_rfl) (by kernel_rfl) (by kernel_rfl) (fun _ _ _ h => h) (by kernel_rfl) (fun w hw => by kernel_rfl) hH ?_
            simp only [List.setIfInBounds_toArray, List.set_cons_zero, List.set_cons_succ]
            refine takeH 2 58 (.pointer (some (a.add j))) rfl (by kernel_rfl) (by kernel_rfl) (by kernel_rfl) (by kernel_rfl) (fun _ _ _ h => h) (by kernel_rfl) (fun w hw => by (try dsimp only at hw); go_simp) hH ?_
            simp only [List.setIfInBounds_toArray, List.set_cons_zero, List.set_cons_succ]
            refine takeH 3 59 (.int .i64 x) rfl (by kernel_rfl) (by kernel_rfl) (by kernel_rfl) (by kernel_rfl) (fun _ _ _ h => h) (by kernel_rfl) (fun w hw => by (try dsimp only at hw); go_simp) hH ?_
            simp only [List.setIfInBounds_toArray, List.set_cons_zero, List.set_cons_succ]
            refine takeH 4 60 (.bool false) rfl (by kernel_rfl) (by kernel_rfl) (by kernel_rfl) (by kernel_rfl) (fun _ _ _ h => h) (by kernel_rfl) (fun w hw => by (try dsimp only at hw); go_simp) hH ?_
            simp only [List.setIfInBounds_toArray, List.set_cons_zero, List.set_cons_succ]
            refine takeH 5 61 (.bool false) rfl (by kernel_rfl) (by kernel_rfl) (by kernel_rfl) (by kernel_rfl) (fun _ _ _ h => h) (by kernel_rfl) (fun w hw => by kernel_rfl) hH ?_
            simp only [List.setIfInBounds_toArray, List.set_cons_zero, List.set_cons_succ]
            refine skipH 6 62 rfl (by kernel_rfl) (by kernel_rfl) (by kernel_rfl) (by kernel_rfl) (fun _ _ _ h => h) (by kernel_rfl) hH ?_
            simp only [List.setIfInBounds_toArray, List.set_cons_zero, List.set_cons_succ]
            refine skipH 7 63 rfl (by kernel_rfl) (by kernel_rfl) (by kernel_rfl) (by kernel_rfl) (fun _ _ _ h => h) (by kernel_rfl) hH ?_
            simp only [List.setIfInBounds_toArray, List.set_cons_zero, List.set_cons_succ]
            refine skipH 8 64 rfl (by kernel_rfl) (by kernel_rfl) (by kernel_rfl) (by kernel_rfl) (fun _ _ _ h => h) (by kernel_rfl) hH ?_
            simp only [List.setIfInBounds_toArray, List.set_cons_zero, List.set_cons_succ]
            refine skipH 9 65 rfl (by kernel_rfl) (by kernel_rfl) (by kernel_rfl) (by kernel_rfl) (fun _ _ _ h => h) (by kernel_rfl) hH ?_
            simp only [List.setIfInBounds_toArray, List.set_cons_zero, List.set_cons_succ]
            refine skipH 10 66 rfl (by kernel_rfl) (by kernel_rfl) (by kernel_rfl) (by kernel_rfl) (fun _ _ _ h => h) (by kernel_rfl) hH ?_
            simp only [List.setIfInBounds_toArray, List.set_cons_zero, List.set_cons_succ]
            refine skipH 11 67 rfl (by kernel_rfl) (by kernel_rfl) (by kernel_rfl) (by kernel_rfl) (fun _ _ _ h => h) (by kernel_rfl) hH ?_
            simp only [List.setIfInBounds_toArray, List.set_cons_zero, List.set_cons_succ]
            refine skipH 12 68 rfl (by kernel_rfl) (by kernel_rfl) (by kernel_rfl) (by kernel_rfl) (fun _ _ _ h => h) (by kernel_rfl) hH ?_
            simp only [List.setIfInBounds_toArray, List.set_cons_zero, List.set_cons_succ]
            refine takeH 13 69 (.bool false) rfl (by kernel_rfl) (by kernel_rfl) (by kernel_rfl) (by kernel_rfl) (fun _ _ _ h => h) (by kernel_rfl) (fun w hw => by (try dsimp only at hw); go_simp) hH ?_
            simp only [List.setIfInBounds_toArray, List.set_cons_zero, List.set_cons_succ]
            refine takeH 14 13 (.bool false) rfl (by kernel_rfl) (by kernel_rfl) (by kernel_rfl) (by kernel_rfl) (fun _ _ _ h => h) (by kernel_rfl) (fun w hw => by kernel_rfl) hH ?_
            simp only [List.setIfInBounds_toArray, List.set_cons_zero, List.set_cons_succ]
            refine wpAnyH_done (by kernel_rfl) ?_ _
            have H6 : Hid (LwAt w b gb g i d (some a) n zs t1 noT w5.drew) := Hid.mk (H5.out.new ((Below.refl _ _).drew))
            clear e0 e1 e2 hcj5 HS6 H5 hH
            go_wp2
            go_loopw [13, 14] (fun bv kv wr => ∃ k : Nat, bv = .bool false ∧ kv = .int .i64 k ∧ k ≤ j ∧ Hid (LwAt w b gb g i d (some a) n zs t1 noT wr)) (fun _ kv _ => j - (intOf kv).toNat)
            case atStart => exact ⟨0, rfl, rfl, Nat.zero_le _, H6⟩
            case round =>
              obtain ⟨k, rfl, rfl, hkj, HLK⟩ := hrel
              by_cases hlt3 : (k : Int) < (j : Int)
              · obtain ⟨k1, hk1⟩ : ∃ m, m = k + 1 := ⟨_, rfl⟩
                have v4 : IntKind.i64.wrap ((k : Int) + 1) = (k1 : Int) := by have := HNN.out; rw [IntKind.wrap_i64]; omega
                have HK1 : Hid (k1 = k + 1 ∧ k < j) := Hid.mk ⟨hk1, by omega⟩
                clear hk1 hkj
                go_wp2_with fail
                refine wp_region_held_drew (S := fun _ => True) (by kernel_rfl) trivial (fun hH => ?_)
                change wpAnyH Try.prog Region.Mode.any _ _ _ 13 _ _ _
                refine takeH 0 75 (.bool false) rfl (by kernel_rfl) (by kernel_rfl) (by kernel_rfl) (by kernel_rfl) (fun _ _ _ h => h) (by kernel_rfl) (fun w hw => by kernel_rfl) hH ?_
                simp only [List.setIfInBounds_toArray, List.set_cons_zero, List.set_cons_succ]
                refine takeH 1 76 (.bool false) rfl (by kernel_rfl) (by kernel_rfl) (by kernel_rfl) (by kernel_rfl) (fun _ _ _ h => h) (by kernel_rfl) (fun w hw => by kernel_rfl) hH ?_
                simp only [List.setIfInBounds_toArray, List.set_cons_zero, List.set_cons_succ]
                refine skipH 2 77 rfl (by kernel_rfl) (by kernel_rfl) (by kernel_rfl) (by kernel_rfl) (fun _ _ _ h => h) (by kernel_rfl) hH ?_
                simp only [List.setIfInBounds_toArray, List.set_cons_zero, List.set_cons_succ]
                refine skipH 3 78 rfl (by kernel_rfl) (by kernel_rfl) (by kernel_rfl) (by kernel_rfl) (fun _ _ _ h => h) (by kernel_rfl) hH ?_
                simp only [List.setIfInBounds_toArray, List.set_cons_zero, List.set_cons_succ]
                refine skipH 4 79 rfl (by kernel_rfl) (by kernel_rfl) (by kernel_rfl) (by kernel_rfl) (fun _ _ _ h => h) (by kernel_rfl) hH ?_
                simp only [List.setIfInBounds_toArray, List.set_cons_zero, List.set_cons_succ]
                refine skipH 5 80 rfl (by kernel_rfl) (by kernel_rfl) (by kernel_rfl) (by kernel_rfl) (fun _ _ _ h => h) (by kernel_rfl) hH ?_
                simp only [List.setIfInBounds_toArray, List.set_cons_zero, List.set_cons_succ]
                refine skipH 6 81 rfl (by kernel_rfl) (by kernel_rfl) (by kernel_rfl) (by kernel_rfl) (fun _ _ _ h => h) (by kernel_rfl) hH ?_
                simp only [List.setIfInBounds_toArray, List.set_cons_zero, List.set_cons_succ]
                refine skipH 7 82 rfl (by kernel_rfl) (by kernel_rfl) (by kernel_rfl) (by kernel_rfl) (fun _ _ _ h => h) (by kernel_rfl) hH ?_
                simp only [List.setIfInBounds_toArray, List.set_cons_zero, List.set_cons_succ]
                refine skipH 8 83 rfl (by kernel_rfl) (by kernel_rfl) (by kernel_rfl) (by kernel_rfl) (fun _ _ _ h => h) (by kernel_rfl) hH ?_
                simp only [List.setIfInBounds_toArray, List.set_cons_zero, List.set_cons_succ]
                refine skipH 9 84 rfl (by kernel_rfl) (by kernel_rfl) (by kernel_rfl) (by kernel_rfl) (fun _ _ _ h => h) (by kernel_rfl) hH ?_
                simp only [List.setIfInBounds_toArray, List.set_cons_zero, List.set_cons_succ]
                refine skipH 10 85 rfl (by kernel_rfl) (by kernel_rfl) (by kernel_rfl) (by kernel_rfl) (fun _ _ _ h => h) (by kernel_rfl) hH ?_
                simp only [List.setIfInBounds_toArray, List.set_cons_zero, List.set_cons_succ]
                refine takeH 11 86 (.bool false) rfl (by kernel_rfl) (by kernel_rfl) (by kernel_rfl) (by kernel_rfl) (fun _ _ _ h => h) (by kernel_rfl) (fun w hw => by (try dsimp only at hw); go_simp) hH ?_
                simp only [List.setIfInBounds_toArray, List.set_cons_zero, List.set_cons_succ]
                refine takeH 12 13 (.bool false) rfl (by kernel_rfl) (by kernel_rfl) (by kernel_rfl) (by kernel_rfl) (fun _ _ _ h => h) (by kernel_rfl) (fun w hw => by kernel_rfl) hH ?_
                simp only [List.setIfInBounds_toArray, List.set_cons_zero, List.set_cons_succ]
                refine wpAnyH_done (by kernel_rfl) ?_ _
                go_wp2
                go_roundw
                case rel => exact ⟨k1, rfl, rfl, by have := HK1.out; omega, Hid.mk (HLK.out.new ((Below.refl _ _).drew))⟩
                case measure => (have := HK1.out; simp [intOf]; omega)
              · clear hkj
                have hcj2 : wr.cell? (a.add j) = some (.int .i64 x) := by (obtain ⟨a', e', hc⟩ := HLK.out.at j (by omega); cases e'; rw [HX.out]; exact hc)
                go_wp2
                exact ⟨⟨_, _, _, _, ⟨j1, rfl, ls, rfl, nn, rfl, Hid.mk ⟨by have := HJ1.out; omega, t1, HLK.out, HSAME.out⟩⟩, rfl, rfl, rfl, rfl⟩, by (have := HJ1.out; simp [intOf]; omega)⟩
          by_cases c2 : x ≤ (N : Int)
          case neg =>
            have hgr : grB (g : Int) (i : Int) (d : Int) x = false := by
              cases h : grB (g : Int) (i : Int) (d : Int) x with
              | false => rfl
              | true => exact absurd ((HGR.out x).1 h).2 c2
            have HSAME : Hid (BkAt N j1 zs t1 ls nn) := Hid.mk (HBK0.out.same HJ1.out.1 (fun m hm _ => by rw [← HX.out]; omega))
            have HGV : Hid (Calls Try.prog 17 #[.pointer (some ⟨b, 0, none⟩), .int .i64 x, .int .i64 0] wr fun e w' => e = .returned (.bool false) ∧ Hid (LwAt w b gb g i d (some a) n zs t1 noT w')) := Hid.mk (by
              have e1 : tnI g i d t1 x false = false := by unfold tnI; rw [hgr, decide_eq_false c0]; rfl
              have e2 : tuI g i d t1 noT x 0 false = t1 := by unfold tuI; rw [tnG_zero, e1, if_neg (by simp)]
              have := HGV0.out
              rw [e1, e2] at this
              exact this)
            clear HGV0 HBK0 hgr
            go_wp2_with (go_at_call 17; refine HGV.out.mono ?_; rintro e w5 ⟨rfl, H5⟩)
            obtain ⟨e0, e1, e2⟩ := H5.out.ge.g3
            have hcj5 : w5.cell? (a.add j) = some (.int .i64 x) := by (obtain ⟨a', e', hc⟩ := H5.out.at j (by omega); cases e'; rw [HX.out]; exact hc)
            have HS6 : Hid (∀ W, Below w5.drew.heap.size w5.drew W → W.cell? (a.add j) = some (.int .i64 x) ∧ G3 gb g i d W) := Hid.mk (fun W hB => by (have h := H5.out.new (W' := W) ⟨hB.os, hB.tape, hB.output, hB.size, hB.block⟩; exact ⟨by (obtain ⟨a', e', hc⟩ := h.at j (by omega); cases e'; rw [HX.out]; exact hc), h.ge.g3⟩))
            refine wp_region_held_drew (S := fun W => W.cell? (a.add j) = some (.int .i64 x) ∧ G3 gb g i d W) (by kernel_rfl) ⟨hcj5, e0, e1, e2⟩ (fun hH => ?_)
            change wpAnyH Try.prog Region.Mode.any _ _ _ 15 _ _ _
            refine takeH 0 56 (.slice (some a) n c) rfl (by kernel_rfl) (by kernel_rfl) (by kernel_rfl) (by kernel_rfl) (fun _ _ _ h => h) (by kernel_rfl) (fun w hw => by kernel_rfl) hH ?_
            simp only [List.setIfInBounds_toArray, List.set_cons_zero, List.set_cons_succ]
            refine takeH 1 57 (.int .i64 j) rfl (by kernel_rfl) (by kernel_rfl) (by kernel_rfl) (by kernel_rfl) (fun _ _ _ h => h) (by kernel_rfl) (fun w hw => by kernel_rfl) hH ?_
            simp only [List.setIfInBounds_toArray, List.set_cons_zero, List.set_cons_succ]
            refine takeH 2 58 (.pointer (some (a.add j))) rfl (by kernel_rfl) (by kernel_rfl) (by kernel_rfl) (by kernel_rfl) (fun _ _ _ h => h) (by kernel_rfl) (fun w hw => by (try dsimp only at hw); go_simp) hH ?_
            simp only [List.setIfInBounds_toArray, List.set_cons_zero, List.set_cons_succ]
            refine takeH 3 59 (.int .i64 x) rfl (by kernel_rfl) (by kernel_rfl) (by kernel_rfl) (by kernel_rfl) (fun _ _ _ h => h) (by kernel_rfl) (fun w hw => by (try dsimp only at hw); go_simp) hH ?_
            simp only [List.setIfInBounds_toArray, List.set_cons_zero, List.set_cons_succ]
            refine takeH 4 60 (.bool true) rfl (by kernel_rfl) (by kernel_rfl) (by kernel_rfl) (by kernel_rfl) (fun _ _ _ h => h) (by kernel_rfl) (fun w hw => by (try dsimp only at hw); go_simp) hH ?_
            simp only [List.setIfInBounds_toArray, List.set_cons_zero, List.set_cons_succ]
            refine takeH 5 61 (.bool true) rfl (by kernel_rfl) (by kernel_rfl) (by kernel_rfl) (by kernel_rfl) (fun _ _ _ h => h) (by kernel_rfl) (fun w hw => by kernel_rfl) hH ?_
            simp only [List.setIfInBounds_toArray, List.set_cons_zero, List.set_cons_succ]
            refine takeH 6 62 (.slice (some a) n c) rfl (by kernel_rfl) (by kernel_rfl) (by kernel_rfl) (by kernel_rfl) (fun _ _ _ h => h) (by kernel_rfl) (fun w hw => by kernel_rfl) hH ?_
            simp only [List.setIfInBounds_toArray, List.set_cons_zero, List.set_cons_succ]
            refine takeH 7 63 (.int .i64 j) rfl (by kernel_rfl) (by kernel_rfl) (by kernel_rfl) (by kernel_rfl) (fun _ _ _ h => h) (by kernel_rfl) (fun w hw => by kernel_rfl) hH ?_
            simp only [List.setIfInBounds_toArray, List.set_cons_zero, List.set_cons_succ]
            refine takeH 8 64 (.pointer (some (a.add j))) rfl (by kernel_rfl) (by kernel_rfl) (by kernel_rfl) (by kernel_rfl) (fun _ _ _ h => h) (by kernel_rfl) (fun w hw => by (try dsimp only at hw); go_simp) hH ?_
            simp only [List.setIfInBounds_toArray, List.set_cons_zero, List.set_cons_succ]
            refine takeH 9 65 (.int .i64 x) rfl (by kernel_rfl) (by kernel_rfl) (by kernel_rfl) (by kernel_rfl) (fun _ _ _ h => h) (by kernel_rfl) (fun w hw => by (try dsimp only at hw); go_simp) hH ?_
            simp only [List.setIfInBounds_toArray, List.set_cons_zero, List.set_cons_succ]
            refine takeH 10 66 (geo g i d) rfl (by kernel_rfl) (by kernel_rfl) (by kernel_rfl) (by kernel_rfl) (fun _ _ _ h => h) (by kernel_rfl) (fun w hw => by (try dsimp only at hw); go_simp) hH ?_
            simp only [List.setIfInBounds_toArray, List.set_cons_zero, List.set_cons_succ]
            refine stepH_call 11 67 rfl (by kernel_rfl) (by kernel_rfl) (by kernel_rfl) 22 #[.tmp 66] #[23] (by kernel_rfl) (enters_of Try.func22 (by kernel_rfl) rfl) #[geo g i d] (by kernel_rfl) (HRI.out _) ?_
            rintro e w6 ⟨rfl, hB6⟩
            have hH6 := HS6.out _ hB6
            refine ⟨_, rfl, hH6, ?_⟩
            simp only [List.setIfInBounds_toArray, List.set_cons_zero, List.set_cons_succ]
            refine takeH 12 68 (.bool false) rfl (by kernel_rfl) (by kernel_rfl) (by kernel_rfl) (by kernel_rfl) (fun _ _ _ h => h) (by kernel_rfl) (fun w hw => by (try dsimp only at hw); go_simp) hH6 ?_
            simp only [List.setIfInBounds_toArray, List.set_cons_zero, List.set_cons_succ]
            refine takeH 13 69 (.bool false) rfl (by kernel_rfl) (by kernel_rfl) (by kernel_rfl) (by kernel_rfl) (fun _ _ _ h => h) (by kernel_rfl) (fun w hw => by (try dsimp only at hw); go_simp) hH6 ?_
            simp only [List.setIfInBounds_toArray, List.set_cons_zero, List.set_cons_succ]
            refine takeH 14 13 (.bool false) rfl (by kernel_rfl) (by kernel_rfl) (by kernel_rfl) (by kernel_rfl) (fun _ _ _ h => h) (by kernel_rfl) (fun w hw => by kernel_rfl) hH6 ?_
            simp only [List.setIfInBounds_toArray, List.set_cons_zero, List.set_cons_succ]
            refine wpAnyH_done (by kernel_rfl) ?_ _
            have H6 : Hid (LwAt w b gb g i d (some a) n zs t1 noT w6) := Hid.mk (H5.out.new ⟨hB6.os, hB6.tape, hB6.output, hB6.size, hB6.block⟩)
            clear e0 e1 e2 hcj5 HS6 H5 hH hB6 hH6
            go_wp2
            go_loopw [13, 14] (fun bv kv wr => ∃ k : Nat, bv = .bool false ∧ kv = .int .i64 k ∧ k ≤ j ∧ Hid (LwAt w b gb g i d (some a) n zs t1 noT wr)) (fun _ kv _ => j - (intOf kv).toNat)
            case atStart => exact ⟨0, rfl, rfl, Nat.zero_le _, H6⟩
            case round =>
              obtain ⟨k, rfl, rfl, hkj, HLK⟩ := hrel
              by_cases hlt3 : (k : Int) < (j : Int)
              · obtain ⟨k1, hk1⟩ : ∃ m, m = k + 1 := ⟨_, rfl⟩
                have v4 : IntKind.i64.wrap ((k : Int) + 1) = (k1 : Int) := by have := HNN.out; rw [IntKind.wrap_i64]; omega
                have HK1 : Hid (k1 = k + 1 ∧ k < j) := Hid.mk ⟨hk1, by omega⟩
                clear hk1 hkj
                go_wp2_with fail
                refine wp_region_held_drew (S := fun _ => True) (by kernel_rfl) trivial (fun hH => ?_)
                change wpAnyH Try.prog Region.Mode.any _ _ _ 13 _ _ _
                refine takeH 0 75 (.bool false) rfl (by kernel_rfl) (by kernel_rfl) (by kernel_rfl) (by kernel_rfl) (fun _ _ _ h => h) (by kernel_rfl) (fun w hw => by kernel_rfl) hH ?_
                simp only [List.setIfInBounds_toArray, List.set_cons_zero, List.set_cons_succ]
                refine takeH 1 76 (.bool false) rfl (by kernel_rfl) (by kernel_rfl) (by kernel_rfl) (by kernel_rfl) (fun _ _ _ h => h) (by kernel_rfl) (fun w hw => by kernel_rfl) hH ?_
                simp only [List.setIfInBounds_toArray, List.set_cons_zero, List.set_cons_succ]
                refine skipH 2 77 rfl (by kernel_rfl) (by kernel_rfl) (by kernel_rfl) (by kernel_rfl) (fun _ _ _ h => h) (by kernel_rfl) hH ?_
                simp only [List.setIfInBounds_toArray, List.set_cons_zero, List.set_cons_succ]
                refine skipH 3 78 rfl (by kernel_rfl) (by kernel_rfl) (by kernel_rfl) (by kernel_rfl) (fun _ _ _ h => h) (by kernel_rfl) hH ?_
                simp only [List.setIfInBounds_toArray, List.set_cons_zero, List.set_cons_succ]
                refine skipH 4 79 rfl (by kernel_rfl) (by kernel_rfl) (by kernel_rfl) (by kernel_rfl) (fun _ _ _ h => h) (by kernel_rfl) hH ?_
                simp only [List.setIfInBounds_toArray, List.set_cons_zero, List.set_cons_succ]
                refine skipH 5 80 rfl (by kernel_rfl) (by kernel_rfl) (by kernel_rfl) (by kernel_rfl) (fun _ _ _ h => h) (by kernel_rfl) hH ?_
                simp only [List.setIfInBounds_toArray, List.set_cons_zero, List.set_cons_succ]
                refine skipH 6 81 rfl (by kernel_rfl) (by kernel_rfl) (by kernel_rfl) (by kernel_rfl) (fun _ _ _ h => h) (by kernel_rfl) hH ?_
                simp only [List.setIfInBounds_toArray, List.set_cons_zero, List.set_cons_succ]
                refine skipH 7 82 rfl (by kernel_rfl) (by kernel_rfl) (by kernel_rfl) (by kernel_rfl) (fun _ _ _ h => h) (by kernel_rfl) hH ?_
                simp only [List.setIfInBounds_toArray, List.set_cons_zero, List.set_cons_succ]
                refine skipH 8 83 rfl (by kernel_rfl) (by kernel_rfl) (by kernel_rfl) (by kernel_rfl) (fun _ _ _ h => h) (by kernel_rfl) hH ?_
                simp only [List.setIfInBounds_toArray, List.set_cons_zero, List.set_cons_succ]
                refine skipH 9 84 rfl (by kernel_rfl) (by kernel_rfl) (by kernel_rfl) (by kernel_rfl) (fun _ _ _ h => h) (by kernel_rfl) hH ?_
                simp only [List.setIfInBounds_toArray, List.set_cons_zero, List.set_cons_succ]
                refine skipH 10 85 rfl (by kernel_rfl) (by kernel_rfl) (by kernel_rfl) (by kernel_rfl) (fun _ _ _ h => h) (by kernel_rfl) hH ?_
                simp only [List.setIfInBounds_toArray, List.set_cons_zero, List.set_cons_succ]
                refine takeH 11 86 (.bool false) rfl (by kernel_rfl) (by kernel_rfl) (by kernel_rfl) (by kernel_rfl) (fun _ _ _ h => h) (by kernel_rfl) (fun w hw => by (try dsimp only at hw); go_simp) hH ?_
                simp only [List.setIfInBounds_toArray, List.set_cons_zero, List.set_cons_succ]
                refine takeH 12 13 (.bool false) rfl (by kernel_rfl) (by kernel_rfl) (by kernel_rfl) (by kernel_rfl) (fun _ _ _ h => h) (by kernel_rfl) (fun w hw => by kernel_rfl) hH ?_
                simp only [List.setIfInBounds_toArray, List.set_cons_zero, List.set_cons_succ]
                refine wpAnyH_done (by kernel_rfl) ?_ _
                go_wp2
                go_roundw
                case rel => exact ⟨k1, rfl, rfl, by have := HK1.out; omega, Hid.mk (HLK.out.new ((Below.refl _ _).drew))⟩
                case measure => (have := HK1.out; simp [intOf]; omega)
              · clear hkj
                have hcj2 : wr.cell? (a.add j) = some (.int .i64 x) := by (obtain ⟨a', e', hc⟩ := HLK.out.at j (by omega); cases e'; rw [HX.out]; exact hc)
                go_wp2
                exact ⟨⟨_, _, _, _, ⟨j1, rfl, ls, rfl, nn, rfl, Hid.mk ⟨by have := HJ1.out; omega, t1, HLK.out, HSAME.out⟩⟩, rfl, rfl, rfl, rfl⟩, by (have := HJ1.out; simp [intOf]; omega)⟩
          obtain ⟨p, hp⟩ : ∃ p : Nat, x = ((p + 1 : Nat) : Int) := ⟨(x - 1).toNat, by omega⟩
          have hpN : p < N := by omega
          have hpt : (x - 1).toNat = p := by omega
          have hgr : grB (g : Int) (i : Int) (d : Int) x = true := (HGR.out x).2 ⟨c1, c2⟩
          have htp := HBK0.out.t p hpN
          rw [← hp] at htp
          by_cases c3 : ∀ q, q < j → zs.getD q 0 ≠ x
          case neg =>
            rw [decide_eq_false c3] at htp
            have HSAME : Hid (BkAt N j1 zs t1 ls nn) := Hid.mk (HBK0.out.same HJ1.out.1 (fun m hm ht => by
              rw [← HX.out]
              intro e
              obtain rfl : m = p := by omega
              rw [ht] at htp
              cases htp))
            have HGV : Hid (Calls Try.prog 17 #[.pointer (some ⟨b, 0, none⟩), .int .i64 x, .int .i64 0] wr fun e w' => e = .returned (.bool false) ∧ Hid (LwAt w b gb g i d (some a) n zs t1 noT w')) := Hid.mk (by
              have e1 : tnI g i d t1 x false = false := by unfold tnI; rw [hgr, decide_eq_false c0, hpt, htp]; rfl
              have e2 : tuI g i d t1 noT x 0 false = t1 := by unfold tuI; rw [tnG_zero, e1, if_neg (by simp)]
              have := HGV0.out
              rw [e1, e2] at this
              exact this)
            have HISV : Hid (decide (∀ q, q < j → zs.getD q 0 ≠ x) = false) := Hid.mk (decide_eq_false c3)
            clear HGV0 HBK0 hgr htp hpt hpN hp c3
            go_wp2_with (go_at_call 17; refine HGV.out.mono ?_; rintro e w5 ⟨rfl, H5⟩)
            obtain ⟨e0, e1, e2⟩ := H5.out.ge.g3
            have hcj5 : w5.cell? (a.add j) = some (.int .i64 x) := by (obtain ⟨a', e', hc⟩ := H5.out.at j (by omega); cases e'; rw [HX.out]; exact hc)
            have HS6 : Hid (∀ W, Below w5.drew.heap.size w5.drew W → W.cell? (a.add j) = some (.int .i64 x) ∧ G3 gb g i d W) := Hid.mk (fun W hB => by (have h := H5.out.new (W' := W) ⟨hB.os, hB.tape, hB.output, hB.size, hB.block⟩; exact ⟨by (obtain ⟨a', e', hc⟩ := h.at j (by omega); cases e'; rw [HX.out]; exact hc), h.ge.g3⟩))
            refine wp_region_held_drew (S := fun W => W.cell? (a.add j) = some (.int .i64 x) ∧ G3 gb g i d W) (by kernel_rfl) ⟨hcj5, e0, e1, e2⟩ (fun hH => ?_)
            change wpAnyH Try.prog Region.Mode.any _ _ _ 15 _ _ _
            refine takeH 0 56 (.slice (some a) n c) rfl (by kernel_rfl) (by kernel_rfl) (by kernel_rfl) (by kernel_rfl) (fun _ _ _ h => h) (by kernel_rfl) (fun w hw => by kernel_rfl) hH ?_
            simp only [List.setIfInBounds_toArray, List.set_cons_zero, List.set_cons_succ]
            refine takeH 1 57 (.int .i64 j) rfl (by kernel_rfl) (by kernel_rfl) (by kernel_rfl) (by kernel_rfl) (fun _ _ _ h => h) (by kernel_rfl) (fun w hw => by kernel_rfl) hH ?_
            simp only [List.setIfInBounds_toArray, List.set_cons_zero, List.set_cons_succ]
            refine takeH 2 58 (.pointer (some (a.add j))) rfl (by kernel_rfl) (by kernel_rfl) (by kernel_rfl) (by kernel_rfl) (fun _ _ _ h => h) (by kernel_rfl) (fun w hw => by (try dsimp only at hw); go_simp) hH ?_
            simp only [List.setIfInBounds_toArray, List.set_cons_zero, List.set_cons_succ]
            refine takeH 3 59 (.int .i64 x) rfl (by kernel_rfl) (by kernel_rfl) (by kernel_rfl) (by kernel_rfl) (fun _ _ _ h => h) (by kernel_rfl) (fun w hw => by (try dsimp only at hw); go_simp) hH ?_
            simp only [List.setIfInBounds_toArray, List.set_cons_zero, List.set_cons_succ]
            refine takeH 4 60 (.bool true) rfl (by kernel_rfl) (by kernel_rfl) (by kernel_rfl) (by kernel_rfl) (fun _ _ _ h => h) (by kernel_rfl) (fun w hw => by (try dsimp only at hw); go_simp) hH ?_
            simp only [List.setIfInBounds_toArray, List.set_cons_zero, List.set_cons_succ]
            refine takeH 5 61 (.bool true) rfl (by kernel_rfl) (by kernel_rfl) (by kernel_rfl) (by kernel_rfl) (fun _ _ _ h => h) (by kernel_rfl) (fun w hw => by kernel_rfl) hH ?_
            simp only [List.setIfInBounds_toArray, List.set_cons_zero, List.set_cons_succ]
            refine takeH 6 62 (.slice (some a) n c) rfl (by kernel_rfl) (by kernel_rfl) (by kernel_rfl) (by kernel_rfl) (fun _ _ _ h => h) (by kernel_rfl) (fun w hw => by kernel_rfl) hH ?_
            simp only [List.setIfInBounds_toArray, List.set_cons_zero, List.set_cons_succ]
            refine takeH 7 63 (.int .i64 j) rfl (by kernel_rfl) (by kernel_rfl) (by kernel_rfl) (by kernel_rfl) (fun _ _ _ h => h) (by kernel_rfl) (fun w hw => by kernel_rfl) hH ?_
            simp only [List.setIfInBounds_toArray, List.set_cons_zero, List.set_cons_succ]
            refine takeH 8 64 (.pointer (some (a.add j))) rfl (by kernel_rfl) (by kernel_rfl) (by kernel_rfl) (by kernel_rfl) (fun _ _ _ h => h) (by kernel_rfl) (fun w hw => by (try dsimp only at hw); go_simp) hH ?_
            simp only [List.setIfInBounds_toArray, List.set_cons_zero, List.set_cons_succ]
            refine takeH 9 65 (.int .i64 x) rfl (by kernel_rfl) (by kernel_rfl) (by kernel_rfl) (by kernel_rfl) (fun _ _ _ h => h) (by kernel_rfl) (fun w hw => by (try dsimp only at hw); go_simp) hH ?_
            simp only [List.setIfInBounds_toArray, List.set_cons_zero, List.set_cons_succ]
            refine takeH 10 66 (geo g i d) rfl (by kernel_rfl) (by kernel_rfl) (by kernel_rfl) (by kernel_rfl) (fun _ _ _ h => h) (by kernel_rfl) (fun w hw => by (try dsimp only at hw); go_simp) hH ?_
            simp only [List.setIfInBounds_toArray, List.set_cons_zero, List.set_cons_succ]
            refine stepH_call 11 67 rfl (by kernel_rfl) (by kernel_rfl) (by kernel_rfl) 22 #[.tmp 66] #[23] (by kernel_rfl) (enters_of Try.func22 (by kernel_rfl) rfl) #[geo g i d] (by kernel_rfl) (HRI.out _) ?_
            rintro e w6 ⟨rfl, hB6⟩
            have hH6 := HS6.out _ hB6
            refine ⟨_, rfl, hH6, ?_⟩
            simp only [List.setIfInBounds_toArray, List.set_cons_zero, List.set_cons_succ]
            refine takeH 12 68 (.bool true) rfl (by kernel_rfl) (by kernel_rfl) (by kernel_rfl) (by kernel_rfl) (fun _ _ _ h => h) (by kernel_rfl) (fun w hw => by (try dsimp only at hw); go_simp) hH6 ?_
            simp only [List.setIfInBounds_toArray, List.set_cons_zero, List.set_cons_succ]
            refine takeH 13 69 (.bool true) rfl (by kernel_rfl) (by kernel_rfl) (by kernel_rfl) (by kernel_rfl) (fun _ _ _ h => h) (by kernel_rfl) (fun w hw => by (try dsimp only at hw); go_simp) hH6 ?_
            simp only [List.setIfInBounds_toArray, List.set_cons_zero, List.set_cons_succ]
            refine takeH 14 13 (.bool true) rfl (by kernel_rfl) (by kernel_rfl) (by kernel_rfl) (by kernel_rfl) (fun _ _ _ h => h) (by kernel_rfl) (fun w hw => by kernel_rfl) hH6 ?_
            simp only [List.setIfInBounds_toArray, List.set_cons_zero, List.set_cons_succ]
            refine wpAnyH_done (by kernel_rfl) ?_ _
            have H6 : Hid (LwAt w b gb g i d (some a) n zs t1 noT w6) := Hid.mk (H5.out.new ⟨hB6.os, hB6.tape, hB6.output, hB6.size, hB6.block⟩)
            clear e0 e1 e2 hcj5 HS6 H5 hH hB6 hH6
            go_wp2
            go_loopw [13, 14] (fun bv kv wr => ∃ (k : Nat) (bk : Bool), bv = .bool bk ∧ kv = .int .i64 k ∧ k ≤ j ∧ Hid (bk = decide (∀ q, q < k → zs.getD q 0 ≠ x)) ∧ Hid (LwAt w b gb g i d (some a) n zs t1 noT wr)) (fun _ kv _ => j - (intOf kv).toNat)
            case atStart => exact ⟨0, true, rfl, rfl, Nat.zero_le _, Hid.mk (by simp), H6⟩
            case round =>
              obtain ⟨k, bk, rfl, rfl, hkj, HBK, HLK⟩ := hrel
              by_cases hlt3 : (k : Int) < (j : Int)
              · obtain ⟨k1, hk1⟩ : ∃ m, m = k + 1 := ⟨_, rfl⟩
                have v4 : IntKind.i64.wrap ((k : Int) + 1) = (k1 : Int) := by have := HNN.out; rw [IntKind.wrap_i64]; omega
                have HK1 : Hid (k1 = k + 1 ∧ k < j) := Hid.mk ⟨hk1, by omega⟩
                cases bk with
                | false =>
                  clear hk1 hkj
                  go_wp2_with fail
                  refine wp_region_held_drew (S := fun _ => True) (by kernel_rfl) trivial (fun hH => ?_)
                  change wpAnyH Try.prog Region.Mode.any _ _ _ 13 _ _ _
                  refine takeH 0 75 (.bool false) rfl (by kernel_rfl) (by kernel_rfl) (by kernel_rfl) (by kernel_rfl) (fun _ _ _ h => h) (by kernel_rfl) (fun w hw => by kernel_rfl) hH ?_
                  simp only [List.setIfInBounds_toArray, List.set_cons_zero, List.set_cons_succ]
                  refine takeH 1 76 (.bool false) rfl (by kernel_rfl) (by kernel_rfl) (by kernel_rfl) (by kernel_rfl) (fun _ _ _ h => h) (by kernel_rfl) (fun w hw => by kernel_rfl) hH ?_
                  simp only [List.setIfInBounds_toArray, List.set_cons_zero, List.set_cons_succ]
                  refine skipH 2 77 rfl (by kernel_rfl) (by kernel_rfl) (by kernel_rfl) (by kernel_rfl) (fun _ _ _ h => h) (by kernel_rfl) hH ?_
                  simp only [List.setIfInBounds_toArray, List.set_cons_zero, List.set_cons_succ]
                  refine skipH 3 78 rfl (by kernel_rfl) (by kernel_rfl) (by kernel_rfl) (by kernel_rfl) (fun _ _ _ h => h) (by kernel_rfl) hH ?_
                  simp only [List.setIfInBounds_toArray, List.set_cons_zero, List.set_cons_succ]
                  refine skipH 4 79 rfl (by kernel_rfl) (by kernel_rfl) (by kernel_rfl) (by kernel_rfl) (fun _ _ _ h => h) (by kernel_rfl) hH ?_
                  simp only [List.setIfInBounds_toArray, List.set_cons_zero, List.set_cons_succ]
                  refine skipH 5 80 rfl (by kernel_rfl) (by kernel_rfl) (by kernel_rfl) (by kernel_rfl) (fun _ _ _ h => h) (by kernel_rfl) hH ?_
                  simp only [List.setIfInBounds_toArray, List.set_cons_zero, List.set_cons_succ]
                  refine skipH 6 81 rfl (by kernel_rfl) (by kernel_rfl) (by kernel_rfl) (by kernel_rfl) (fun _ _ _ h => h) (by kernel_rfl) hH ?_
                  simp only [List.setIfInBounds_toArray, List.set_cons_zero, List.set_cons_succ]
                  refine skipH 7 82 rfl (by kernel_rfl) (by kernel_rfl) (by kernel_rfl) (by kernel_rfl) (fun _ _ _ h => h) (by kernel_rfl) hH ?_
                  simp only [List.setIfInBounds_toArray, List.set_cons_zero, List.set_cons_succ]
                  refine skipH 8 83 rfl (by kernel_rfl) (by kernel_rfl) (by kernel_rfl) (by kernel_rfl) (fun _ _ _ h => h) (by kernel_rfl) hH ?_
                  simp only [List.setIfInBounds_toArray, List.set_cons_zero, List.set_cons_succ]
                  refine skipH 9 84 rfl (by kernel_rfl) (by kernel_rfl) (by kernel_rfl) (by kernel_rfl) (fun _ _ _ h => h) (by kernel_rfl) hH ?_
                  simp only [List.setIfInBounds_toArray, List.set_cons_zero, List.set_cons_succ]
                  refine skipH 10 85 rfl (by kernel_rfl) (by kernel_rfl) (by kernel_rfl) (by kernel_rfl) (fun _ _ _ h => h) (by kernel_rfl) hH ?_
                  simp only [List.setIfInBounds_toArray, List.set_cons_zero, List.set_cons_succ]
                  refine takeH 11 86 (.bool false) rfl (by kernel_rfl) (by kernel_rfl) (by kernel_rfl) (by kernel_rfl) (fun _ _ _ h => h) (by kernel_rfl) (fun w hw => by (try dsimp only at hw); go_simp) hH ?_
                  simp only [List.setIfInBounds_toArray, List.set_cons_zero, List.set_cons_succ]
                  refine takeH 12 13 (.bool false) rfl (by kernel_rfl) (by kernel_rfl) (by kernel_rfl) (by kernel_rfl) (fun _ _ _ h => h) (by kernel_rfl) (fun w hw => by kernel_rfl) hH ?_
                  simp only [List.setIfInBounds_toArray, List.set_cons_zero, List.set_cons_succ]
                  refine wpAnyH_done (by kernel_rfl) ?_ _
                  go_wp2
                  go_roundw
                  case rel => exact ⟨k1, false, rfl, rfl, by have := HK1.out; omega, Hid.mk (all_no HK1.out.1 HBK.out), Hid.mk (HLK.out.new ((Below.refl _ _).drew))⟩
                  case measure => (have := HK1.out; simp [intOf]; omega)
                | true =>
                  obtain ⟨y, hy⟩ : ∃ y, y = zs.getD k 0 := ⟨_, rfl⟩
                  have hck : wr.cell? (a.add k) = some (.int .i64 y) := by (obtain ⟨a', e', hc⟩ := HLK.out.at k (by omega); cases e'; rw [hy]; exact hc)
                  have hcj2 : wr.cell? (a.add j) = some (.int .i64 x) := by (obtain ⟨a', e', hc⟩ := HLK.out.at j (by omega); cases e'; rw [HX.out]; exact hc)
                  have z1 : (0 : Int) ≤ (k : Int) := by omega
                  have z2 : (k : Int) < (n : Int) := by omega
                  have z3 : (k : Int).toNat = k := by simp
                  by_cases hyx : y = x
                  · have HNO : Hid (zs.getD k 0 = x) := Hid.mk (by rw [← hy]; exact hyx)
                    rw [hyx] at hck
                    clear hyx
                    have eqq : (x == x) = true := by simp
                    clear hk1 hkj hy
                    go_wp2_with fail
                    refine wp_region_held_drew (S := fun W => W.cell? (a.add k) = some (.int .i64 x) ∧ W.cell? (a.add j) = some (.int .i64 x)) (by kernel_rfl) ⟨hck, hcj2⟩ (fun hH => ?_)
                    change wpAnyH Try.prog Region.Mode.any _ _ _ 13 _ _ _
                    refine takeH 0 75 (.bool true) rfl (by kernel_rfl) (by kernel_rfl) (by kernel_rfl) (by kernel_rfl) (fun _ _ _ h => h) (by kernel_rfl) (fun w hw => by kernel_rfl) hH ?_
                    simp only [List.setIfInBounds_toArray, List.set_cons_zero, List.set_cons_succ]
                    refine takeH 1 76 (.bool true) rfl (by kernel_rfl) (by kernel_rfl) (by kernel_rfl) (by kernel_rfl) (fun _ _ _ h => h) (by kernel_rfl) (fun w hw => by kernel_rfl) hH ?_
                    simp only [List.setIfInBounds_toArray, List.set_cons_zero, List.set_cons_succ]
                    refine takeH 2 77 (.slice (some a) n c) rfl (by kernel_rfl) (by kernel_rfl) (by kernel_rfl) (by kernel_rfl) (fun _ _ _ h => h) (by kernel_rfl) (fun w hw => by kernel_rfl) hH ?_
                    simp only [List.setIfInBounds_toArray, List.set_cons_zero, List.set_cons_succ]
                    refine takeH 3 78 (.int .i64 k) rfl (by kernel_rfl) (by kernel_rfl) (by kernel_rfl) (by kernel_rfl) (fun _ _ _ h => h) (by kernel_rfl) (fun w hw => by kernel_rfl) hH ?_
                    simp only [List.setIfInBounds_toArray, List.set_cons_zero, List.set_cons_succ]
                    refine takeH 4 79 (.pointer (some (a.add k))) rfl (by kernel_rfl) (by kernel_rfl) (by kernel_rfl) (by kernel_rfl) (fun _ _ _ h => h) (by kernel_rfl) (fun w hw => by (try dsimp only at hw); go_simp) hH ?_
                    simp only [List.setIfInBounds_toArray, List.set_cons_zero, List.set_cons_succ]
                    refine takeH 5 80 (.int .i64 x) rfl (by kernel_rfl) (by kernel_rfl) (by kernel_rfl) (by kernel_rfl) (fun _ _ _ h => h) (by kernel_rfl) (fun w hw => by (try dsimp only at hw); go_simp) hH ?_
                    simp only [List.setIfInBounds_toArray, List.set_cons_zero, List.set_cons_succ]
                    refine takeH 6 81 (.slice (some a) n c) rfl (by kernel_rfl) (by kernel_rfl) (by kernel_rfl) (by kernel_rfl) (fun _ _ _ h => h) (by kernel_rfl) (fun w hw => by kernel_rfl) hH ?_
                    simp only [List.setIfInBounds_toArray, List.set_cons_zero, List.set_cons_succ]
                    refine takeH 7 82 (.int .i64 j) rfl (by kernel_rfl) (by kernel_rfl) (by kernel_rfl) (by kernel_rfl) (fun _ _ _ h => h) (by kernel_rfl) (fun w hw => by kernel_rfl) hH ?_
                    simp only [List.setIfInBounds_toArray, List.set_cons_zero, List.set_cons_succ]
                    refine takeH 8 83 (.pointer (some (a.add j))) rfl (by kernel_rfl) (by kernel_rfl) (by kernel_rfl) (by kernel_rfl) (fun _ _ _ h => h) (by kernel_rfl) (fun w hw => by (try dsimp only at hw); go_simp) hH ?_
                    simp only [List.setIfInBounds_toArray, List.set_cons_zero, List.set_cons_succ]
                    refine takeH 9 84 (.int .i64 x) rfl (by kernel_rfl) (by kernel_rfl) (by kernel_rfl) (by kernel_rfl) (fun _ _ _ h => h) (by kernel_rfl) (fun w hw => by (try dsimp only at hw); go_simp) hH ?_
                    simp only [List.setIfInBounds_toArray, List.set_cons_zero, List.set_cons_succ]
                    refine takeH 10 85 (.bool false) rfl (by kernel_rfl) (by kernel_rfl) (by kernel_rfl) (by kernel_rfl) (fun _ _ _ h => h) (by kernel_rfl) (fun w hw => by (try dsimp only at hw); go_simp) hH ?_
                    simp only [List.setIfInBounds_toArray, List.set_cons_zero, List.set_cons_succ]
                    refine takeH 11 86 (.bool false) rfl (by kernel_rfl) (by kernel_rfl) (by kernel_rfl) (by kernel_rfl) (fun _ _ _ h => h) (by kernel_rfl) (fun w hw => by (try dsimp only at hw); go_simp) hH ?_
                    simp only [List.setIfInBounds_toArray, List.set_cons_zero, List.set_cons_succ]
                    refine takeH 12 13 (.bool false) rfl (by kernel_rfl) (by kernel_rfl) (by kernel_rfl) (by kernel_rfl) (fun _ _ _ h => h) (by kernel_rfl) (fun w hw => by kernel_rfl) hH ?_
                    simp only [List.setIfInBounds_toArray, List.set_cons_zero, List.set_cons_succ]
                    refine wpAnyH_done (by kernel_rfl) ?_ _
                    go_wp2
                    go_roundw
                    case rel => exact ⟨k1, false, rfl, rfl, by have := HK1.out; omega, Hid.mk (all_hit HK1.out.1 HBK.out HNO.out), Hid.mk (HLK.out.new ((Below.refl _ _).drew))⟩
                    case measure => (have := HK1.out; simp [intOf]; omega)
                  · have HNO : Hid (zs.getD k 0 ≠ x) := Hid.mk (by rw [← hy]; exact hyx)
                    have eqq : (y == x) = false := by simpa using hyx
                    clear hk1 hkj hy
                    go_wp2_with fail
                    refine wp_region_held_drew (S := fun W => W.cell? (a.add k) = some (.int .i64 y) ∧ W.cell? (a.add j) = some (.int .i64 x)) (by kernel_rfl) ⟨hck, hcj2⟩ (fun hH => ?_)
                    change wpAnyH Try.prog Region.Mode.any _ _ _ 13 _ _ _
                    refine takeH 0 75 (.bool true) rfl (by kernel_rfl) (by kernel_rfl) (by kernel_rfl) (by kernel_rfl) (fun _ _ _ h => h) (by kernel_rfl) (fun w hw => by kernel_rfl) hH ?_
                    simp only [List.setIfInBounds_toArray, List.set_cons_zero, List.set_cons_succ]
                    refine takeH 1 76 (.bool true) rfl (by kernel_rfl) (by kernel_rfl) (by kernel_rfl) (by kernel_rfl) (fun _ _ _ h => h) (by kernel_rfl) (fun w hw => by kernel_rfl) hH ?_
                    simp only [List.setIfInBounds_toArray, List.set_cons_zero, List.set_cons_succ]
                    refine takeH 2 77 (.slice (some a) n c) rfl (by kernel_rfl) (by kernel_rfl) (by kernel_rfl) (by kernel_rfl) (fun _ _ _ h => h) (by kernel_rfl) (fun w hw => by kernel_rfl) hH ?_
                    simp only [List.setIfInBounds_toArray, List.set_cons_zero, List.set_cons_succ]
                    refine takeH 3 78 (.int .i64 k) rfl (by kernel_rfl) (by kernel_rfl) (by kernel_rfl) (by kernel_rfl) (fun _ _ _ h => h) (by kernel_rfl) (fun w hw => by kernel_rfl) hH ?_
                    simp only [List.setIfInBounds_toArray, List.set_cons_zero, List.set_cons_succ]
                    refine takeH 4 79 (.pointer (some (a.add k))) rfl (by kernel_rfl) (by kernel_rfl) (by kernel_rfl) (by kernel_rfl) (fun _ _ _ h => h) (by kernel_rfl) (fun w hw => by (try dsimp only at hw); go_simp) hH ?_
                    simp only [List.setIfInBounds_toArray, List.set_cons_zero, List.set_cons_succ]
                    refine takeH 5 80 (.int .i64 y) rfl (by kernel_rfl) (by kernel_rfl) (by kernel_rfl) (by kernel_rfl) (fun _ _ _ h => h) (by kernel_rfl) (fun w hw => by (try dsimp only at hw); go_simp) hH ?_
                    simp only [List.setIfInBounds_toArray, List.set_cons_zero, List.set_cons_succ]
                    refine takeH 6 81 (.slice (some a) n c) rfl (by kernel_rfl) (by kernel_rfl) (by kernel_rfl) (by kernel_rfl) (fun _ _ _ h => h) (by kernel_rfl) (fun w hw => by kernel_rfl) hH ?_
                    simp only [List.setIfInBounds_toArray, List.set_cons_zero, List.set_cons_succ]
                    refine takeH 7 82 (.int .i64 j) rfl (by kernel_rfl) (by kernel_rfl) (by kernel_rfl) (by kernel_rfl) (fun _ _ _ h => h) (by kernel_rfl) (fun w hw => by kernel_rfl) hH ?_
                    simp only [List.setIfInBounds_toArray, List.set_cons_zero, List.set_cons_succ]
                    refine takeH 8 83 (.pointer (some (a.add j))) rfl (by kernel_rfl) (by kernel_rfl) (by kernel_rfl) (by kernel_rfl) (fun _ _ _ h => h) (by kernel_rfl) (fun w hw => by (try dsimp only at hw); go_simp) hH ?_
                    simp only [List.setIfInBounds_toArray, List.set_cons_zero, List.set_cons_succ]
                    refine takeH 9 84 (.int .i64 x) rfl (by kernel_rfl) (by kernel_rfl) (by kernel_rfl) (by kernel_rfl) (fun _ _ _ h => h) (by kernel_rfl) (fun w hw => by (try dsimp only at hw); go_simp) hH ?_
                    simp only [List.setIfInBounds_toArray, List.set_cons_zero, List.set_cons_succ]
                    refine takeH 10 85 (.bool true) rfl (by kernel_rfl) (by kernel_rfl) (by kernel_rfl) (by kernel_rfl) (fun _ _ _ h => h) (by kernel_rfl) (fun w hw => by (try dsimp only at hw); go_simp) hH ?_
                    simp only [List.setIfInBounds_toArray, List.set_cons_zero, List.set_cons_succ]
                    refine takeH 11 86 (.bool true) rfl (by kernel_rfl) (by kernel_rfl) (by kernel_rfl) (by kernel_rfl) (fun _ _ _ h => h) (by kernel_rfl) (fun w hw => by (try dsimp only at hw); go_simp) hH ?_
                    simp only [List.setIfInBounds_toArray, List.set_cons_zero, List.set_cons_succ]
                    refine takeH 12 13 (.bool true) rfl (by kernel_rfl) (by kernel_rfl) (by kernel_rfl) (by kernel_rfl) (fun _ _ _ h => h) (by kernel_rfl) (fun w hw => by kernel_rfl) hH ?_
                    simp only [List.setIfInBounds_toArray, List.set_cons_zero, List.set_cons_succ]
                    refine wpAnyH_done (by kernel_rfl) ?_ _
                    go_wp2
                    go_roundw
                    case rel => exact ⟨k1, true, rfl, rfl, by have := HK1.out; omega, Hid.mk (all_yes HK1.out.1 HBK.out HNO.out), Hid.mk (HLK.out.new ((Below.refl _ _).drew))⟩
                    case measure => (have := HK1.out; simp [intOf]; omega)
              · have hkj2 : k = j := by omega
                have hbk := HBK.out
                rw [hkj2] at hbk
                clear hkj2
                have hbf : bk = false := by rw [hbk]; exact HISV.out
                subst hbf
                clear hbk HBK hkj
                have hcj2 : wr.cell? (a.add j) = some (.int .i64 x) := by (obtain ⟨a', e', hc⟩ := HLK.out.at j (by omega); cases e'; rw [HX.out]; exact hc)
                go_wp2
                exact ⟨⟨_, _, _, _, ⟨j1, rfl, ls, rfl, nn, rfl, Hid.mk ⟨by have := HJ1.out; omega, t1, HLK.out, HSAME.out⟩⟩, rfl, rfl, rfl, rfl⟩, by (have := HJ1.out; simp [intOf]; omega)⟩
          case pos =>
            rw [decide_eq_true c3] at htp
            obtain ⟨x1, hx1⟩ : ∃ x1, x1 = p + 1 := ⟨_, rfl⟩
            obtain ⟨nn1, hnn1⟩ : ∃ m, m = nn + 1 := ⟨_, rfl⟩
            obtain ⟨t2, ht2⟩ : ∃ t2, t2 = updT t1 p false := ⟨_, rfl⟩
            have hback := HBK0.out.back HJ1.out.1 hpN (by rw [← HX.out]; exact hp) htp
            rw [← hx1, ← hnn1, ← ht2] at hback
            have hxx : x = (x1 : Int) := by rw [hp, hx1]
            have HNEXT : Hid (ls = 0 ∨ x < (ls : Int) → BkAt N j1 zs t2 x1 nn1) := Hid.mk (fun h => by
              rw [if_pos (by omega)] at hback
              exact hback)
            have HNEXT2 : Hid (¬ (ls = 0 ∨ x < (ls : Int)) → BkAt N j1 zs t2 ls nn1) := Hid.mk (fun h => by
              rw [if_neg (by omega)] at hback
              exact hback)
            have v5 : IntKind.i64.wrap ((nn : Int) + 1) = (nn1 : Int) := by
              have h1 := HBK0.out.n
              have h2 := freeN_le t1 N
              have h3 := HNN.out
              rw [IntKind.wrap_i64]; omega
            have HX1 := Hid.mk hxx
            have HGV : Hid (Calls Try.prog 17 #[.pointer (some ⟨b, 0, none⟩), .int .i64 x, .int .i64 0] wr fun e w' => e = .returned (.bool true) ∧ Hid (LwAt w b gb g i d (some a) n zs t2 noT w')) := Hid.mk (by
              have e1 : tnI g i d t1 x false = true := by unfold tnI; rw [hgr, decide_eq_false c0, hpt, htp]; rfl
              have e2 : tuI g i d t1 noT x 0 false = t2 := by unfold tuI; rw [tnG_zero, e1, if_pos ⟨rfl, c0⟩, hpt, ht2]
              have := HGV0.out
              rw [e1, e2] at this
              exact this)
            have HISV : Hid (decide (∀ q, q < j → zs.getD q 0 ≠ x) = true) := Hid.mk (decide_eq_true c3)
            clear HGV0 HBK0 hgr htp hpt hpN hp c3 hback hxx hx1 hnn1 ht2
            go_wp2_with (go_at_call 17; refine HGV.out.mono ?_; rintro e w5 ⟨rfl, H5⟩)
            obtain ⟨e0, e1, e2⟩ := H5.out.ge.g3
            have hcj5 : w5.cell? (a.add j) = some (.int .i64 x) := by (obtain ⟨a', e', hc⟩ := H5.out.at j (by omega); cases e'; rw [HX.out]; exact hc)
            have HS6 : Hid (∀ W, Below w5.drew.heap.size w5.drew W → W.cell? (a.add j) = some (.int .i64 x) ∧ G3 gb g i d W) := Hid.mk (fun W hB => by (have h := H5.out.new (W' := W) ⟨hB.os, hB.tape, hB.output, hB.size, hB.block⟩; exact ⟨by (obtain ⟨a', e', hc⟩ := h.at j (by omega); cases e'; rw [HX.out]; exact hc), h.ge.g3⟩))
            refine wp_region_held_drew (S := fun W => W.cell? (a.add j) = some (.int .i64 x) ∧ G3 gb g i d W) (by kernel_rfl) ⟨hcj5, e0, e1, e2⟩ (fun hH => ?_)
            change wpAnyH Try.prog Region.Mode.any _ _ _ 15 _ _ _
            refine takeH 0 56 (.slice (some a) n c) rfl (by kernel_rfl) (by kernel_rfl) (by kernel_rfl) (by kernel_rfl) (fun _ _ _ h => h) (by kernel_rfl) (fun w hw => by kernel_rfl) hH ?_
            simp only [List.setIfInBounds_toArray, List.set_cons_zero, List.set_cons_succ]
            refine takeH 1 57 (.int .i64 j) rfl (by kernel_rfl) (by kernel_rfl) (by kernel_rfl) (by kernel_rfl) (fun _ _ _ h => h) (by kernel_rfl) (fun w hw => by kernel_rfl) hH ?_
            simp only [List.setIfInBounds_toArray, List.set_cons_zero, List.set_cons_succ]
            refine takeH 2 58 (.pointer (some (a.add j))) rfl (by kernel_rfl) (by kernel_rfl) (by kernel_rfl) (by kernel_rfl) (fun _ _ _ h => h) (by kernel_rfl) (fun w hw => by (try dsimp only at hw); go_simp) hH ?_
            simp only [List.setIfInBounds_toArray, List.set_cons_zero, List.set_cons_succ]
            refine takeH 3 59 (.int .i64 x) rfl (by kernel_rfl) (by kernel_rfl) (by kernel_rfl) (by kernel_rfl) (fun _ _ _ h => h) (by kernel_rfl) (fun w hw => by (try dsimp only at hw); go_simp) hH ?_
            simp only [List.setIfInBounds_toArray, List.set_cons_zero, List.set_cons_succ]
            refine takeH 4 60 (.bool true) rfl (by kernel_rfl) (by kernel_rfl) (by kernel_rfl) (by kernel_rfl) (fun _ _ _ h => h) (by kernel_rfl) (fun w hw => by (try dsimp only at hw); go_simp) hH ?_
            simp only [List.setIfInBounds_toArray, List.set_cons_zero, List.set_cons_succ]
            refine takeH 5 61 (.bool true) rfl (by kernel_rfl) (by kernel_rfl) (by kernel_rfl) (by kernel_rfl) (fun _ _ _ h => h) (by kernel_rfl) (fun w hw => by kernel_rfl) hH ?_
            simp only [List.setIfInBounds_toArray, List.set_cons_zero, List.set_cons_succ]
            refine takeH 6 62 (.slice (some a) n c) rfl (by kernel_rfl) (by kernel_rfl) (by kernel_rfl) (by kernel_rfl) (fun _ _ _ h => h) (by kernel_rfl) (fun w hw => by kernel_rfl) hH ?_
            simp only [List.setIfInBounds_toArray, List.set_cons_zero, List.set_cons_succ]
            refine takeH 7 63 (.int .i64 j) rfl (by kernel_rfl) (by kernel_rfl) (by kernel_rfl) (by kernel_rfl) (fun _ _ _ h => h) (by kernel_rfl) (fun w hw => by kernel_rfl) hH ?_
            simp only [List.setIfInBounds_toArray, List.set_cons_zero, List.set_cons_succ]
            refine takeH 8 64 (.pointer (some (a.add j))) rfl (by kernel_rfl) (by kernel_rfl) (by kernel_rfl) (by kernel_rfl) (fun _ _ _ h => h) (by kernel_rfl) (fun w hw => by (try dsimp only at hw); go_simp) hH ?_
            simp only [List.setIfInBounds_toArray, List.set_cons_zero, List.set_cons_succ]
            refine takeH 9 65 (.int .i64 x) rfl (by kernel_rfl) (by kernel_rfl) (by kernel_rfl) (by kernel_rfl) (fun _ _ _ h => h) (by kernel_rfl) (fun w hw => by (try dsimp only at hw); go_simp) hH ?_
            simp only [List.setIfInBounds_toArray, List.set_cons_zero, List.set_cons_succ]
            refine takeH 10 66 (geo g i d) rfl (by kernel_rfl) (by kernel_rfl) (by kernel_rfl) (by kernel_rfl) (fun _ _ _ h => h) (by kernel_rfl) (fun w hw => by (try dsimp only at hw); go_simp) hH ?_
            simp only [List.setIfInBounds_toArray, List.set_cons_zero, List.set_cons_succ]
            refine stepH_call 11 67 rfl (by kernel_rfl) (by kernel_rfl) (by kernel_rfl) 22 #[.tmp 66] #[23] (by kernel_rfl) (enters_of Try.func22 (by kernel_rfl) rfl) #[geo g i d] (by kernel_rfl) (HRI.out _) ?_
            rintro e w6 ⟨rfl, hB6⟩
            have hH6 := HS6.out _ hB6
            refine ⟨_, rfl, hH6, ?_⟩
            simp only [List.setIfInBounds_toArray, List.set_cons_zero, List.set_cons_succ]
            refine takeH 12 68 (.bool true) rfl (by kernel_rfl) (by kernel_rfl) (by kernel_rfl) (by kernel_rfl) (fun _ _ _ h => h) (by kernel_rfl) (fun w hw => by (try dsimp only at hw); go_simp) hH6 ?_
            simp only [List.setIfInBounds_toArray, List.set_cons_zero, List.set_cons_succ]
            refine takeH 13 69 (.bool true) rfl (by kernel_rfl) (by kernel_rfl) (by kernel_rfl) (by kernel_rfl) (fun _ _ _ h => h) (by kernel_rfl) (fun w hw => by (try dsimp only at hw); go_simp) hH6 ?_
            simp only [List.setIfInBounds_toArray, List.set_cons_zero, List.set_cons_succ]
            refine takeH 14 13 (.bool true) rfl (by kernel_rfl) (by kernel_rfl) (by kernel_rfl) (by kernel_rfl) (fun _ _ _ h => h) (by kernel_rfl) (fun w hw => by kernel_rfl) hH6 ?_
            simp only [List.setIfInBounds_toArray, List.set_cons_zero, List.set_cons_succ]
            refine wpAnyH_done (by kernel_rfl) ?_ _
            have H6 : Hid (LwAt w b gb g i d (some a) n zs t2 noT w6) := Hid.mk (H5.out.new ⟨hB6.os, hB6.tape, hB6.output, hB6.size, hB6.block⟩)
            clear e0 e1 e2 hcj5 HS6 H5 hH hB6 hH6
            go_wp2
            go_loopw [13, 14] (fun bv kv wr => ∃ (k : Nat) (bk : Bool), bv = .bool bk ∧ kv = .int .i64 k ∧ k ≤ j ∧ Hid (bk = decide (∀ q, q < k → zs.getD q 0 ≠ x)) ∧ Hid (LwAt w b gb g i d (some a) n zs t2 noT wr)) (fun _ kv _ => j - (intOf kv).toNat)
            case atStart => exact ⟨0, true, rfl, rfl, Nat.zero_le _, Hid.mk (by simp), H6⟩
            case round =>
              obtain ⟨k, bk, rfl, rfl, hkj, HBK, HLK⟩ := hrel
              by_cases hlt3 : (k : Int) < (j : Int)
              · obtain ⟨k1, hk1⟩ : ∃ m, m = k + 1 := ⟨_, rfl⟩
                have v4 : IntKind.i64.wrap ((k : Int) + 1) = (k1 : Int) := by have := HNN.out; rw [IntKind.wrap_i64]; omega
                have HK1 : Hid (k1 = k + 1 ∧ k < j) := Hid.mk ⟨hk1, by omega⟩
                cases bk with
                | false =>
                  clear hk1 hkj
                  go_wp2_with fail
                  refine wp_region_held_drew (S := fun _ => True) (by kernel_rfl) trivial (fun hH => ?_)
                  change wpAnyH Try.prog Region.Mode.any _ _ _ 13 _ _ _
                  refine takeH 0 75 (.bool false) rfl (by kernel_rfl) (by kernel_rfl) (by kernel_rfl) (by kernel_rfl) (fun _ _ _ h => h) (by kernel_rfl) (fun w hw => by kernel_rfl) hH ?_
                  simp only [List.setIfInBounds_toArray, List.set_cons_zero, List.set_cons_succ]
                  refine takeH 1 76 (.bool false) rfl (by kernel_rfl) (by kernel_rfl) (by kernel_rfl) (by kernel_rfl) (fun _ _ _ h => h) (by kernel_rfl) (fun w hw => by kernel_rfl) hH ?_
                  simp only [List.setIfInBounds_toArray, List.set_cons_zero, List.set_cons_succ]
                  refine skipH 2 77 rfl (by kernel_rfl) (by kernel_rfl) (by kernel_rfl) (by kernel_rfl) (fun _ _ _ h => h) (by kernel_rfl) hH ?_
                  simp only [List.setIfInBounds_toArray, List.set_cons_zero, List.set_cons_succ]
                  refine skipH 3 78 rfl (by kernel_rfl) (by kernel_rfl) (by kernel_rfl) (by kernel_rfl) (fun _ _ _ h => h) (by kernel_rfl) hH ?_
                  simp only [List.setIfInBounds_toArray, List.set_cons_zero, List.set_cons_succ]
                  refine skipH 4 79 rfl (by kernel_rfl) (by kernel_rfl) (by kernel_rfl) (by kernel_rfl) (fun _ _ _ h => h) (by kernel_rfl) hH ?_
                  simp only [List.setIfInBounds_toArray, List.set_cons_zero, List.set_cons_succ]
                  refine skipH 5 80 rfl (by kernel_rfl) (by kernel_rfl) (by kernel_rfl) (by kernel_rfl) (fun _ _ _ h => h) (by kernel_rfl) hH ?_
                  simp only [List.setIfInBounds_toArray, List.set_cons_zero, List.set_cons_succ]
                  refine skipH 6 81 rfl (by kernel_rfl) (by kernel_rfl) (by kernel_rfl) (by kernel_rfl) (fun _ _ _ h => h) (by kernel_rfl) hH ?_
                  simp only [List.setIfInBounds_toArray, List.set_cons_zero, List.set_cons_succ]
                  refine skipH 7 82 rfl (by kernel_rfl) (by kernel_rfl) (by kernel_rfl) (by kernel_rfl) (fun _ _ _ h => h) (by kernel_rfl) hH ?_
                  simp only [List.setIfInBounds_toArray, List.set_cons_zero, List.set_cons_succ]
                  refine skipH 8 83 rfl (by kernel_rfl) (by kernel_rfl) (by kernel_rfl) (by kernel_rfl) (fun _ _ _ h => h) (by kernel_rfl) hH ?_
                  simp only [List.setIfInBounds_toArray, List.set_cons_zero, List.set_cons_succ]
                  refine skipH 9 84 rfl (by kernel_rfl) (by kernel_rfl) (by kernel_rfl) (by kernel_rfl) (fun _ _ _ h => h) (by kernel_rfl) hH ?_
                  simp only [List.setIfInBounds_toArray, List.set_cons_zero, List.set_cons_succ]
                  refine skipH 10 85 rfl (by kernel_rfl) (by kernel_rfl) (by kernel_rfl) (by kernel_rfl) (fun _ _ _ h => h) (by kernel_rfl) hH ?_
                  simp only [List.setIfInBounds_toArray, List.set_cons_zero, List.set_cons_succ]
                  refine takeH 11 86 (.bool false) rfl (by kernel_rfl) (by kernel_rfl) (by kernel_rfl) (by kernel_rfl) (fun _ _ _ h => h) (by kernel_rfl) (fun w hw => by (try dsimp only at hw); go_simp) hH ?_
                  simp only [List.setIfInBounds_toArray, List.set_cons_zero, List.set_cons_succ]
                  refine takeH 12 13 (.bool false) rfl (by kernel_rfl) (by kernel_rfl) (by kernel_rfl) (by kernel_rfl) (fun _ _ _ h => h) (by kernel_rfl) (fun w hw => by kernel_rfl) hH ?_
                  simp only [List.setIfInBounds_toArray, List.set_cons_zero, List.set_cons_succ]
                  refine wpAnyH_done (by kernel_rfl) ?_ _
                  go_wp2
                  go_roundw
                  case rel => exact ⟨k1, false, rfl, rfl, by have := HK1.out; omega, Hid.mk (all_no HK1.out.1 HBK.out), Hid.mk (HLK.out.new ((Below.refl _ _).drew))⟩
                  case measure => (have := HK1.out; simp [intOf]; omega)
                | true =>
                  obtain ⟨y, hy⟩ : ∃ y, y = zs.getD k 0 := ⟨_, rfl⟩
                  have hck : wr.cell? (a.add k) = some (.int .i64 y) := by (obtain ⟨a', e', hc⟩ := HLK.out.at k (by omega); cases e'; rw [hy]; exact hc)
                  have hcj2 : wr.cell? (a.add j) = some (.int .i64 x) := by (obtain ⟨a', e', hc⟩ := HLK.out.at j (by omega); cases e'; rw [HX.out]; exact hc)
                  have z1 : (0 : Int) ≤ (k : Int) := by omega
                  have z2 : (k : Int) < (n : Int) := by omega
                  have z3 : (k : Int).toNat = k := by simp
                  by_cases hyx : y = x
                  · have HNO : Hid (zs.getD k 0 = x) := Hid.mk (by rw [← hy]; exact hyx)
                    rw [hyx] at hck
                    clear hyx
                    have eqq : (x == x) = true := by simp
                    clear hk1 hkj hy
                    go_wp2_with fail
                    refine wp_region_held_drew (S := fun W => W.cell? (a.add k) = some (.int .i64 x) ∧ W.cell? (a.add j) = some (.int .i64 x)) (by kernel_rfl) ⟨hck, hcj2⟩ (fun hH => ?_)
                    change wpAnyH Try.prog Region.Mode.any _ _ _ 13 _ _ _
                    refine takeH 0 75 (.bool true) rfl (by kernel_rfl) (by kernel_rfl) (by kernel_rfl) (by kernel_rfl) (fun _ _ _ h => h) (by kernel_rfl) (fun w hw => by kernel_rfl) hH ?_
                    simp only [List.setIfInBounds_toArray, List.set_cons_zero, List.set_cons_succ]
                    refine takeH 1 76 (.bool true) rfl (by kernel_rfl) (by kernel_rfl) (by kernel_rfl) (by kernel_rfl) (fun _ _ _ h => h) (by kernel_rfl) (fun w hw => by kernel_rfl) hH ?_
                    simp only [List.setIfInBounds_toArray, List.set_cons_zero, List.set_cons_succ]
                    refine takeH 2 77 (.slice (some a) n c) rfl (by kernel_rfl) (by kernel_rfl) (by kernel_rfl) (by kernel_rfl) (fun _ _ _ h => h) (by kernel_rfl) (fun w hw => by kernel_rfl) hH ?_
                    simp only [List.setIfInBounds_toArray, List.set_cons_zero, List.set_cons_succ]
                    refine takeH 3 78 (.int .i64 k) rfl (by kernel_rfl) (by kernel_rfl) (by kernel_rfl) (by kernel_rfl) (fun _ _ _ h => h) (by kernel_rfl) (fun w hw => by kernel_rfl) hH ?_
                    simp only [List.setIfInBounds_toArray, List.set_cons_zero, List.set_cons_succ]
                    refine takeH 4 79 (.pointer (some (a.add k))) rfl (by kernel_rfl) (by kernel_rfl) (by kernel_rfl) (by kernel_rfl) (fun _ _ _ h => h) (by kernel_rfl) (fun w hw => by (try dsimp only at hw); go_simp) hH ?_
                    simp only [List.setIfInBounds_toArray, List.set_cons_zero, List.set_cons_succ]
                    refine takeH 5 80 (.int .i64 x) rfl (by kernel_rfl) (by kernel_rfl) (by kernel_rfl) (by kernel_rfl) (fun _ _ _ h => h) (by kernel_rfl) (fun w hw => by (try dsimp only at hw); go_simp) hH ?_
                    simp only [List.setIfInBounds_toArray, List.set_cons_zero, List.set_cons_succ]
                    refine takeH 6 81 (.slice (some a) n c) rfl (by kernel_rfl) (by kernel_rfl) (by kernel_rfl) (by kernel_rfl) (fun _ _ _ h => h) (by kernel_rfl) (fun w hw => by kernel_rfl) hH ?_
                    simp only [List.setIfInBounds_toArray, List.set_cons_zero, List.set_cons_succ]
                    refine takeH 7 82 (.int .i64 j) rfl (by kernel_rfl) (by kernel_rfl) (by kernel_rfl) (by kernel_rfl) (fun _ _ _ h => h) (by kernel_rfl) (fun w hw => by kernel_rfl) hH ?_
                    simp only [List.setIfInBounds_toArray, List.set_cons_zero, List.set_cons_succ]
                    refine takeH 8 83 (.pointer (some (a.add j))) rfl (by kernel_rfl) (by kernel_rfl) (by kernel_rfl) (by kernel_rfl) (fun _ _ _ h => h) (by kernel_rfl) (fun w hw => by (try dsimp only at hw); go_simp) hH ?_
                    simp only [List.setIfInBounds_toArray, List.set_cons_zero, List.set_cons_succ]
                    refine takeH 9 84 (.int .i64 x) rfl (by kernel_rfl) (by kernel_rfl) (by kernel_rfl) (by kernel_rfl) (fun _ _ _ h => h) (by kernel_rfl) (fun w hw => by (try dsimp only at hw); go_simp) hH ?_
                    simp only [List.setIfInBounds_toArray, List.set_cons_zero, List.set_cons_succ]
                    refine takeH 10 85 (.bool false) rfl (by kernel_rfl) (by kernel_rfl) (by kernel_rfl) (by kernel_rfl) (fun _ _ _ h => h) (by kernel_rfl) (fun w hw => by (try dsimp only at hw); go_simp) hH ?_
                    simp only [List.setIfInBounds_toArray, List.set_cons_zero, List.set_cons_succ]
                    refine takeH 11 86 (.bool false) rfl (by kernel_rfl) (by kernel_rfl) (by kernel_rfl) (by kernel_rfl) (fun _ _ _ h => h) (by kernel_rfl) (fun w hw => by (try dsimp only at hw); go_simp) hH ?_
                    simp only [List.setIfInBounds_toArray, List.set_cons_zero, List.set_cons_succ]
                    refine takeH 12 13 (.bool false) rfl (by kernel_rfl) (by kernel_rfl) (by kernel_rfl) (by kernel_rfl) (fun _ _ _ h => h) (by kernel_rfl) (fun w hw => by kernel_rfl) hH ?_
                    simp only [List.setIfInBounds_toArray, List.set_cons_zero, List.set_cons_succ]
                    refine wpAnyH_done (by kernel_rfl) ?_ _
                    go_wp2
                    go_roundw
                    case rel => exact ⟨k1, false, rfl, rfl, by have := HK1.out; omega, Hid.mk (all_hit HK1.out.1 HBK.out HNO.out), Hid.mk (HLK.out.new ((Below.refl _ _).drew))⟩
                    case measure => (have := HK1.out; simp [intOf]; omega)
                  · have HNO : Hid (zs.getD k 0 ≠ x) := Hid.mk (by rw [← hy]; exact hyx)
                    have eqq : (y == x) = false := by simpa using hyx
                    clear hk1 hkj hy
                    go_wp2_with fail
                    refine wp_region_held_drew (S := fun W => W.cell? (a.add k) = some (.int .i64 y) ∧ W.cell? (a.add j) = some (.int .i64 x)) (by kernel_rfl) ⟨hck, hcj2⟩ (fun hH => ?_)
                    change wpAnyH Try.prog Region.Mode.any _ _ _ 13 _ _ _
                    refine takeH 0 75 (.bool true) rfl (by kernel_rfl) (by kernel_rfl) (by kernel_rfl) (by kernel_rfl) (fun _ _ _ h => h) (by kernel_rfl) (fun w hw => by kernel_rfl) hH ?_
                    simp only [List.setIfInBounds_toArray, List.set_cons_zero, List.set_cons_succ]
                    refine takeH 1 76 (.bool true) rfl (by kernel_rfl) (by kernel_rfl) (by kernel_rfl) (by kernel_rfl) (fun _ _ _ h => h) (by kernel_rfl) (fun w hw => by kernel_rfl) hH ?_
                    simp only [List.setIfInBounds_toArray, List.set_cons_zero, List.set_cons_succ]
                    refine takeH 2 77 (.slice (some a) n c) rfl (by kernel_rfl) (by kernel_rfl) (by kernel_rfl) (by kernel_rfl) (fun _ _ _ h => h) (by kernel_rfl) (fun w hw => by kernel_rfl) hH ?_
                    simp only [List.setIfInBounds_toArray, List.set_cons_zero, List.set_cons_succ]
                    refine takeH 3 78 (.int .i64 k) rfl (by kernel_rfl) (by kernel_rfl) (by kernel_rfl) (by kernel_rfl) (fun _ _ _ h => h) (by kernel_rfl) (fun w hw => by kernel_rfl) hH ?_
                    simp only [List.setIfInBounds_toArray, List.set_cons_zero, List.set_cons_succ]
                    refine takeH 4 79 (.pointer (some (a.add k))) rfl (by kernel_rfl) (by kernel_rfl) (by kernel_rfl) (by kernel_rfl) (fun _ _ _ h => h) (by kernel_rfl) (fun w hw => by (try dsimp only at hw); go_simp) hH ?_
                    simp only [List.setIfInBounds_toArray, List.set_cons_zero, List.set_cons_succ]
                    refine takeH 5 80 (.int .i64 y) rfl (by kernel_rfl) (by kernel_rfl) (by kernel_rfl) (by kernel_rfl) (fun _ _ _ h => h) (by kernel_rfl) (fun w hw => by (try dsimp only at hw); go_simp) hH ?_
                    simp only [List.setIfInBounds_toArray, List.set_cons_zero, List.set_cons_succ]
                    refine takeH 6 81 (.slice (some a) n c) rfl (by kernel_rfl) (by kernel_rfl) (by kernel_rfl) (by kernel_rfl) (fun _ _ _ h => h) (by kernel_rfl) (fun w hw => by kernel_rfl) hH ?_
                    simp only [List.setIfInBounds_toArray, List.set_cons_zero, List.set_cons_succ]
                    refine takeH 7 82 (.int .i64 j) rfl (by kernel_rfl) (by kernel_rfl) (by kernel_rfl) (by kernel_rfl) (fun _ _ _ h => h) (by kernel_rfl) (fun w hw => by kernel_rfl) hH ?_
                    simp only [List.setIfInBounds_toArray, List.set_cons_zero, List.set_cons_succ]
                    refine takeH 8 83 (.pointer (some (a.add j))) rfl (by kernel_rfl) (by kernel_rfl) (by kernel_rfl) (by kernel_rfl) (fun _ _ _ h => h) (by kernel_rfl) (fun w hw => by (try dsimp only at hw); go_simp) hH ?_
                    simp only [List.setIfInBounds_toArray, List.set_cons_zero, List.set_cons_succ]
                    refine takeH 9 84 (.int .i64 x) rfl (by kernel_rfl) (by kernel_rfl) (by kernel_rfl) (by kernel_rfl) (fun _ _ _ h => h) (by kernel_rfl) (fun w hw => by (try dsimp only at hw); go_simp) hH ?_
                    simp only [List.setIfInBounds_toArray, List.set_cons_zero, List.set_cons_succ]
                    refine takeH 10 85 (.bool true) rfl (by kernel_rfl) (by kernel_rfl) (by kernel_rfl) (by kernel_rfl) (fun _ _ _ h => h) (by kernel_rfl) (fun w hw => by (try dsimp only at hw); go_simp) hH ?_
                    simp only [List.setIfInBounds_toArray, List.set_cons_zero, List.set_cons_succ]
                    refine takeH 11 86 (.bool true) rfl (by kernel_rfl) (by kernel_rfl) (by kernel_rfl) (by kernel_rfl) (fun _ _ _ h => h) (by kernel_rfl) (fun w hw => by (try dsimp only at hw); go_simp) hH ?_
                    simp only [List.setIfInBounds_toArray, List.set_cons_zero, List.set_cons_succ]
                    refine takeH 12 13 (.bool true) rfl (by kernel_rfl) (by kernel_rfl) (by kernel_rfl) (by kernel_rfl) (fun _ _ _ h => h) (by kernel_rfl) (fun w hw => by kernel_rfl) hH ?_
                    simp only [List.setIfInBounds_toArray, List.set_cons_zero, List.set_cons_succ]
                    refine wpAnyH_done (by kernel_rfl) ?_ _
                    go_wp2
                    go_roundw
                    case rel => exact ⟨k1, true, rfl, rfl, by have := HK1.out; omega, Hid.mk (all_yes HK1.out.1 HBK.out HNO.out), Hid.mk (HLK.out.new ((Below.refl _ _).drew))⟩
                    case measure => (have := HK1.out; simp [intOf]; omega)
              · have hkj2 : k = j := by omega
                have hbk := HBK.out
                rw [hkj2] at hbk
                clear hkj2
                have hbf : bk = true := by rw [hbk]; exact HISV.out
                subst hbf
                clear hbk HBK hkj
                have hcj2 : wr.cell? (a.add j) = some (.int .i64 x) := by (obtain ⟨a', e', hc⟩ := HLK.out.at j (by omega); cases e'; rw [HX.out]; exact hc)
                by_cases hls : ls = 0 ∨ x < (ls : Int)
                · have HLS := Hid.mk hls
                  by_cases hl0 : ls = 0
                  · subst hl0
                    clear hls
                    go_wp2
                    exact ⟨⟨_, _, _, _, ⟨j1, rfl, x1, rfl, nn1, rfl, Hid.mk ⟨by have := HJ1.out; omega, t2, HLK.out, HNEXT.out HLS.out⟩⟩, rfl, by rw [HX1.out], rfl, rfl⟩, by (have := HJ1.out; simp [intOf]; omega)⟩
                  · have hl1 : x < (ls : Int) := by (rcases hls with h | h; exact absurd h hl0; exact h)
                    have hl2 : ((ls : Int) == 0) = false := by simpa using hl0
                    have hl3 : ¬ (ls : Int) = 0 := by simpa using hl0
                    clear hls
                    go_wp2
                    exact ⟨⟨_, _, _, _, ⟨j1, rfl, x1, rfl, nn1, rfl, Hid.mk ⟨by have := HJ1.out; omega, t2, HLK.out, HNEXT.out HLS.out⟩⟩, rfl, by rw [HX1.out], rfl, rfl⟩, by (have := HJ1.out; simp [intOf]; omega)⟩
                · have HLS := Hid.mk hls
                  have hl0 : ¬ ls = 0 := fun h => hls (.inl h)
                  have hl1 : ¬ x < (ls : Int) := fun h => hls (.inr h)
                  have hl2 : ((ls : Int) == 0) = false := by simpa using hl0
                  have hl3 : ¬ (ls : Int) = 0 := by simpa using hl0
                  clear hls
                  go_wp2
                  exact ⟨⟨_, _, _, _, ⟨j1, rfl, ls, rfl, nn1, rfl, Hid.mk ⟨by have := HJ1.out; omega, t2, HLK.out, HNEXT2.out HLS.out⟩⟩, rfl, rfl, rfl, rfl⟩, by (have := HJ1.out; simp [intOf]; omega)⟩
        · clear HGIVE HRI
          have hnn := HT1.out.2.2.n
          have hls := HT1.out.2.2.l
          have HFRX := Hid.mk (HFR.out wr b gb t1 HT1.out.2.1)
          have HLX : Hid (∀ W, LwAt w b gb g i d ao n zs t1 noT W → Calls Try.prog 11 #[.pointer (some ⟨b, 0, none⟩), .int .i64 0] W fun e w' => e = .returned (.tuple #[.int .i64 ls, .bool (decide (0 < nn))]) ∧ Below w.heap.size w w') := Hid.mk (fun W hL => by
            have := HLAST.out W b gb t1 hL
            rw [← hls, ← hnn] at this
            exact this)
          rw [← hnn] at HFRX
          clear hnn hls HFR HLAST HT1
          rcases Nat.eq_zero_or_pos nn with h0 | h0
          · subst h0
            rw [decide_eq_false (by omega)] at HLX
            go_wp2_with (first
              | (go_at_call 18; refine HFRX.out.mono ?_; rintro e w7 ⟨y, rfl, H7⟩)
              | (go_at_call 11; refine (HLX.out _ H7.out).mono ?_; rintro e w8 ⟨rfl, hB8⟩))
            go_ret
            exact ⟨rfl, hB8⟩
          · rw [decide_eq_true h0] at HLX
            have h0' : (0 : Int) < (nn : Int) := by omega
            go_wp2_with (first
              | (go_at_call 18; refine HFRX.out.mono ?_; rintro e w7 ⟨y, rfl, H7⟩)
              | (go_at_call 11; refine (HLX.out _ H7.out).mono ?_; rintro e w8 ⟨rfl, hB8⟩))
            go_ret
            exact ⟨rfl, hB8⟩
end Go.Proofs.Ytjhfkcngaknbdaa
