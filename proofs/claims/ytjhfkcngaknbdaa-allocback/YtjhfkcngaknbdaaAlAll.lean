/-
  AllocAll: all inodes and blocks are given out, each once, from any group on, and no more.
-/
import Derived.Test.YtjhfkcngaknbdaaAlRows
namespace Go.Proofs.Ytjhfkcngaknbdaa
open Go Go.Proofs Go.RowKit Go.Shelf

/-- What the laws over a row of ints lean on: the Alloc, the geometry's box, the ints. -/
structure LwAt (w : World) (b gb g i d : Nat) (ao : Option Addr) (n : Nat) (zs : List Int) (ti td : Nat → Bool) (W : World) : Prop where
  al : AlAt W b g i d ti td
  ge : GAt gb g i d W
  la : LAt W ao n zs
  hb : w.heap.size ≤ b
  hg : w.heap.size ≤ gb
  ne : gb ≠ b
  old : ∀ a, ao = some a → 0 < n → a.block < w.heap.size
  below : Below w.heap.size w W
theorem LwAt.then {w W W' : World} {b gb g i d : Nat} {ao : Option Addr} {n : Nat} {zs : List Int} {ti td ti' td' : Nat → Bool} (h : LwAt w b gb g i d ao n zs ti td W) (hA : AlAt W' b g i d ti' td') (hO : Only (fun k => k = b) W W') : LwAt w b gb g i d ao n zs ti' td' W' := by
  refine ⟨hA, ?_, ?_, h.hb, h.hg, h.ne, h.old, h.below.trans (hO.below h.below.size (fun k e => by have := h.hb; omega))⟩
  · unfold GAt
    rw [hO.block gb h.ge.lt h.ne]
    exact h.ge
  · refine ⟨h.la.1, fun hn => ?_⟩
    obtain ⟨a, ea, hlt, hc⟩ := h.la.2 hn
    have ho := h.old a ea hn
    have hb := h.hb
    exact ⟨a, ea, Nat.lt_of_lt_of_le hlt hO.size, fun j hj => by rw [World.cell?_of_block (w := W) (by rw [add_block]; exact hO.block _ hlt (by omega))]; exact hc j hj⟩
theorem LwAt.new {w W W' : World} {b gb g i d : Nat} {ao : Option Addr} {n : Nat} {zs : List Int} {ti td : Nat → Bool} (h : LwAt w b gb g i d ao n zs ti td W) (hB : Below W.heap.size W W') : LwAt w b gb g i d ao n zs ti td W' :=
  ⟨h.al.below hB, h.ge.below hB h.ge.lt, h.la.only (Only.of_new (fun _ => False) hB) (fun _ _ _ h => h), h.hb, h.hg, h.ne, h.old, h.below.trans (hB.mono h.below.size)⟩
/-- A row of bools of one's own is set. -/
theorem LwAt.side {w W W' : World} {b gb g i d s m : Nat} {ao : Option Addr} {n : Nat} {zs : List Int} {ti td f : Nat → Bool} (h : LwAt w b gb g i d ao n zs ti td W) (hs : OwB W s m f) (hsw : w.heap.size ≤ s) (hsb : s ≠ b) (hsg : s ≠ gb) (ho : Only (fun k => k = s) W W') : LwAt w b gb g i d ao n zs ti td W' := by
  refine ⟨h.al.side ho hsb hs bo_not, ?_, ?_, h.hb, h.hg, h.ne, h.old, h.below.trans (ho.below h.below.size (fun k e => by omega))⟩
  · unfold GAt
    rw [ho.block gb h.ge.lt (fun e => hsg e.symm)]
    exact h.ge
  · refine ⟨h.la.1, fun hn => ?_⟩
    obtain ⟨a, ea, hlt, hc⟩ := h.la.2 hn
    have hold := h.old a ea hn
    exact ⟨a, ea, Nat.lt_of_lt_of_le hlt ho.size, fun j hj => by rw [World.cell?_of_block (w := W) (by rw [add_block]; exact ho.block _ hlt (by omega))]; exact hc j hj⟩
theorem LwAt.at {w W : World} {b gb g i d : Nat} {ao : Option Addr} {n : Nat} {zs : List Int} {ti td : Nat → Bool} (h : LwAt w b gb g i d ao n zs ti td W) (j : Nat) (hj : j < n) : ∃ a, ao = some a ∧ W.cell? (a.add j) = some (.int .i64 (zs.getD j 0)) := h.la.at j hj
/-- So many are given out; the row tells which. -/
def SnAt (N k : Nat) (ti f : Nat → Bool) : Prop := freeN ti N + k = N + 1 ∧ ∀ n, n < N → f (n + 1) = ti n
theorem SnAt.step {N k n : Nat} {ti f : Nat → Bool} (h : SnAt N k ti f) (hn : n < N) (ht : ti n = false) : SnAt N (k + 1) (updO ti (some n)) (updT f (n + 1) true) := by
  refine ⟨?_, fun m hm => ?_⟩
  · have := freeN_upd (t := ti) (n := n) N ht
    rw [if_pos hn] at this
    have := h.1
    show freeN (updT ti n true) N + (k + 1) = N + 1
    omega
  · show (if m + 1 = n + 1 then true else f (m + 1)) = if m = n then true else ti m
    rw [h.2 m hm]
    by_cases e : m = n
    · rw [if_pos e, if_pos (by omega)]
    · rw [if_neg e, if_neg (by omega)]
/-- The same for the data blocks, numbered from 0 on. -/
def UsAt (N k : Nat) (td f : Nat → Bool) : Prop := freeN td N + k = N ∧ ∀ n, n < N → f n = td n
theorem UsAt.step {N k n : Nat} {td f : Nat → Bool} (h : UsAt N k td f) (hn : n < N) (ht : td n = false) : UsAt N (k + 1) (updO td (some n)) (updT f n true) := by
  refine ⟨?_, fun m hm => ?_⟩
  · have := freeN_upd (t := td) (n := n) N ht
    rw [if_pos hn] at this
    have := h.1
    show freeN (updT td n true) N + (k + 1) = N
    omega
  · show (if m = n then true else f m) = if m = n then true else td m
    rw [h.2 m hm]
theorem mod_len {k n : Nat} (hn : 0 < n) (hb : n ≤ 100) : Int.tmod (k : Int) (n : Int) = ((k % n : Nat) : Int) ∧ IntKind.i64.wrap (((k % n : Nat)) : Int) = ((k % n : Nat) : Int) ∧ k % n < n ∧ ¬ (n : Int) = 0 ∧ ((n : Int) == 0) = false ∧ ¬ n = 0 := by
  have := Nat.mod_lt k hn
  refine ⟨?_, ?_, this, by omega, by simp; omega, by omega⟩
  · rw [Int.tmod_eq_emod_of_nonneg (by omega)]; rfl
  · rw [IntKind.wrap_i64]; omega
set_option maxRecDepth 100000 in
set_option maxHeartbeats 4000000 in
theorem all_out (w : World) (G I D : Int) (ao : Option Addr) (n c : Nat) (h : good G I D = false ∨ 300 < G * D ∨ n = 0 ∨ 100 < n) : Calls Try.prog 4 #[geo G I D, .slice ao n c] w fun e w' => e = .returned (.bool true) ∧ Below w.heap.size w w' := by
  have HAL := Hid.mk (fun W => alive_any W)
  cases hg : good G I D with
  | false =>
    have HGD := Hid.mk (fun W => good_is W G I D false hg)
    clear h hg
    go_enter Try.func4, Try.ntmps4
    go_wp2_with (first
      | (go_at_call 7; refine (HAL.out _).mono ?_; rintro e w1 ⟨rfl, hB1⟩; obtain ⟨hG1, hB1'⟩ := behind hB1; obtain ⟨c0, c1, c2⟩ := hG1.g3; have HB1 := Hid.mk hB1'; clear hB1 hG1 hB1')
      | (go_at_call 8; refine (HGD.out _).mono ?_; rintro e w2 ⟨rfl, hB2⟩))
    go_ret
    exact ⟨rfl, HB1.out.trans (hB2.mono HB1.out.size)⟩
  | true =>
    have HGD := Hid.mk (fun W => good_is W G I D true hg)
    have hb := good_iff.1 hg
    have hm := mul_fits (a := G) (A := 8) (b := D) (B := 1000) (by omega) (by omega) (by omega) (by omega)
    obtain ⟨p, hp⟩ : ∃ p, p = G * D := ⟨_, rfl⟩
    have hw : IntKind.i64.wrap (G * D) = p := by rw [IntKind.wrap_i64, hp]; omega
    rw [← hp] at h
    by_cases h1 : 300 < p
    · clear h hg hb hm hp
      go_enter Try.func4, Try.ntmps4
      go_wp2_with (first
        | (go_at_call 7; refine (HAL.out _).mono ?_; rintro e w1 ⟨rfl, hB1⟩; obtain ⟨hG1, hB1'⟩ := behind hB1; obtain ⟨c0, c1, c2⟩ := hG1.g3; have HG1 := Hid.mk hG1; have HB1 := Hid.mk hB1'; clear hB1 hG1 hB1')
        | (go_at_call 8; refine (HGD.out _).mono ?_; rintro e w2 ⟨rfl, hB2⟩; obtain ⟨d0, d1, d2⟩ := (HG1.out.below hB2 HG1.out.lt).g3; have HB2 := Hid.mk hB2; clear hB2))
      go_ret
      exact ⟨rfl, HB1.out.trans (HB2.out.mono HB1.out.size)⟩
    by_cases h2 : n = 0
    · subst h2
      clear h hg hb hm hp
      go_enter Try.func4, Try.ntmps4
      go_wp2_with (first
        | (go_at_call 7; refine (HAL.out _).mono ?_; rintro e w1 ⟨rfl, hB1⟩; obtain ⟨hG1, hB1'⟩ := behind hB1; obtain ⟨c0, c1, c2⟩ := hG1.g3; have HG1 := Hid.mk hG1; have HB1 := Hid.mk hB1'; clear hB1 hG1 hB1')
        | (go_at_call 8; refine (HGD.out _).mono ?_; rintro e w2 ⟨rfl, hB2⟩; obtain ⟨d0, d1, d2⟩ := (HG1.out.below hB2 HG1.out.lt).g3; have HB2 := Hid.mk hB2; clear hB2))
      go_ret
      exact ⟨rfl, HB1.out.trans (HB2.out.mono HB1.out.size)⟩
    have h3 : (100 : Int) < (n : Int) := by
      rcases h with h | h | h | h
      · rw [hg] at h; cases h
      · omega
      · omega
      · omega
    have h4 : ¬ (n : Int) = 0 := by omega
    clear h hg hb hm hp
    go_enter Try.func4, Try.ntmps4
    go_wp2_with (first
      | (go_at_call 7; refine (HAL.out _).mono ?_; rintro e w1 ⟨rfl, hB1⟩; obtain ⟨hG1, hB1'⟩ := behind hB1; obtain ⟨c0, c1, c2⟩ := hG1.g3; have HG1 := Hid.mk hG1; have HB1 := Hid.mk hB1'; clear hB1 hG1 hB1')
      | (go_at_call 8; refine (HGD.out _).mono ?_; rintro e w2 ⟨rfl, hB2⟩; obtain ⟨d0, d1, d2⟩ := (HG1.out.below hB2 HG1.out.lt).g3; have HB2 := Hid.mk hB2; clear hB2))
    go_ret
    exact ⟨rfl, HB1.out.trans (HB2.out.mono HB1.out.size)⟩
set_option maxRecDepth 100000 in
set_option maxHeartbeats 8000000 in
theorem all_in (w : World) (g i d : Nat) (hg : good (g : Int) (i : Int) (d : Int) = true) (hp : g * d ≤ 300) (ao : Option Addr) (n c : Nat) (zs : List Int) (hz : LAt w ao n zs) (hn0 : 0 < n) (hn : n ≤ 100) : Calls Try.prog 4 #[geo g i d, .slice ao n c] w fun e w' => e = .returned (.bool true) ∧ Below w.heap.size w w' := by
  have HAL := Hid.mk (fun W => alive_any W)
  have HGD := Hid.mk (fun W => good_is W g i d true hg)
  have hbd := good_iff.1 hg
  obtain ⟨N, hN⟩ : ∃ N, N = g * (16 * i) := ⟨_, rfl⟩
  have hN512 : N ≤ 512 := by rw [hN]; exact Nat.mul_le_mul (show g ≤ 8 by omega) (show 16 * i ≤ 64 by omega)
  obtain ⟨M, hM⟩ : ∃ M, M = g * d := ⟨_, rfl⟩
  rw [← hM] at hp
  have hinoI : inoI (g : Int) (i : Int) (d : Int) = (N : Int) := by rw [ino_yes hg, hN]; push_cast; rw [Int.mul_comm 16]
  have hblkI : blkI (g : Int) (i : Int) (d : Int) = (M : Int) := by rw [blk_yes hg, hM]; push_cast; rfl
  have hMI : (M : Int) = (g : Int) * (d : Int) := by rw [hM]; push_cast; rfl
  have HRI : Hid (∀ W, Calls Try.prog 22 #[geo g i d] W fun e w' => e = .returned (.int .i64 N) ∧ Below W.heap.size W w') := Hid.mk (fun W => by have := rinodes_any W g i d; rw [hinoI] at this; exact this)
  have HRB : Hid (∀ W, Calls Try.prog 23 #[geo g i d] W fun e w' => e = .returned (.int .i64 M) ∧ Below W.heap.size W w') := Hid.mk (fun W => by have := rblocks_any W g i d; rw [hblkI] at this; exact this)
  have HNEW : Hid (∀ W, Calls Try.prog 9 #[geo g i d] W fun e w' => ∃ b, e = .returned (.pointer (some ⟨b, 0, none⟩)) ∧ Hid (W.heap.size ≤ b ∧ AlAt w' b g i d noT noT ∧ Below W.heap.size W w')) := Hid.mk (fun W => by
    refine (new_yes W g i d hg).mono ?_
    rintro e w' ⟨b, rfl, h⟩
    exact ⟨b, rfl, Hid.mk h⟩)
  have HINO : Hid (∀ W b gb ti td (x : Int), 0 < freeN ti N → LwAt w b gb g i d ao n zs ti td W → Calls Try.prog 11 #[.pointer (some ⟨b, 0, none⟩), .int .i64 x] W fun e w' => ∃ m : Nat, e = .returned (.tuple #[.int .i64 ((m + 1 : Nat) : Int), .bool true]) ∧ Hid (m < N ∧ ti m = false ∧ LwAt w b gb g i d ao n zs (updO ti (some m)) td w' ∧ Only (fun k => k = b) W w')) := Hid.mk (fun W b gb ti td x hf hL => by
    obtain ⟨m, h1, h2, h3⟩ := next_ex2 (base := grpOf g x * (16 * i)) hf
    refine (inode_any W b g i d ti td hL.al x).mono ?_
    rintro e w' ⟨rfl, hA, hO⟩
    have e : nxI g i ti x = some m := by unfold nxI; rw [← hN]; exact h1
    rw [e] at hA ⊢
    exact ⟨m, rfl, Hid.mk ⟨h2, h3, hL.then hA hO, hO⟩⟩)
  have HBLK : Hid (∀ W b gb ti td (x : Int), 0 < freeN td M → LwAt w b gb g i d ao n zs ti td W → Calls Try.prog 12 #[.pointer (some ⟨b, 0, none⟩), .int .i64 x] W fun e w' => ∃ m : Nat, e = .returned (.tuple #[.int .i64 (daI g i d m), .bool true]) ∧ Hid (m < M ∧ td m = false ∧ LwAt w b gb g i d ao n zs ti (updO td (some m)) w' ∧ Only (fun k => k = b) W w')) := Hid.mk (fun W b gb ti td x hf hL => by
    obtain ⟨m, h1, h2, h3⟩ := next_ex2 (base := grpOf g x * d) hf
    refine (block_any W b g i d ti td hL.al x).mono ?_
    rintro e w' ⟨rfl, hA, hO⟩
    have e : nxD g d td x = some m := by unfold nxD; rw [← hM]; exact h1
    rw [e] at hA ⊢
    have hd := (da_yes (n := (m : Int)) hg (by omega) (by omega)).1
    refine ⟨m, ?_, Hid.mk ⟨h2, h3, hL.then hA hO, hO⟩⟩
    unfold blR
    dsimp only
    rw [hd])
  have HDO : Hid (∀ (W : World) (m : Nat), m < M → Calls Try.prog 24 #[geo g i d, .int .i64 (daI g i d m)] W fun e w' => e = .returned (.tuple #[.int .i64 m, .bool true]) ∧ Below W.heap.size W w') := Hid.mk (fun W m hm => by
    have h1 := do_da (n := (m : Int)) hg (by omega) (by omega)
    have := rdataof_any W g i d (daI g i d m)
    rw [h1.1, h1.2] at this
    exact this)
  have HIN0 : Hid (∀ W b gb ti td (x : Int), freeN ti N = 0 → LwAt w b gb g i d ao n zs ti td W → Calls Try.prog 11 #[.pointer (some ⟨b, 0, none⟩), .int .i64 x] W fun e w' => e = .returned (.tuple #[.int .i64 0, .bool false]) ∧ Hid (LwAt w b gb g i d ao n zs ti td w')) := Hid.mk (fun W b gb ti td x hf hL => by
    refine (inode_any W b g i d ti td hL.al x).mono ?_
    rintro e w' ⟨rfl, hA, hO⟩
    have e : nxI g i ti x = none := by unfold nxI; rw [← hN]; exact next_full hf
    rw [e] at hA ⊢
    exact ⟨rfl, Hid.mk (hL.then hA hO)⟩)
  have HBL0 : Hid (∀ W b gb ti td (x : Int), freeN td M = 0 → LwAt w b gb g i d ao n zs ti td W → Calls Try.prog 12 #[.pointer (some ⟨b, 0, none⟩), .int .i64 x] W fun e w' => e = .returned (.tuple #[.int .i64 0, .bool false]) ∧ Hid (LwAt w b gb g i d ao n zs ti td w')) := Hid.mk (fun W b gb ti td x hf hL => by
    refine (block_any W b g i d ti td hL.al x).mono ?_
    rintro e w' ⟨rfl, hA, hO⟩
    have e : nxD g d td x = none := by unfold nxD; rw [← hM]; exact next_full hf
    rw [e] at hA ⊢
    exact ⟨rfl, Hid.mk (hL.then hA hO)⟩)
  have HFR : Hid (∀ W b gb ti td, freeN ti N = 0 → freeN td M = 0 → LwAt w b gb g i d ao n zs ti td W → Calls Try.prog 18 #[.pointer (some ⟨b, 0, none⟩)] W fun e w' => e = .returned (.tuple #[.int .i64 0, .int .i64 0]) ∧ Below w.heap.size w w') := Hid.mk (fun W b gb ti td hf1 hf2 hL => by
    refine (free2_any W b g i d ti td hL.al).mono ?_
    rintro e w' ⟨rfl, hB⟩
    rw [← hN, ← hM, hf1, hf2]
    exact ⟨rfl, hL.below.trans (hB.mono hL.below.size)⟩)
  have hw : IntKind.i64.wrap ((g : Int) * (d : Int)) = (M : Int) := by rw [IntKind.wrap_i64, ← hMI]; omega
  have h1 : ¬ (300 : Int) < (M : Int) := by omega
  have h2 : ¬ (n : Int) = 0 := by omega
  have h2' : ((n : Int) == 0) = false := by simp; omega
  have h3 : ¬ (100 : Int) < (n : Int) := by omega
  obtain ⟨N1, hN1⟩ : ∃ N1, N1 = N + 1 := ⟨_, rfl⟩
  have hw1 : IntKind.i64.wrap ((N : Int) + 1) = (N1 : Int) := by rw [IntKind.wrap_i64]; omega
  have HNN : Hid (N ≤ 512 ∧ M ≤ 300 ∧ N1 = N + 1 ∧ 0 < n ∧ n ≤ 100) := Hid.mk ⟨hN512, hp, hN1, hn0, hn⟩
  have HZ := Hid.mk hz
  clear hbd hN hM hN512 hp hinoI hblkI hMI hg hz hN1 hn0 hn
  go_enter Try.func4, Try.ntmps4
  go_wp2_with (first
    | (go_at_call 7; refine (HAL.out _).mono ?_; rintro e w1 ⟨rfl, hB1⟩; obtain ⟨hG1, hB1'⟩ := behind hB1; obtain ⟨c0, c1, c2⟩ := hG1.g3; have HG1 := Hid.mk hG1; have HB1 := Hid.mk hB1'; clear hB1 hG1 hB1')
    | (go_at_call 8; refine (HGD.out _).mono ?_; rintro e w2 ⟨rfl, hB2⟩; have hG2 := HG1.out.below hB2 HG1.out.lt; obtain ⟨d0, d1, d2⟩ := hG2.g3; have HG2 := Hid.mk hG2; have HB2 : Hid (Below w.heap.size w w2) := Hid.mk (HB1.out.trans (hB2.mono HB1.out.size)); clear hB2 hG2)
    | (go_at_call 9; refine (HNEW.out _).mono ?_; rintro e w3 ⟨b, rfl, H3⟩; have HLW : Hid (LwAt w b w.heap.size g i d ao n zs noT noT w3) := Hid.mk ⟨H3.out.2.1, HG2.out.below H3.out.2.2 HG2.out.lt, HZ.out.only (Only.of_new (fun _ => False) (HB2.out.trans (H3.out.2.2.mono HB2.out.size))) (fun _ _ _ h => h), Nat.le_trans HB2.out.size H3.out.1, Nat.le_refl _, by have := HG2.out.lt; have := H3.out.1; omega, fun a ea h0 => by (obtain ⟨a', e', hl, _⟩ := HZ.out.2 h0; rw [ea] at e'; cases e'; exact hl), HB2.out.trans (H3.out.2.2.mono HB2.out.size)⟩; obtain ⟨e0, e1, e2⟩ := HLW.out.ge.g3)
    | (go_at_call 22; refine (HRI.out _).mono ?_; rintro e w4 ⟨rfl, hB4⟩; have HL4 := Hid.mk (HLW.out.new hB4); clear hB4)
    | (refine wpList_make_known rfl (.tmp 56) (.tmp 56) 44 rfl (.int .i64 N1) (.int .i64 N1) _ _ rfl rfl (makeb_run _ N1 (by have := HNN.out; omega)) ?_))
  obtain ⟨s, hs⟩ : ∃ s, s = w4.heap.size := ⟨_, rfl⟩
  obtain ⟨gb, hgb⟩ : ∃ gb, gb = w.heap.size := ⟨_, rfl⟩
  have HL5 : Hid (LwAt w b gb g i d ao n zs noT noT (w4.alloc (.cells (bo N1 noT) 4)) ∧ OwB (w4.alloc (.cells (bo N1 noT) 4)) s N1 noT ∧ w.heap.size ≤ s ∧ s ≠ b ∧ s ≠ gb) := Hid.mk (by
    rw [hgb]
    exact ⟨HL4.out.new ((Below.refl _ w4).alloc (Nat.le_refl _) _), by rw [hs]; exact blk_new w4 _, by rw [hs]; exact HL4.out.below.size, by have := HL4.out.al.lt; omega, by have := HL4.out.ge.lt; omega⟩)
  rw [← hs, ← hgb]
  clear hs HL4 HLW H3 HNEW HZ HG2 HB2 HG1 HB1 HAL HGD HRI hgb e0 e1 e2
  go_loopw [9] (fun j wr => ∃ k : Nat, j = .int .i64 k ∧ Hid (1 ≤ k ∧ k ≤ N1 ∧ ∃ ti f, SnAt N k ti f ∧ LwAt w b gb g i d ao n zs ti noT wr ∧ OwB wr s N1 f ∧ w.heap.size ≤ s ∧ s ≠ b ∧ s ≠ gb)) (fun j _ => N1 - (intOf j).toNat)
  case atStart =>
    obtain ⟨hL, hO, q1, q2, q3⟩ := HL5.out
    exact ⟨1, rfl, Hid.mk ⟨Nat.le_refl _, by have := HNN.out; omega, noT, noT, ⟨by rw [freeN_no], fun _ _ => rfl⟩, hL, hO, q1, q2, q3⟩⟩
  case round =>
    obtain ⟨k, rfl, HK⟩ := hrel
    by_cases hlt : (k : Int) < (N1 : Int)
    · have HC : Hid (∀ x : Int, Calls Try.prog 11 #[.pointer (some ⟨b, 0, none⟩), .int .i64 x] wr fun e w' => ∃ m1 : Nat, e = .returned (.tuple #[.int .i64 m1, .bool true]) ∧ w'.cell? ⟨s, m1, none⟩ = some (.bool false) ∧ w'.frozen? ⟨s, m1, none⟩ = false ∧ ¬ (m1 : Int) < 1 ∧ ¬ (N1 : Int) ≤ (m1 : Int) ∧ (m1 : Int) < (N1 : Int) ∧ (0 : Int) ≤ (m1 : Int) ∧
          Hid (∃ ti f, SnAt N (k + 1) ti f ∧ LwAt w b gb g i d ao n zs ti noT (w'.setCell ⟨s, m1, none⟩ (.bool true)) ∧ OwB (w'.setCell ⟨s, m1, none⟩ (.bool true)) s N1 f ∧ w.heap.size ≤ s ∧ s ≠ b ∧ s ≠ gb)) := Hid.mk (fun x => by
        obtain ⟨hk1, hk2, ti, f, hS, hL, hO, q1, q2, q3⟩ := HK.out
        have hNN := HNN.out
        have hS1 := hS.1
        refine (HINO.out wr b gb ti noT x (by omega) hL).mono ?_
        rintro e w' ⟨m, rfl, H⟩
        obtain ⟨hm, ht, hL', hOn⟩ := H.out
        have hO' : OwB w' s N1 f := hO.keep (hOn.block s hO.lt q2)
        have hfm : f (m + 1) = false := by rw [hS.2 m hm]; exact ht
        have hcell := hO'.cell (i := m + 1) (by omega)
        rw [hfm] at hcell
        have hset : Only (fun k => k = s) w' (w'.setCell ⟨s, m + 1, none⟩ (.bool true)) := (Only.refl (fun k => k = s) w').setCell (p := ⟨s, m + 1, none⟩) (.inl rfl) _
        exact ⟨m + 1, rfl, hcell, blk_free hO' _, by omega, by omega, by omega, by omega, Hid.mk ⟨_, _, hS.step hm ht, hL'.side hO' q1 q2 q3 hset, hO'.set true, q1, q2, q3⟩⟩)
      have hNN := HNN.out
      obtain ⟨r1, r2, r3, r4, r5, r6⟩ := mod_len (k := k) (n := n) (by omega) (by omega)
      obtain ⟨q, hq⟩ : ∃ q, q = k % n := ⟨_, rfl⟩
      rw [← hq] at r1 r2 r3
      obtain ⟨a, rfl, hca⟩ : ∃ a, ao = some a ∧ wr.cell? (a.add q) = some (.int .i64 (zs.getD q 0)) := by
        obtain ⟨hk1, hk2, ti, f, hS, hL, hO, q1, q2, q3⟩ := HK.out
        exact hL.at q r3
      obtain ⟨x, hx⟩ : ∃ x, x = zs.getD q 0 := ⟨_, rfl⟩
      rw [← hx] at hca
      have hq0 : (0 : Int) ≤ (q : Int) := by omega
      have hqn : (q : Int) < (n : Int) := by omega
      obtain ⟨k1, hk1⟩ : ∃ n, n = k + 1 := ⟨_, rfl⟩
      have v3 : IntKind.i64.wrap ((k : Int) + 1) = (k1 : Int) := by rw [IntKind.wrap_i64]; omega
      have HK1 : Hid (k1 = k + 1 ∧ k < N1) := Hid.mk ⟨hk1, by omega⟩
      have HCX := Hid.mk (HC.out x)
      clear hNN hq hx r3 hk1 HK HC HL5 HINO HBLK HDO HIN0 HBL0 HFR HRB HNN
      go_wp2_with (go_at_call 11; refine HCX.out.mono ?_; rintro e w5 ⟨m1, rfl, t1, t2, t3, t4, t5, t6, H5⟩)
      go_roundw
      case rel =>
        obtain ⟨ti, f, hS, hL, hO, q1, q2, q3⟩ := H5.out
        obtain ⟨e1, e2⟩ := HK1.out
        rw [← e1] at hS
        exact ⟨k1, rfl, Hid.mk ⟨by omega, by omega, ti, f, hS, hL, hO, q1, q2, q3⟩⟩
      case measure =>
        obtain ⟨e1, e2⟩ := HK1.out
        clear H5 HCX
        simp [intOf]
        omega
    · have HK2 : Hid (∃ ti, freeN ti N = 0 ∧ LwAt w b gb g i d ao n zs ti noT wr) := Hid.mk (by
        obtain ⟨hk1, hk2, ti, f, hS, hL, hO, q1, q2, q3⟩ := HK.out
        have := hS.1
        have := HNN.out
        exact ⟨ti, by omega, hL⟩)
      obtain ⟨ti, HTI⟩ : ∃ ti, Hid (freeN ti N = 0 ∧ LwAt w b gb g i d ao n zs ti noT wr) := by
        obtain ⟨ti, h⟩ := HK2.out
        exact ⟨ti, Hid.mk h⟩
      obtain ⟨e0, e1, e2⟩ := HTI.out.2.ge.g3
      clear HK HK2 HL5 HINO
      go_wp2_with (first
        | (go_at_call 23; refine (HRB.out _).mono ?_; rintro e w6 ⟨rfl, hB6⟩; have HL6 := Hid.mk (HTI.out.2.new hB6); clear hB6)
        | (refine wpList_make_known rfl (.tmp 98) (.tmp 98) 44 rfl (.int .i64 M) (.int .i64 M) _ _ rfl rfl (makeb_run _ M (by have := HNN.out; omega)) ?_))
      obtain ⟨u, hu⟩ : ∃ u, u = w6.heap.size := ⟨_, rfl⟩
      have HL7 : Hid (LwAt w b gb g i d ao n zs ti noT (w6.alloc (.cells (bo M noT) 4)) ∧ OwB (w6.alloc (.cells (bo M noT) 4)) u M noT ∧ w.heap.size ≤ u ∧ u ≠ b ∧ u ≠ gb) := Hid.mk ⟨HL6.out.new ((Below.refl _ w6).alloc (Nat.le_refl _) _), by rw [hu]; exact blk_new w6 _, by rw [hu]; exact HL6.out.below.size, by have := HL6.out.al.lt; omega, by have := HL6.out.ge.lt; omega⟩
      have HF0 : Hid (freeN ti N = 0) := Hid.mk HTI.out.1
      rw [← hu]
      clear hu HL6 HTI e0 e1 e2 HRB
      go_loopw [13] (fun j wr => ∃ k : Nat, j = .int .i64 k ∧ Hid (k ≤ M ∧ ∃ td f, UsAt M k td f ∧ LwAt w b gb g i d ao n zs ti td wr ∧ OwB wr u M f ∧ w.heap.size ≤ u ∧ u ≠ b ∧ u ≠ gb)) (fun j _ => M - (intOf j).toNat)
      case atStart =>
        obtain ⟨hL, hO, q1, q2, q3⟩ := HL7.out
        exact ⟨0, rfl, Hid.mk ⟨Nat.zero_le _, noT, noT, ⟨by rw [freeN_no]; rfl, fun _ _ => rfl⟩, hL, hO, q1, q2, q3⟩⟩
      case round =>
        obtain ⟨k, rfl, HK⟩ := hrel
        by_cases hlt2 : (k : Int) < (M : Int)
        · have HC : Hid (∀ x : Int, Calls Try.prog 12 #[.pointer (some ⟨b, 0, none⟩), .int .i64 x] wr fun e w' => ∃ y : Int, e = .returned (.tuple #[.int .i64 y, .bool true]) ∧ G3 gb g i d w' ∧
              Hid (Calls Try.prog 24 #[geo g i d, .int .i64 y] w' fun e w2 => ∃ m : Nat, e = .returned (.tuple #[.int .i64 m, .bool true]) ∧ w2.cell? ⟨u, m, none⟩ = some (.bool false) ∧ w2.frozen? ⟨u, m, none⟩ = false ∧ (m : Int) < (M : Int) ∧ (0 : Int) ≤ (m : Int) ∧
                Hid (∃ td f, UsAt M (k + 1) td f ∧ LwAt w b gb g i d ao n zs ti td (w2.setCell ⟨u, m, none⟩ (.bool true)) ∧ OwB (w2.setCell ⟨u, m, none⟩ (.bool true)) u M f ∧ w.heap.size ≤ u ∧ u ≠ b ∧ u ≠ gb))) := Hid.mk (fun x => by
            obtain ⟨hk2, td, f, hS, hL, hO, q1, q2, q3⟩ := HK.out
            have hS1 := hS.1
            refine (HBLK.out wr b gb ti td x (by omega) hL).mono ?_
            rintro e w' ⟨m, rfl, H⟩
            obtain ⟨hm, ht, hL', hOn⟩ := H.out
            refine ⟨_, rfl, hL'.ge.g3, Hid.mk ((HDO.out w' m hm).mono ?_)⟩
            rintro e w2 ⟨rfl, hB2⟩
            have hO' : OwB w' u M f := hO.keep (hOn.block u hO.lt q2)
            have hO2 : OwB w2 u M f := hO'.keep (hB2.block u hO'.lt)
            have hL2 := hL'.new hB2
            have hfm : f m = false := by rw [hS.2 m hm]; exact ht
            have hcell := hO2.cell (i := m) hm
            rw [hfm] at hcell
            have hset : Only (fun k => k = u) w2 (w2.setCell ⟨u, m, none⟩ (.bool true)) := (Only.refl (fun k => k = u) w2).setCell (p := ⟨u, m, none⟩) (.inl rfl) _
            exact ⟨m, rfl, hcell, blk_free hO2 _, by omega, by omega, Hid.mk ⟨_, _, hS.step hm ht, hL2.side hO2 q1 q2 q3 hset, hO2.set true, q1, q2, q3⟩⟩)
          have hNN := HNN.out
          obtain ⟨r1, r2, r3, r4, r5, r6⟩ := mod_len (k := k) (n := n) (by omega) (by omega)
          obtain ⟨q, hq⟩ : ∃ q, q = k % n := ⟨_, rfl⟩
          rw [← hq] at r1 r2 r3
          obtain ⟨a, rfl, hca⟩ : ∃ a, ao = some a ∧ wr.cell? (a.add q) = some (.int .i64 (zs.getD q 0)) := by
            obtain ⟨hk2, td, f, hS, hL, hO, q1, q2, q3⟩ := HK.out
            exact hL.at q r3
          obtain ⟨x, hx⟩ : ∃ x, x = zs.getD q 0 := ⟨_, rfl⟩
          rw [← hx] at hca
          have hq0 : (0 : Int) ≤ (q : Int) := by omega
          have hqn : (q : Int) < (n : Int) := by omega
          obtain ⟨k1, hk1⟩ : ∃ n, n = k + 1 := ⟨_, rfl⟩
          have v3 : IntKind.i64.wrap ((k : Int) + 1) = (k1 : Int) := by rw [IntKind.wrap_i64]; omega
          have HK1 : Hid (k1 = k + 1 ∧ k < M) := Hid.mk ⟨hk1, by omega⟩
          have HCX := Hid.mk (HC.out x)
          clear hNN hq hx r3 hk1 HK HC HL7 HBLK HDO HIN0 HBL0 HFR HNN HF0
          go_wp2_with (first
            | (go_at_call 12; refine HCX.out.mono ?_; rintro e w5 ⟨y, rfl, ⟨s1, s2, s3⟩, HD⟩)
            | (go_at_call 24; refine HD.out.mono ?_; rintro e w6 ⟨m1, rfl, t1, t2, t5, t6, H5⟩))
          go_roundw
          case rel =>
            obtain ⟨td, f, hS, hL, hO, q1, q2, q3⟩ := H5.out
            obtain ⟨e1, e2⟩ := HK1.out
            rw [← e1] at hS
            exact ⟨k1, rfl, Hid.mk ⟨by omega, td, f, hS, hL, hO, q1, q2, q3⟩⟩
          case measure =>
            obtain ⟨e1, e2⟩ := HK1.out
            clear H5 HCX HD
            simp [intOf]
            omega
        · obtain ⟨td, HTD⟩ : ∃ td, Hid (freeN td M = 0 ∧ LwAt w b gb g i d ao n zs ti td wr) := by
            obtain ⟨hk2, td, f, hS, hL, hO, q1, q2, q3⟩ := HK.out
            have := hS.1
            exact ⟨td, Hid.mk ⟨by omega, hL⟩⟩
          clear HK HL7 HBLK HDO
          go_wp2_with (first
            | (go_at_call 11; refine (HIN0.out _ b gb ti td 0 HF0.out HTD.out.2).mono ?_; rintro e w7 ⟨rfl, H7⟩)
            | (go_at_call 12; refine (HBL0.out _ b gb ti td 0 HTD.out.1 H7.out).mono ?_; rintro e w8 ⟨rfl, H8⟩)
            | (go_at_call 18; refine (HFR.out _ b gb ti td HF0.out HTD.out.1 H8.out).mono ?_; rintro e w9 ⟨rfl, hB9⟩))
          go_ret
          exact ⟨rfl, hB9⟩
end Go.Proofs.Ytjhfkcngaknbdaa
