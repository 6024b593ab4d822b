/-
  What Inode, Block, Take, Give and Free do.
-/
import Derived.Test.YtjhfkcngaknbdaaAlFree
import Derived.Test.YtjhfkcngaknbdaaTell3
namespace Go.Proofs.Ytjhfkcngaknbdaa
open Go Go.Proofs Go.RowKit Go.Shelf

/-- Bytes of so many bits. -/
def byt (d : Nat) : Nat := (d + 7) / 8
/-- An Alloc lies at block b: its geometry may be, or is nought. -/
structure AlAt (W : World) (b g i d : Nat) (ti td : Nat → Bool) : Prop where
  c0 : W.cell? ⟨b, 0, none⟩ = some (.int .i64 g)
  c1 : W.cell? ⟨b, 1, none⟩ = some (.int .i64 i)
  c2 : W.cell? ⟨b, 2, none⟩ = some (.int .i64 d)
  ino : PlAt W b 3 g (16 * i) 8 ti
  dat : PlAt W b 13 g d (byt d) td
  ok : good (g : Int) (i : Int) (d : Int) = true ∨ (g = 0 ∧ i = 0 ∧ d = 0)
  sz : ∃ cs T, W.heap[b]? = some (.cells cs T (0, 0)) ∧ cs.size = 23
theorem AlAt.fits {W : World} {b g i d : Nat} {ti td : Nat → Bool} (h : AlAt W b g i d ti td) : Fit g (16 * i) 8 ∧ Fit g d (byt d) ∧ g ≤ 8 ∧ i ≤ 4 ∧ d ≤ 1000 := by
  rcases h.ok with hg | ⟨rfl, rfl, rfl⟩
  · have := good_iff.1 hg
    refine ⟨⟨by omega, by omega, by omega, by omega, by omega⟩, ⟨by omega, by omega, by unfold byt; omega, by unfold byt; omega, by omega⟩, by omega, by omega, by omega⟩
  · refine ⟨⟨by omega, by omega, by omega, by omega, by omega⟩, ⟨by omega, by omega, by omega, by simp [byt], by omega⟩, by omega, by omega, by omega⟩
theorem AlAt.lt {W : World} {b g i d : Nat} {ti td : Nat → Bool} (h : AlAt W b g i d ti td) : b < W.heap.size := h.ino.lt
theorem AlAt.below {W W' : World} {b g i d : Nat} {ti td : Nat → Bool} (h : AlAt W b g i d ti td) (hB : Below W.heap.size W W') : AlAt W' b g i d ti td := by
  have hb : W'.heap[b]? = W.heap[b]? := hB.block b h.lt
  exact ⟨(World.cell?_of_block (w := W) hb).trans h.c0, (World.cell?_of_block (w := W) hb).trans h.c1, (World.cell?_of_block (w := W) hb).trans h.c2, h.ino.below hB, h.dat.below hB, h.ok, by (obtain ⟨cs, T, e, hs⟩ := h.sz; exact ⟨cs, T, hb.trans e, hs⟩)⟩
theorem AlAt.turnI {W W' : World} {b g i d : Nat} {ti td ti' : Nat → Bool} (h : AlAt W b g i d ti td) (ht : Turned b 3 W W') (hp : PlAt W' b 3 g (16 * i) 8 ti') : AlAt W' b g i d ti' td :=
  ⟨(ht.cell 0 (by omega)).trans h.c0, (ht.cell 1 (by omega)).trans h.c1, (ht.cell 2 (by omega)).trans h.c2, hp, h.dat.beside ht (by omega), h.ok, by (obtain ⟨cs, T, e, hs⟩ := h.sz; obtain ⟨cs', e', hs'⟩ := ht.blk cs T e; exact ⟨cs', T, e', by omega⟩)⟩
theorem AlAt.turnD {W W' : World} {b g i d : Nat} {ti td td' : Nat → Bool} (h : AlAt W b g i d ti td) (ht : Turned b 13 W W') (hp : PlAt W' b 13 g d (byt d) td') : AlAt W' b g i d ti td' :=
  ⟨(ht.cell 0 (by omega)).trans h.c0, (ht.cell 1 (by omega)).trans h.c1, (ht.cell 2 (by omega)).trans h.c2, h.ino.beside ht (by omega), hp, h.ok, by (obtain ⟨cs, T, e, hs⟩ := h.sz; obtain ⟨cs', e', hs'⟩ := ht.blk cs T e; exact ⟨cs', T, e', by omega⟩)⟩
/-- What Inode answers. -/
def inR (r : Option Nat) : Value := match r with
  | some n => .tuple #[.int .i64 ((n + 1 : Nat) : Int), .bool true]
  | none => .tuple #[.int .i64 0, .bool false]
def nxI (g i : Nat) (ti : Nat → Bool) (group : Int) : Option Nat := nextN ti (g * (16 * i)) (grpOf g group * (16 * i))
def nxD (g d : Nat) (td : Nat → Bool) (group : Int) : Option Nat := nextN td (g * d) (grpOf g group * d)
set_option maxRecDepth 100000 in
theorem inode_any (w : World) (b g i d : Nat) (ti td : Nat → Bool) (h : AlAt w b g i d ti td) (group : Int) :
    Calls Try.prog 11 #[.pointer (some ⟨b, 0, none⟩), .int .i64 group] w fun e w' => e = .returned (inR (nxI g i ti group)) ∧ AlAt w' b g i d (updO ti (nxI g i ti group)) td ∧ Only (fun k => k = b) w w' := by
  obtain ⟨f1, f2, g8, i4, d1⟩ := h.fits
  have HC := Hid.mk (takefirst_any w b 3 g (16 * i) 8 ti h.ino f1 group)
  have HT : Hid (∀ W' ti', Turned b 3 w W' → PlAt W' b 3 g (16 * i) 8 ti' → AlAt W' b g i d ti' td) := Hid.mk (fun W' ti' h1 h2 => h.turnI h1 h2)
  have hlt : ∀ n, nxI g i ti group = some n → n < 1000 := fun n hn => by
    have := (next_is hn).1
    have : g * (16 * i) ≤ 8 * 64 := Nat.mul_le_mul g8 (by omega)
    omega
  change Hid (Calls Try.prog 29 _ w fun e w' => e = .returned (fstV (nxI g i ti group)) ∧ PlAt w' b 3 g (16 * i) 8 (updO ti (nxI g i ti group)) ∧ Turned b 3 w w') at HC
  generalize nxI g i ti group = r at *
  clear f1 f2 g8 i4 d1 h
  cases r with
  | none =>
    clear hlt
    dsimp only [fstV] at HC
    go_enter Try.func11, Try.ntmps11
    go_wp2_with (go_at_call 29; refine HC.out.mono ?_; rintro e w5 ⟨rfl, hP, hT⟩)
    go_ret2
    exact ⟨rfl, HT.out _ _ hT hP, hT.only⟩
  | some n =>
    have hn := hlt n rfl
    have hw : IntKind.i64.wrap (1 + (n : Int)) = ((n + 1 : Nat) : Int) := by rw [IntKind.wrap_i64]; omega
    have hR : inR (some n) = .tuple #[.int .i64 ((n + 1 : Nat) : Int), .bool true] := rfl
    rw [hR]
    generalize ((n + 1 : Nat) : Int) = n1 at *
    clear hlt hn hR
    dsimp only [fstV] at HC
    go_enter Try.func11, Try.ntmps11
    go_wp2_with (go_at_call 29; refine HC.out.mono ?_; rintro e w5 ⟨rfl, hP, hT⟩)
    go_ret2
    exact ⟨rfl, HT.out _ _ hT hP, hT.only⟩
/-- What Block answers. -/
def blR (g i d : Nat) (r : Option Nat) : Value := match r with
  | some n => .tuple #[.int .i64 (daI g i d n), .bool (daB g i d n)]
  | none => .tuple #[.int .i64 0, .bool false]
set_option maxRecDepth 100000 in
theorem block_any (w : World) (b g i d : Nat) (ti td : Nat → Bool) (h : AlAt w b g i d ti td) (group : Int) :
    Calls Try.prog 12 #[.pointer (some ⟨b, 0, none⟩), .int .i64 group] w fun e w' => e = .returned (blR g i d (nxD g d td group)) ∧ AlAt w' b g i d ti (updO td (nxD g d td group)) ∧ Only (fun k => k = b) w w' := by
  obtain ⟨f1, f2, g8, i4, d1⟩ := h.fits
  have HC := Hid.mk (takefirst_any w b 13 g d (byt d) td h.dat f2 group)
  have HT : Hid (∀ W' td', Turned b 13 w W' → PlAt W' b 13 g d (byt d) td' → AlAt W' b g i d ti td') := Hid.mk (fun W' td' h1 h2 => h.turnD h1 h2)
  change Hid (Calls Try.prog 29 _ w fun e w' => e = .returned (fstV (nxD g d td group)) ∧ PlAt w' b 13 g d (byt d) (updO td (nxD g d td group)) ∧ Turned b 13 w w') at HC
  generalize nxD g d td group = r at *
  clear f1 f2 g8 i4 d1 h
  cases r with
  | none =>
    dsimp only [fstV] at HC
    go_enter Try.func12, Try.ntmps12
    go_wp2_with (go_at_call 29; refine HC.out.mono ?_; rintro e w5 ⟨rfl, hP, hT⟩)
    go_ret2
    exact ⟨rfl, HT.out _ _ hT hP, hT.only⟩
  | some n =>
    have hR : blR g i d (some n) = .tuple #[.int .i64 (daI g i d n), .bool (daB g i d n)] := rfl
    rw [hR]
    have HDA := Hid.mk (fun w => wdata_any w g i d n)
    generalize daI (g : Int) (i : Int) (d : Int) (n : Int) = x at *
    generalize daB (g : Int) (i : Int) (d : Int) (n : Int) = y at *
    clear hR
    dsimp only [fstV] at HC
    go_enter Try.func12, Try.ntmps12
    go_wp2_with (first
      | (go_at_call 29; refine HC.out.mono ?_; rintro e w5 ⟨rfl, hP, hT⟩; have hA := HT.out _ _ hT hP; have c0 := hA.c0; have c1 := hA.c1; have c2 := hA.c2; have HA := Hid.mk hA; have HO := Hid.mk hT.only; clear hA hP hT)
      | (go_at_call 30; refine (HDA.out _).mono ?_; rintro e w6 ⟨rfl, hB6⟩))
    go_ret2
    exact ⟨rfl, HA.out.below hB6, HO.out.trans (T := fun _ => False) (Only.of_new _ hB6) (fun _ h => h.elim)⟩
set_option maxRecDepth 100000 in
theorem free2_any (w : World) (b g i d : Nat) (ti td : Nat → Bool) (h : AlAt w b g i d ti td) :
    Calls Try.prog 18 #[.pointer (some ⟨b, 0, none⟩)] w fun e w' => e = .returned (.tuple #[.int .i64 ((freeN ti (g * (16 * i)) : Nat) : Int), .int .i64 ((freeN td (g * d) : Nat) : Int)]) ∧ Below w.heap.size w w' := by
  obtain ⟨f1, f2, g8, i4, d1⟩ := h.fits
  have H1 : Hid (∀ W, Below w.heap.size w W → Calls Try.prog 33 #[.pointer (some ⟨b, 3, none⟩)] W fun e w' => e = .returned (.int .i64 ((freeN ti (g * (16 * i)) : Nat) : Int)) ∧ Below W.heap.size W w') := Hid.mk (fun W hB => free_any2 W b 3 g (16 * i) 8 ti (h.below hB).ino f1)
  have H2 : Hid (∀ W, Below w.heap.size w W → Calls Try.prog 33 #[.pointer (some ⟨b, 13, none⟩)] W fun e w' => e = .returned (.int .i64 ((freeN td (g * d) : Nat) : Int)) ∧ Below W.heap.size W w') := Hid.mk (fun W hB => free_any2 W b 13 g d (byt d) td (h.below hB).dat f2)
  generalize freeN ti (g * (16 * i)) = x at *
  generalize freeN td (g * d) = y at *
  clear f1 f2 g8 i4 d1 h
  go_enter Try.func18, Try.ntmps18
  go_wp2_with fail
  refine wp_region_held_drew (S := fun _ => True) (by kernel_rfl) trivial (fun hH => ?_)
  change wpAnyH Try.prog Region.Mode.any _ _ _ 10 _ _ _
  refine takeH 0 4 (.pointer (some ⟨b, 0, none⟩)) rfl (by kernel_rfl) (by kernel_rfl) (by kernel_rfl) (by kernel_rfl) (fun _ _ _ h => h) (by kernel_rfl) (fun w hw => by kernel_rfl) hH ?_
  simp only [List.setIfInBounds_toArray, List.set_cons_zero, List.set_cons_succ]
  refine takeH 1 5 (.pointer (some ⟨b, 0, none⟩)) rfl (by kernel_rfl) (by kernel_rfl) (by kernel_rfl) (by kernel_rfl) (fun _ _ _ h => h) (by kernel_rfl) (fun w hw => by (try dsimp only at hw); go_simp) hH ?_
  simp only [List.setIfInBounds_toArray, List.set_cons_zero, List.set_cons_succ]
  refine takeH 2 6 (.pointer (some ⟨b, 3, none⟩)) rfl (by kernel_rfl) (by kernel_rfl) (by kernel_rfl) (by kernel_rfl) (fun _ _ _ h => h) (by kernel_rfl) (fun w hw => by (try dsimp only at hw); go_simp) hH ?_
  simp only [List.setIfInBounds_toArray, List.set_cons_zero, List.set_cons_succ]
  refine takeH 4 8 (.pointer (some ⟨b, 0, none⟩)) rfl (by kernel_rfl) (by kernel_rfl) (by kernel_rfl) (by kernel_rfl) (fun _ _ _ h => h) (by kernel_rfl) (fun w hw => by kernel_rfl) hH ?_
  simp only [List.setIfInBounds_toArray, List.set_cons_zero, List.set_cons_succ]
  refine takeH 5 9 (.pointer (some ⟨b, 0, none⟩)) rfl (by kernel_rfl) (by kernel_rfl) (by kernel_rfl) (by kernel_rfl) (fun _ _ _ h => h) (by kernel_rfl) (fun w hw => by (try dsimp only at hw); go_simp) hH ?_
  simp only [List.setIfInBounds_toArray, List.set_cons_zero, List.set_cons_succ]
  refine takeH 6 10 (.pointer (some ⟨b, 13, none⟩)) rfl (by kernel_rfl) (by kernel_rfl) (by kernel_rfl) (by kernel_rfl) (fun _ _ _ h => h) (by kernel_rfl) (fun w hw => by (try dsimp only at hw); go_simp) hH ?_
  simp only [List.setIfInBounds_toArray, List.set_cons_zero, List.set_cons_succ]
  refine stepH_call 3 7 rfl (by kernel_rfl) (by kernel_rfl) (by kernel_rfl) 33 #[.tmp 6] #[52] (by kernel_rfl) (enters_of Try.func33 (by kernel_rfl) rfl) #[.pointer (some ⟨b, 3, none⟩)] (by kernel_rfl) (H1.out _ ((Below.refl _ w).drew)) ?_
  rintro e w5 ⟨rfl, hB5⟩
  have hb5 : Below w.heap.size w w5 := ⟨hB5.os, hB5.tape, hB5.output, hB5.size, hB5.block⟩
  refine ⟨_, rfl, trivial, ?_⟩
  simp only [List.setIfInBounds_toArray, List.set_cons_zero, List.set_cons_succ]
  refine stepH_call 7 11 rfl (by kernel_rfl) (by kernel_rfl) (by kernel_rfl) 33 #[.tmp 10] #[52] (by kernel_rfl) (enters_of Try.func33 (by kernel_rfl) rfl) #[.pointer (some ⟨b, 13, none⟩)] (by kernel_rfl) (H2.out _ hb5) ?_
  rintro e w6 ⟨rfl, hB6⟩
  refine ⟨_, rfl, trivial, ?_⟩
  simp only [List.setIfInBounds_toArray, List.set_cons_zero, List.set_cons_succ]
  refine takeH 8 2 (.int .i64 (x : Nat)) rfl (by kernel_rfl) (by kernel_rfl) (by kernel_rfl) (by kernel_rfl) (fun _ _ _ h => h) (by kernel_rfl) (fun w hw => by kernel_rfl) trivial ?_
  simp only [List.setIfInBounds_toArray, List.set_cons_zero, List.set_cons_succ]
  refine takeH 9 3 (.int .i64 (y : Nat)) rfl (by kernel_rfl) (by kernel_rfl) (by kernel_rfl) (by kernel_rfl) (fun _ _ _ h => h) (by kernel_rfl) (fun w hw => by kernel_rfl) trivial ?_
  simp only [List.setIfInBounds_toArray, List.set_cons_zero, List.set_cons_succ]
  refine wpAnyH_done (by kernel_rfl) ?_ _
  go_wp2
  go_ret2
  exact ⟨rfl, (hb5.trans (hB6.mono hb5.size))⟩
end Go.Proofs.Ytjhfkcngaknbdaa
