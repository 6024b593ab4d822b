/-
  The bits of a group, of the program and of the reference.
-/
import Derived.Test.YtjhfkcngaknbdaaAlSet
namespace Go.Proofs.Ytjhfkcngaknbdaa
open Go Go.Proofs Go.RowKit Go.Shelf

/-- A row of bits is told by its bits. -/
theorem RowIs.one {L S k : Nat} {t : Nat → Bool} {xs ys : List Int} (h : RowIs L S t k xs) (h2 : RowIs L S t k ys) : xs = ys :=
  Sup.row_ext xs ys (by rw [h.1, h2.1]) h.2.1 h2.2.1 (fun q _ => by rw [h.2.2 q, h2.2.2 q])
/-- The first n bits of a row of bits. -/
def PartIs (L n : Nat) (t : Nat → Bool) (o : Nat) (xs : List Int) : Prop := xs.length = L ∧ (∀ x ∈ xs, 0 ≤ x ∧ x ≤ 255) ∧ ∀ i, getN xs i = (decide (i < n) && t (o + i))
theorem PartIs.zero (L : Nat) (t : Nat → Bool) (o : Nat) : PartIs L 0 t o (zeros L) := ⟨zeros_length L, zeros_bound L, fun i => by rw [getN_zeros]; simp⟩
theorem PartIs.step {L n : Nat} {t : Nat → Bool} {o : Nat} {xs : List Int} (h : PartIs L n t o xs) (hn : n < 8 * L) : PartIs L (n + 1) t o (withI xs (n : Int) (t (o + n))) := by
  refine ⟨by rw [withI_length]; exact h.1, withI_bound _ _ _ h.2.1, fun i => ?_⟩
  rw [getN_with _ _ _ _ h.2.1, hasI_nat, h.1]
  by_cases hi : i = n
  · subst hi
    rw [if_pos ⟨by simp; omega, rfl⟩, decide_eq_true (by omega)]
    simp
  · rw [if_neg (fun hc => hi (by omega)), h.2.2 i]
    by_cases hl : i < n
    · rw [decide_eq_true hl, decide_eq_true (by omega)]
    · rw [decide_eq_false hl, decide_eq_false (by omega)]
theorem PartIs.row {L S : Nat} {t : Nat → Bool} {k : Nat} {xs : List Int} (h : PartIs L S t (k * S) xs) : RowIs L S t k xs := h
/-- An Alloc's rows of a group, as Bits hands them over. -/
structure BtAt (w w' : World) (i d q : Nat) (ti td : Nat → Bool) (v1 v2 : Value) : Prop where
  own1 : ∃ xs, w'.ownsRow w.heap.size 5 1 v1 8 (By xs) ∧ RowIs 8 (16 * i) ti q xs
  own2 : ∃ ys, w'.ownsRow w.heap.size 5 1 v2 (byt d) (By ys) ∧ RowIs (byt d) d td q ys
set_option maxRecDepth 100000 in
theorem abits_no (w : World) (b g i d : Nat) (ti td : Nat → Bool) (h : AlAt w b g i d ti td) (group : Int) (hn : hdB g i d group = false) :
    Calls Try.prog 20 #[.pointer (some ⟨b, 0, none⟩), .int .i64 group] w fun e w' => e = .returned (.tuple #[.slice none 0 0, .slice none 0 0]) ∧ Below w.heap.size w w' := by
  have c0 := h.c0
  have c1 := h.c1
  have c2 := h.c2
  have HH := Hid.mk (fun W => head_any W g i d group)
  rw [hn] at HH
  generalize hdI (g : Int) (i : Int) (d : Int) group = x at *
  clear h hn
  go_enter Try.func20, Try.ntmps20
  go_wp2_with (go_at_call 34; refine (HH.out _).mono ?_; rintro e w1 ⟨rfl, hB1⟩)
  go_ret2
  exact ⟨rfl, hB1⟩
set_option maxRecDepth 100000 in
set_option maxHeartbeats 4000000 in
theorem abits_yes (w : World) (b g i d : Nat) (ti td : Nat → Bool) (h : AlAt w b g i d ti td) (q : Nat) (hq : q < g) :
    Calls Try.prog 20 #[.pointer (some ⟨b, 0, none⟩), .int .i64 q] w fun e w' => ∃ v1 v2, e = .returned (.tuple #[v1, v2]) ∧ BtAt w w' i d q ti td v1 v2 ∧ Below w.heap.size w w' := by
  obtain ⟨f1, f2, g8, i4, d1⟩ := h.fits
  have hgd : good (g : Int) (i : Int) (d : Int) = true := by rcases h.ok with e | ⟨e, _⟩; exact e; omega
  have HH := Hid.mk (fun W => head_any W g i d q)
  rw [(hd_yes hgd (by omega) (by omega)).1] at HH
  have c0 := h.c0
  have c1 := h.c1
  have c2 := h.c2
  obtain ⟨a1, l1, k1, xs, hx1, hr1⟩ := h.ino.rows q hq
  obtain ⟨a2, l2, k2, ys, hx2, hr2⟩ := h.dat.rows q hq
  obtain rfl := hr1.len
  obtain rfl := hr2.len
  obtain ⟨L, hL⟩ : ∃ L, L = byt d := ⟨_, rfl⟩
  have e1 : 3 + 2 + q = 5 + q := by omega
  have e2 : 13 + 2 + q = 15 + q := by omega
  rw [e1] at hx1
  rw [e2] at hx2
  rw [← hL] at hx2
  have HK : Hid (∀ W, Below w.heap.size w W → W.cell? ⟨b, 5 + q, none⟩ = some (.slice a1 8 k1) ∧ W.cell? ⟨b, 15 + q, none⟩ = some (.slice a2 L k2)) := Hid.mk (fun W hB => by
    have hb : W.heap[b]? = w.heap[b]? := hB.block b h.lt
    exact ⟨(World.cell?_of_block (w := w) hb).trans hx1, (World.cell?_of_block (w := w) hb).trans hx2⟩)
  have HC1 : Hid (∀ W, Below w.heap.size w W → Calls Try.prog 35 #[.slice a1 8 k1] W fun e w' => ∃ v', e = .returned v' ∧ w'.ownsRow W.heap.size 5 1 v' 8 (By xs) ∧ Below W.heap.size W w') := Hid.mk (fun W hB => Bt.clone_all W a1 8 k1 xs (hr1.bat.only (Only.of_new (fun _ => False) hB) (fun _ _ _ h => h)) hr1.none (by omega))
  have HC2 : Hid (∀ W, Below w.heap.size w W → Calls Try.prog 35 #[.slice a2 L k2] W fun e w' => ∃ v', e = .returned v' ∧ w'.ownsRow W.heap.size 5 1 v' L (By ys) ∧ Below W.heap.size W w') := Hid.mk (fun W hB => by
    rw [hL]
    exact Bt.clone_all W a2 (byt d) k2 ys (hr2.bat.only (Only.of_new (fun _ => False) hB) (fun _ _ _ h => h)) hr2.none (by have := f2.m; omega))
  have HR : Hid (RowIs 8 (16 * i) ti q xs ∧ RowIs (byt d) d td q ys ∧ L = byt d) := Hid.mk ⟨hr1.row, hr2.row, hL⟩
  have v1' : (0 : Int) ≤ (q : Int) := by omega
  have v2' : (q : Int) < 8 := by omega
  have v3' : ((q : Int)).toNat = q := by simp
  generalize hdI (g : Int) (i : Int) (d : Int) (q : Int) = x at *
  clear f1 f2 g8 i4 d1 hgd hx1 hx2 hr1 hr2 hL e1 e2 h hq
  go_enter Try.func20, Try.ntmps20
  go_wp2_with (go_at_call 34; refine (HH.out _).mono ?_; rintro e w1 ⟨rfl, hB0⟩)
  have hB1 : Below w.heap.size w w1.drew := hB0.drew
  refine wp_region_held_drew (S := fun W => W.cell? ⟨b, 5 + q, none⟩ = some (.slice a1 8 k1) ∧ W.cell? ⟨b, 15 + q, none⟩ = some (.slice a2 L k2)) (by kernel_rfl) (HK.out _ hB1) (fun hH => ?_)
  change wpAnyH Try.prog Region.Mode.any _ _ _ 18 _ _ _
  refine takeH 0 19 (.pointer (some ⟨b, 0, none⟩)) rfl (by kernel_rfl) (by kernel_rfl) (by kernel_rfl) (by kernel_rfl) (fun _ _ _ h => h) (by kernel_rfl) (fun w hw => by kernel_rfl) hH ?_
  simp only [List.setIfInBounds_toArray, List.set_cons_zero, List.set_cons_succ]
  refine takeH 1 20 (.int .i64 q) rfl (by kernel_rfl) (by kernel_rfl) (by kernel_rfl) (by kernel_rfl) (fun _ _ _ h => h) (by kernel_rfl) (fun w hw => by kernel_rfl) hH ?_
  simp only [List.setIfInBounds_toArray, List.set_cons_zero, List.set_cons_succ]
  refine takeH 2 21 (.pointer (some ⟨b, 0, none⟩)) rfl (by kernel_rfl) (by kernel_rfl) (by kernel_rfl) (by kernel_rfl) (fun _ _ _ h => h) (by kernel_rfl) (fun w hw => by (try dsimp only at hw); go_simp) hH ?_
  simp only [List.setIfInBounds_toArray, List.set_cons_zero, List.set_cons_succ]
  refine takeH 3 22 (.pointer (some ⟨b, 3, none⟩)) rfl (by kernel_rfl) (by kernel_rfl) (by kernel_rfl) (by kernel_rfl) (fun _ _ _ h => h) (by kernel_rfl) (fun w hw => by (try dsimp only at hw); go_simp) hH ?_
  simp only [List.setIfInBounds_toArray, List.set_cons_zero, List.set_cons_succ]
  refine takeH 4 23 (.pointer (some ⟨b, 5, none⟩)) rfl (by kernel_rfl) (by kernel_rfl) (by kernel_rfl) (by kernel_rfl) (fun _ _ _ h => h) (by kernel_rfl) (fun w hw => by (try dsimp only at hw); go_simp) hH ?_
  simp only [List.setIfInBounds_toArray, List.set_cons_zero, List.set_cons_succ]
  refine takeH 5 24 (.pointer (some ⟨b, 5 + q, none⟩)) rfl (by kernel_rfl) (by kernel_rfl) (by kernel_rfl) (by kernel_rfl) (fun _ _ _ h => h) (by kernel_rfl) (fun w hw => by (try dsimp only at hw); go_simp) hH ?_
  simp only [List.setIfInBounds_toArray, List.set_cons_zero, List.set_cons_succ]
  refine takeH 6 25 (.slice a1 8 k1) rfl (by kernel_rfl) (by kernel_rfl) (by kernel_rfl) (by kernel_rfl) (fun _ _ _ h => h) (by kernel_rfl) (fun w hw => by (try dsimp only at hw); go_simp) hH ?_
  simp only [List.setIfInBounds_toArray, List.set_cons_zero, List.set_cons_succ]
  refine takeH 8 27 (.pointer (some ⟨b, 0, none⟩)) rfl (by kernel_rfl) (by kernel_rfl) (by kernel_rfl) (by kernel_rfl) (fun _ _ _ h => h) (by kernel_rfl) (fun w hw => by kernel_rfl) hH ?_
  simp only [List.setIfInBounds_toArray, List.set_cons_zero, List.set_cons_succ]
  refine takeH 9 28 (.int .i64 q) rfl (by kernel_rfl) (by kernel_rfl) (by kernel_rfl) (by kernel_rfl) (fun _ _ _ h => h) (by kernel_rfl) (fun w hw => by kernel_rfl) hH ?_
  simp only [List.setIfInBounds_toArray, List.set_cons_zero, List.set_cons_succ]
  refine takeH 10 29 (.pointer (some ⟨b, 0, none⟩)) rfl (by kernel_rfl) (by kernel_rfl) (by kernel_rfl) (by kernel_rfl) (fun _ _ _ h => h) (by kernel_rfl) (fun w hw => by (try dsimp only at hw); go_simp) hH ?_
  simp only [List.setIfInBounds_toArray, List.set_cons_zero, List.set_cons_succ]
  refine takeH 11 30 (.pointer (some ⟨b, 13, none⟩)) rfl (by kernel_rfl) (by kernel_rfl) (by kernel_rfl) (by kernel_rfl) (fun _ _ _ h => h) (by kernel_rfl) (fun w hw => by (try dsimp only at hw); go_simp) hH ?_
  simp only [List.setIfInBounds_toArray, List.set_cons_zero, List.set_cons_succ]
  refine takeH 12 31 (.pointer (some ⟨b, 15, none⟩)) rfl (by kernel_rfl) (by kernel_rfl) (by kernel_rfl) (by kernel_rfl) (fun _ _ _ h => h) (by kernel_rfl) (fun w hw => by (try dsimp only at hw); go_simp) hH ?_
  simp only [List.setIfInBounds_toArray, List.set_cons_zero, List.set_cons_succ]
  refine takeH 13 32 (.pointer (some ⟨b, 15 + q, none⟩)) rfl (by kernel_rfl) (by kernel_rfl) (by kernel_rfl) (by kernel_rfl) (fun _ _ _ h => h) (by kernel_rfl) (fun w hw => by (try dsimp only at hw); go_simp) hH ?_
  simp only [List.setIfInBounds_toArray, List.set_cons_zero, List.set_cons_succ]
  refine takeH 14 33 (.slice a2 L k2) rfl (by kernel_rfl) (by kernel_rfl) (by kernel_rfl) (by kernel_rfl) (fun _ _ _ h => h) (by kernel_rfl) (fun w hw => by (try dsimp only at hw); go_simp) hH ?_
  simp only [List.setIfInBounds_toArray, List.set_cons_zero, List.set_cons_succ]
  refine stepH_call 7 26 rfl (by kernel_rfl) (by kernel_rfl) (by kernel_rfl) 35 #[.tmp 25] #[39] (by kernel_rfl) (enters_of Try.func35 (by kernel_rfl) rfl) #[.slice a1 8 k1] (by kernel_rfl) (HC1.out _ hB1) ?_
  rintro e w5 ⟨v1, rfl, hO5, hB5⟩
  have hb5 : Below w.heap.size w w5 := hB1.trans (hB5.mono hB1.size)
  have hH5 := HK.out w5 hb5
  refine ⟨_, rfl, hH5, ?_⟩
  simp only [List.setIfInBounds_toArray, List.set_cons_zero, List.set_cons_succ]
  refine stepH_call 15 34 rfl (by kernel_rfl) (by kernel_rfl) (by kernel_rfl) 35 #[.tmp 33] #[39] (by kernel_rfl) (enters_of Try.func35 (by kernel_rfl) rfl) #[.slice a2 L k2] (by kernel_rfl) (HC2.out _ hb5) ?_
  rintro e w6 ⟨v2, rfl, hO6, hB6⟩
  have hb6 : Below w.heap.size w w6 := hb5.trans (hB6.mono hb5.size)
  have hH6 := HK.out w6 hb6
  refine ⟨_, rfl, hH6, ?_⟩
  simp only [List.setIfInBounds_toArray, List.set_cons_zero, List.set_cons_succ]
  refine takeH 16 4 (v1) rfl (by kernel_rfl) (by kernel_rfl) (by kernel_rfl) (by kernel_rfl) (fun _ _ _ h => h) (by kernel_rfl) (fun w hw => by kernel_rfl) hH6 ?_
  simp only [List.setIfInBounds_toArray, List.set_cons_zero, List.set_cons_succ]
  refine takeH 17 5 (v2) rfl (by kernel_rfl) (by kernel_rfl) (by kernel_rfl) (by kernel_rfl) (fun _ _ _ h => h) (by kernel_rfl) (fun w hw => by kernel_rfl) hH6 ?_
  simp only [List.setIfInBounds_toArray, List.set_cons_zero, List.set_cons_succ]
  refine wpAnyH_done (by kernel_rfl) ?_ _
  go_wp2
  go_ret2
  obtain ⟨r1, r2, r3⟩ := HR.out
  refine ⟨v1, v2, rfl, ⟨⟨xs, ?_, r1⟩, ⟨ys, ?_, r2⟩⟩, hb6⟩
  · exact owns_base (owns_at hO5 (fun k hk => hB6.block k (hO5.lt k hk).2)) hB1.size
  · rw [← r3]; exact owns_base hO6 hb5.size
set_option maxRecDepth 100000 in
theorem rbits_no (w : World) (r s u : Nat) (G I D : Int) (N M : Nat) (ti td : Nat → Bool) (h : RfAt w r s u G I D N M ti td) (group : Int) (hn : hdB G I D group = false) :
    Calls Try.prog 21 #[.pointer (some ⟨r, 0, none⟩), .int .i64 group] w fun e w' => e = .returned (.tuple #[.slice none 0 0, .slice none 0 0]) ∧ Below w.heap.size w w' := by
  obtain ⟨c0, c1, c2, c3, c4⟩ := h.sf
  have HH := Hid.mk (fun W => rhead_any W G I D group)
  rw [hn] at HH
  generalize hdI G I D group = x at *
  clear h hn
  go_enter Try.func21, Try.ntmps21
  go_wp2_with (go_at_call 36; refine (HH.out _).mono ?_; rintro e w1 ⟨rfl, hB1⟩)
  go_ret2
  exact ⟨rfl, hB1⟩
/-- While a row is made: where it lies, its first k bits, and all else as it was. -/
def RbI (w : World) (r s u : Nat) (G I D : Int) (N M : Nat) (ti td : Nat → Bool) (L k : Nat) (t : Nat → Bool) (o : Nat) (ao : Option Addr) (c : Nat) (W : World) : Prop :=
  Below w.heap.size w W ∧ RfAt W r s u G I D N M ti td ∧ (ao = none → L = 0 ∧ c = 0) ∧ ∃ xs, BAt W ao L xs ∧ PartIs L k t o xs
theorem RbI.new {w : World} {r s u : Nat} {G I D : Int} {N M : Nat} {ti td : Nat → Bool} {L k : Nat} {t : Nat → Bool} {o : Nat} {ao : Option Addr} {c : Nat} {W W' : World} (h : RbI w r s u G I D N M ti td L k t o ao c W) (hB : Below W.heap.size W W') : RbI w r s u G I D N M ti td L k t o ao c W' := by
  obtain ⟨h1, h2, h3, xs, h4, h5⟩ := h
  exact ⟨h1.trans (hB.mono h1.size), h2.below hB, h3, xs, h4.only (Only.of_new (fun _ => False) hB) (fun _ _ _ h => h), h5⟩
theorem RbI.with {w : World} {r s u : Nat} {G I D : Int} {N M : Nat} {ti td : Nat → Bool} {L k : Nat} {t : Nat → Bool} {o : Nat} {ao : Option Addr} {c : Nat} {W : World} (h : RbI w r s u G I D N M ti td L k t o ao c W) (hk : k < 8 * L) (hL : L ≤ 1000) :
    Calls Try.prog 37 #[.slice ao L c, .int .i64 k, .bool (t (o + k))] W fun e w' => ∃ ao' c', e = .returned (.slice ao' L c') ∧ RbI w r s u G I D N M ti td L (k + 1) t o ao' c' w' ∧ Below W.heap.size W w' := by
  obtain ⟨h1, h2, h3, xs, h4, h5⟩ := h
  refine (Bt.refwith_any W ao L c k ⟨by omega, by omega⟩ (t (o + k)) xs h4 h3 (by omega)).mono ?_
  rintro e w' ⟨v', rfl, hown, hB⟩
  obtain ⟨ao', c', rfl, hb, hap, hpos⟩ := owns_BAt hown
  refine ⟨ao', c', rfl, ⟨h1.trans (hB.mono h1.size), h2.below hB, fun e => ?_, _, hb, h5.step hk⟩, hB⟩
  rcases hown.2 with ⟨e', e0⟩ | ⟨g', cap, cur, e', _⟩
  · cases e'; exact ⟨rfl, rfl⟩
  · rw [e] at e'; cases e'
set_option maxRecDepth 100000 in
set_option maxHeartbeats 8000000 in
theorem rbits_yes (w : World) (r s u : Nat) (g i d : Nat) (hgd : good (g : Int) (i : Int) (d : Int) = true) (N M : Nat) (hN : N = g * (16 * i)) (hM : M = g * d) (ti td : Nat → Bool) (h : RfAt w r s u g i d N M ti td) (q : Nat) (hq : q < g) :
    Calls Try.prog 21 #[.pointer (some ⟨r, 0, none⟩), .int .i64 q] w fun e w' => ∃ a1 k1 a2 k2, e = .returned (.tuple #[.slice a1 8 k1, .slice a2 (byt d) k2]) ∧ (∃ xs, BAt w' a1 8 xs ∧ RowIs 8 (16 * i) ti q xs) ∧ (∃ ys, BAt w' a2 (byt d) ys ∧ RowIs (byt d) d td q ys) ∧ Below w.heap.size w w' := by
  have hbd := good_iff.1 hgd
  have HH := Hid.mk (fun W => rhead_any W g i d q)
  rw [(hd_yes hgd (by omega) (by omega)).1] at HH
  generalize hdI (g : Int) (i : Int) (d : Int) (q : Int) = hx at *
  obtain ⟨c0, c1, c2, c3, c4⟩ := h.sf
  have HR := Hid.mk h
  obtain ⟨s16, hs16⟩ : ∃ n, n = 16 * i := ⟨_, rfl⟩
  obtain ⟨L, hL⟩ : ∃ n, n = byt d := ⟨_, rfl⟩
  obtain ⟨q16, hq16⟩ : ∃ n, n = q * 16 := ⟨_, rfl⟩
  obtain ⟨q16i, hq16i⟩ : ∃ n, n = q * s16 := ⟨_, rfl⟩
  obtain ⟨qd, hqd⟩ : ∃ n, n = q * d := ⟨_, rfl⟩
  have hb1 : q16i ≤ 8 * 64 := by rw [hq16i, hs16]; exact Nat.mul_le_mul (show q ≤ 8 by omega) (show 16 * i ≤ 64 by omega)
  have hb2 : qd ≤ 8 * 1000 := by rw [hqd]; exact Nat.mul_le_mul (show q ≤ 8 by omega) (show d ≤ 1000 by omega)
  have w1' : IntKind.i64.wrap (16 * (i : Int)) = (s16 : Int) := by rw [IntKind.wrap_i64]; omega
  have w2' : IntKind.i64.wrap ((q : Int) * 16) = (q16 : Int) := by rw [IntKind.wrap_i64]; omega
  have w3' : IntKind.i64.wrap ((q16 : Int) * (i : Int)) = (q16i : Int) := by
    rw [show (q16 : Int) * (i : Int) = (q16i : Int) by rw [hq16, hq16i, hs16]; push_cast; rw [Int.mul_assoc], IntKind.wrap_i64]; omega
  have w4' : IntKind.i64.wrap ((q : Int) * (d : Int)) = (qd : Int) := by
    rw [show (q : Int) * (d : Int) = (qd : Int) by rw [hqd]; push_cast; rfl, IntKind.wrap_i64]; omega
  obtain ⟨d7, hd7⟩ : ∃ n, n = d + 7 := ⟨_, rfl⟩
  have w5' : IntKind.i64.wrap ((d : Int) + 7) = (d7 : Int) := by rw [IntKind.wrap_i64]; omega
  have w6' : Int.tdiv (d7 : Int) 8 = (L : Int) := by
    rw [Int.tdiv_eq_ediv_of_nonneg (by omega), hL, hd7]; unfold byt; omega
  have w7' : IntKind.i64.wrap (L : Int) = (L : Int) := by rw [IntKind.wrap_i64, hL]; unfold byt; omega
  have HF : Hid (s16 = 16 * i ∧ L = byt d ∧ q16i = q * s16 ∧ qd = q * d ∧ s16 ≤ 64 ∧ d ≤ 1000 ∧ L ≤ 126 ∧ d ≤ 8 * L ∧ q16i + s16 ≤ N ∧ qd + d ≤ M ∧ N ≤ 512 ∧ M ≤ 8000) := Hid.mk (by
    have m1 : (q + 1) * s16 ≤ g * s16 := Nat.mul_le_mul_right _ hq
    have m2 : (q + 1) * d ≤ g * d := Nat.mul_le_mul_right _ hq
    rw [Nat.add_mul, Nat.one_mul] at m1 m2
    have m3 : g * (16 * i) ≤ 8 * 64 := Nat.mul_le_mul (by omega) (by omega)
    have m4 : g * d ≤ 8 * 1000 := Nat.mul_le_mul (by omega) (by omega)
    rw [← hs16] at hN m3
    refine ⟨hs16, hL, hq16i, hqd, by omega, by omega, by rw [hL]; unfold byt; omega, by rw [hL]; unfold byt; omega, by omega, by omega, by omega, by omega⟩)
  clear hbd hgd hs16 hL hq16 hq16i hqd hb1 hb2 hd7 hN hM h hq
  go_enter Try.func21, Try.ntmps21
  go_wp2_with (first
    | (go_at_call 36; refine (HH.out _).mono ?_; rintro e w1 ⟨rfl, hB1⟩; have HR1 := Hid.mk (HR.out.below hB1); have HB1 := Hid.mk hB1; clear hB1)
    | (refine wpList_make_known rfl (.const (.int .i64 8)) (.const (.int .i64 8)) 39 rfl (.int .i64 ((8 : Nat) : Int)) (.int .i64 ((8 : Nat) : Int)) _ _ rfl rfl (make_run _ 8 (by omega)) ?_))
  go_loopw [8, 9] (fun xv kv wr => ∃ (k : Nat) (ao : Option Addr) (c : Nat), xv = .slice ao 8 c ∧ kv = .int .i64 k ∧ Hid (k ≤ s16 ∧ RbI w r s u g i d N M ti td 8 k ti q16i ao c wr)) (fun _ kv _ => s16 - (intOf kv).toNat)
  case atStart =>
    refine ⟨0, _, _, rfl, rfl, Hid.mk ⟨Nat.zero_le _, HB1.out.trans (((Below.refl _ w1).alloc (Nat.le_refl _) _).mono HB1.out.size), HR1.out.below ((Below.refl _ w1).alloc (Nat.le_refl _) _), (fun e => by cases e), zeros 8, ?_, PartIs.zero _ _ _⟩⟩
    have hR : RAt (w1.alloc (.cells (By (zeros 8)).toArray 5)) w1.heap.size (zeros 8) := blk_new w1 _
    exact hR.full rfl
  case round =>
    obtain ⟨k, ao, c, rfl, rfl, HK⟩ := hrel
    have hsf := HK.out.2.2.1.sf
    obtain ⟨d0, d1, d2, d3, d4⟩ := hsf
    by_cases hlt : (k : Int) < (s16 : Int)
    · obtain ⟨n, hn⟩ : ∃ n, n = q16i + k := ⟨_, rfl⟩
      have hF := HF.out
      have v1 : IntKind.i64.wrap ((q16i : Int) + (k : Int)) = (n : Int) := by rw [IntKind.wrap_i64]; omega
      have v2 : (0 : Int) ≤ (n : Int) := by omega
      have v3 : (n : Int) < (N : Int) := by omega
      have v4 : ((n : Int)).toNat = n := by simp
      obtain ⟨k1, hk1⟩ : ∃ n, n = k + 1 := ⟨_, rfl⟩
      have v5 : IntKind.i64.wrap ((k : Int) + 1) = (k1 : Int) := by rw [IntKind.wrap_i64]; omega
      have hcn := HK.out.2.2.1.si.cell (i := n) (by omega)
      have HS5 : Hid (∀ W k ao c, RbI w r s u g i d N M ti td 8 k ti q16i ao c W → W.cell? ⟨r, 3, none⟩ = some (.slice (some ⟨s, 0, none⟩) N N) ∧ W.cell? ⟨r, 1, none⟩ = some (.int .i64 i) ∧ W.cell? ⟨s, n, none⟩ = some (.bool (ti n))) := Hid.mk (fun W k ao c hW => ⟨hW.2.1.sf.c3, hW.2.1.sf.c1, hW.2.1.si.cell (by omega)⟩)
      have HKD : Hid (RbI w r s u g i d N M ti td 8 k ti q16i ao c wr.drew) := Hid.mk (HK.out.2.new ((Below.refl _ wr).drew))
      have HWI := Hid.mk (HKD.out.with (by omega) (by omega))
      rw [← hn] at HWI
      have HK1 : Hid (k1 = k + 1 ∧ k < s16) := Hid.mk ⟨hk1, by omega⟩
      clear hF hn hk1 HK HR HR1 HB1 HH
      go_wp2_with fail
      refine wp_region_held_drew (S := fun W => W.cell? ⟨r, 3, none⟩ = some (.slice (some ⟨s, 0, none⟩) N N) ∧ W.cell? ⟨r, 1, none⟩ = some (.int .i64 i) ∧ W.cell? ⟨s, n, none⟩ = some (.bool (ti n))) (by kernel_rfl) (HS5.out _ _ _ _ HKD.out) (fun hH => ?_)
      change wpAnyH Try.prog Region.Mode.any _ _ _ 20 _ _ _
      refine takeH 0 34 (.slice ao 8 c) rfl (by kernel_rfl) (by kernel_rfl) (by kernel_rfl) (by kernel_rfl) (fun _ _ _ h => h) (by kernel_rfl) (fun w hw => by kernel_rfl) hH ?_
      simp only [List.setIfInBounds_toArray, List.set_cons_zero, List.set_cons_succ]
      refine takeH 1 35 (.int .i64 k) rfl (by kernel_rfl) (by kernel_rfl) (by kernel_rfl) (by kernel_rfl) (fun _ _ _ h => h) (by kernel_rfl) (fun w hw => by kernel_rfl) hH ?_
      simp only [List.setIfInBounds_toArray, List.set_cons_zero, List.set_cons_succ]
      refine takeH 2 36 (.pointer (some ⟨r, 0, none⟩)) rfl (by kernel_rfl) (by kernel_rfl) (by kernel_rfl) (by kernel_rfl) (fun _ _ _ h => h) (by kernel_rfl) (fun w hw => by kernel_rfl) hH ?_
      simp only [List.setIfInBounds_toArray, List.set_cons_zero, List.set_cons_succ]
      refine takeH 3 37 (.pointer (some ⟨r, 0, none⟩)) rfl (by kernel_rfl) (by kernel_rfl) (by kernel_rfl) (by kernel_rfl) (fun _ _ _ h => h) (by kernel_rfl) (fun w hw => by (try dsimp only at hw); go_simp) hH ?_
      simp only [List.setIfInBounds_toArray, List.set_cons_zero, List.set_cons_succ]
      refine takeH 4 38 (.pointer (some ⟨r, 3, none⟩)) rfl (by kernel_rfl) (by kernel_rfl) (by kernel_rfl) (by kernel_rfl) (fun _ _ _ h => h) (by kernel_rfl) (fun w hw => by (try dsimp only at hw); go_simp) hH ?_
      simp only [List.setIfInBounds_toArray, List.set_cons_zero, List.set_cons_succ]
      refine takeH 5 39 (.slice (some ⟨s, 0, none⟩) N N) rfl (by kernel_rfl) (by kernel_rfl) (by kernel_rfl) (by kernel_rfl) (fun _ _ _ h => h) (by kernel_rfl) (fun w hw => by (try dsimp only at hw); go_simp) hH ?_
      simp only [List.setIfInBounds_toArray, List.set_cons_zero, List.set_cons_succ]
      refine takeH 6 40 (.int .i64 q) rfl (by kernel_rfl) (by kernel_rfl) (by kernel_rfl) (by kernel_rfl) (fun _ _ _ h => h) (by kernel_rfl) (fun w hw => by kernel_rfl) hH ?_
      simp only [List.setIfInBounds_toArray, List.set_cons_zero, List.set_cons_succ]
      refine takeH 7 41 (.int .i64 q16) rfl (by kernel_rfl) (by kernel_rfl) (by kernel_rfl) (by kernel_rfl) (fun _ _ _ h => h) (by kernel_rfl) (fun w hw => by (try dsimp only at hw); go_simp) hH ?_
      simp only [List.setIfInBounds_toArray, List.set_cons_zero, List.set_cons_succ]
      refine takeH 8 42 (.pointer (some ⟨r, 0, none⟩)) rfl (by kernel_rfl) (by kernel_rfl) (by kernel_rfl) (by kernel_rfl) (fun _ _ _ h => h) (by kernel_rfl) (fun w hw => by kernel_rfl) hH ?_
      simp only [List.setIfInBounds_toArray, List.set_cons_zero, List.set_cons_succ]
      refine takeH 9 43 (.pointer (some ⟨r, 0, none⟩)) rfl (by kernel_rfl) (by kernel_rfl) (by kernel_rfl) (by kernel_rfl) (fun _ _ _ h => h) (by kernel_rfl) (fun w hw => by (try dsimp only at hw); go_simp) hH ?_
      simp only [List.setIfInBounds_toArray, List.set_cons_zero, List.set_cons_succ]
      refine takeH 10 44 (.pointer (some ⟨r, 0, none⟩)) rfl (by kernel_rfl) (by kernel_rfl) (by kernel_rfl) (by kernel_rfl) (fun _ _ _ h => h) (by kernel_rfl) (fun w hw => by (try dsimp only at hw); go_simp) hH ?_
      simp only [List.setIfInBounds_toArray, List.set_cons_zero, List.set_cons_succ]
      refine takeH 11 45 (.pointer (some ⟨r, 1, none⟩)) rfl (by kernel_rfl) (by kernel_rfl) (by kernel_rfl) (by kernel_rfl) (fun _ _ _ h => h) (by kernel_rfl) (fun w hw => by (try dsimp only at hw); go_simp) hH ?_
      simp only [List.setIfInBounds_toArray, List.set_cons_zero, List.set_cons_succ]
      refine takeH 12 46 (.int .i64 i) rfl (by kernel_rfl) (by kernel_rfl) (by kernel_rfl) (by kernel_rfl) (fun _ _ _ h => h) (by kernel_rfl) (fun w hw => by (try dsimp only at hw); go_simp) hH ?_
      simp only [List.setIfInBounds_toArray, List.set_cons_zero, List.set_cons_succ]
      refine takeH 13 47 (.int .i64 q16i) rfl (by kernel_rfl) (by kernel_rfl) (by kernel_rfl) (by kernel_rfl) (fun _ _ _ h => h) (by kernel_rfl) (fun w hw => by (try dsimp only at hw); go_simp) hH ?_
      simp only [List.setIfInBounds_toArray, List.set_cons_zero, List.set_cons_succ]
      refine takeH 14 48 (.int .i64 k) rfl (by kernel_rfl) (by kernel_rfl) (by kernel_rfl) (by kernel_rfl) (fun _ _ _ h => h) (by kernel_rfl) (fun w hw => by kernel_rfl) hH ?_
      simp only [List.setIfInBounds_toArray, List.set_cons_zero, List.set_cons_succ]
      refine takeH 15 49 (.int .i64 n) rfl (by kernel_rfl) (by kernel_rfl) (by kernel_rfl) (by kernel_rfl) (fun _ _ _ h => h) (by kernel_rfl) (fun w hw => by (try dsimp only at hw); go_simp) hH ?_
      simp only [List.setIfInBounds_toArray, List.set_cons_zero, List.set_cons_succ]
      refine takeH 16 50 (.pointer (some ⟨s, n, none⟩)) rfl (by kernel_rfl) (by kernel_rfl) (by kernel_rfl) (by kernel_rfl) (fun _ _ _ h => h) (by kernel_rfl) (fun w hw => by (try dsimp only at hw); go_simp) hH ?_
      simp only [List.setIfInBounds_toArray, List.set_cons_zero, List.set_cons_succ]
      refine takeH 17 51 (.bool (ti n)) rfl (by kernel_rfl) (by kernel_rfl) (by kernel_rfl) (by kernel_rfl) (fun _ _ _ h => h) (by kernel_rfl) (fun w hw => by (try dsimp only at hw); go_simp) hH ?_
      simp only [List.setIfInBounds_toArray, List.set_cons_zero, List.set_cons_succ]
      refine stepH_call 18 52 rfl (by kernel_rfl) (by kernel_rfl) (by kernel_rfl) 37 #[.tmp 34, .tmp 35, .tmp 51] #[39, 3, 4] (by kernel_rfl) (enters_of Try.func37 (by kernel_rfl) rfl) #[.slice ao 8 c, .int .i64 k, .bool (ti n)] (by kernel_rfl) HWI.out ?_
      rintro e w5 ⟨ao5, c5, rfl, H5, hB5⟩
      have hH5 := HS5.out _ _ _ _ H5
      refine ⟨_, rfl, hH5, ?_⟩
      simp only [List.setIfInBounds_toArray, List.set_cons_zero, List.set_cons_succ]
      refine takeH 19 8 (.slice ao5 8 c5) rfl (by kernel_rfl) (by kernel_rfl) (by kernel_rfl) (by kernel_rfl) (fun _ _ _ h => h) (by kernel_rfl) (fun w hw => by kernel_rfl) hH5 ?_
      simp only [List.setIfInBounds_toArray, List.set_cons_zero, List.set_cons_succ]
      refine wpAnyH_done (by kernel_rfl) ?_ _
      have H5' := Hid.mk H5
      clear H5 hB5 hH hH5
      go_wp2
      go_roundw
      case rel =>
        obtain ⟨e1, e2⟩ := HK1.out
        refine ⟨k1, ao5, c5, rfl, rfl, Hid.mk ⟨by omega, ?_⟩⟩
        rw [e1]
        exact H5'.out
      case measure => (have := HK1.out; simp [intOf]; omega)
    · have HX : Hid (RfAt wr r s u g i d N M ti td ∧ Below w.heap.size w wr ∧ ∃ xs, BAt wr ao 8 xs ∧ RowIs 8 (16 * i) ti q xs) := Hid.mk (by
        obtain ⟨hk, hb, hr, _, xs, hB, hP⟩ := HK.out
        have hF := HF.out
        refine ⟨hr, hb, xs, hB, ?_⟩
        have e : k = s16 := by omega
        rw [e, hF.2.2.1] at hP
        rw [← hF.1]
        exact hP.row)
      clear HK HR HR1 HB1 HH
      go_wp2_with (refine wpList_make_known rfl (.tmp 59) (.tmp 59) 39 rfl (.int .i64 (L : Nat)) (.int .i64 (L : Nat)) _ _ rfl rfl (make_run _ L (by have := HF.out; omega)) ?_)
      go_loopw [10, 11] (fun xv kv wr => ∃ (k : Nat) (ao2 : Option Addr) (c2 : Nat), xv = .slice ao2 L c2 ∧ kv = .int .i64 k ∧ Hid (k ≤ d ∧ RbI w r s u g i d N M ti td L k td qd ao2 c2 wr ∧ ∃ xs, BAt wr ao 8 xs ∧ RowIs 8 (16 * i) ti q xs)) (fun _ kv _ => d - (intOf kv).toNat)
      case atStart =>
        obtain ⟨hr, hb, xs, hB, hRow⟩ := HX.out
        have hal : Below wr.heap.size wr (wr.alloc (.cells (By (zeros L)).toArray 5)) := (Below.refl _ wr).alloc (Nat.le_refl _) _
        have hR : RAt (wr.alloc (.cells (By (zeros L)).toArray 5)) wr.heap.size (zeros L) := blk_new wr _
        exact ⟨0, _, _, rfl, rfl, Hid.mk ⟨Nat.zero_le _, ⟨hb.trans (hal.mono hb.size), hr.below hal, (fun e => by cases e), zeros L, hR.full (zeros_length L), PartIs.zero _ _ _⟩, xs, hB.only (Only.of_new (fun _ => False) hal) (fun _ _ _ h => h), hRow⟩⟩
      case round =>
        obtain ⟨k, ao2, c2, rfl, rfl, HK⟩ := hrel
        have hsf := HK.out.2.1.2.1.sf
        obtain ⟨d0, d1, d2, d3, d4⟩ := hsf
        by_cases hlt2 : (k : Int) < (d : Int)
        · obtain ⟨n, hn⟩ : ∃ n, n = qd + k := ⟨_, rfl⟩
          have hF := HF.out
          have v1 : IntKind.i64.wrap ((qd : Int) + (k : Int)) = (n : Int) := by rw [IntKind.wrap_i64]; omega
          have v2 : (0 : Int) ≤ (n : Int) := by omega
          have v3 : (n : Int) < (M : Int) := by omega
          have v4 : ((n : Int)).toNat = n := by simp
          obtain ⟨k1, hk1⟩ : ∃ n, n = k + 1 := ⟨_, rfl⟩
          have v5 : IntKind.i64.wrap ((k : Int) + 1) = (k1 : Int) := by rw [IntKind.wrap_i64]; omega
          have HS5 : Hid (∀ W k ao c, RbI w r s u g i d N M ti td L k td qd ao c W → W.cell? ⟨r, 4, none⟩ = some (.slice (some ⟨u, 0, none⟩) M M) ∧ W.cell? ⟨r, 2, none⟩ = some (.int .i64 d) ∧ W.cell? ⟨u, n, none⟩ = some (.bool (td n))) := Hid.mk (fun W k ao c hW => ⟨hW.2.1.sf.c4, hW.2.1.sf.c2, hW.2.1.sd.cell (by omega)⟩)
          have HKD : Hid (RbI w r s u g i d N M ti td L k td qd ao2 c2 wr.drew) := Hid.mk (HK.out.2.1.new ((Below.refl _ wr).drew))
          have HWI := Hid.mk (HKD.out.with (by omega) (by omega))
          rw [← hn] at HWI
          have HK1 : Hid (k1 = k + 1 ∧ k < d) := Hid.mk ⟨hk1, by omega⟩
          have HXS := Hid.mk HK.out.2.2
          clear hF hn hk1 HK HX
          go_wp2_with fail
          refine wp_region_held_drew (S := fun W => W.cell? ⟨r, 4, none⟩ = some (.slice (some ⟨u, 0, none⟩) M M) ∧ W.cell? ⟨r, 2, none⟩ = some (.int .i64 d) ∧ W.cell? ⟨u, n, none⟩ = some (.bool (td n))) (by kernel_rfl) (HS5.out _ _ _ _ HKD.out) (fun hH => ?_)
          change wpAnyH Try.prog Region.Mode.any _ _ _ 19 _ _ _
          refine takeH 0 70 (.slice ao2 L c2) rfl (by kernel_rfl) (by kernel_rfl) (by kernel_rfl) (by kernel_rfl) (fun _ _ _ h => h) (by kernel_rfl) (fun w hw => by kernel_rfl) hH ?_
          simp only [List.setIfInBounds_toArray, List.set_cons_zero, List.set_cons_succ]
          refine takeH 1 71 (.int .i64 k) rfl (by kernel_rfl) (by kernel_rfl) (by kernel_rfl) (by kernel_rfl) (fun _ _ _ h => h) (by kernel_rfl) (fun w hw => by kernel_rfl) hH ?_
          simp only [List.setIfInBounds_toArray, List.set_cons_zero, List.set_cons_succ]
          refine takeH 2 72 (.pointer (some ⟨r, 0, none⟩)) rfl (by kernel_rfl) (by kernel_rfl) (by kernel_rfl) (by kernel_rfl) (fun _ _ _ h => h) (by kernel_rfl) (fun w hw => by kernel_rfl) hH ?_
          simp only [List.setIfInBounds_toArray, List.set_cons_zero, List.set_cons_succ]
          refine takeH 3 73 (.pointer (some ⟨r, 0, none⟩)) rfl (by kernel_rfl) (by kernel_rfl) (by kernel_rfl) (by kernel_rfl) (fun _ _ _ h => h) (by kernel_rfl) (fun w hw => by (try dsimp only at hw); go_simp) hH ?_
          simp only [List.setIfInBounds_toArray, List.set_cons_zero, List.set_cons_succ]
          refine takeH 4 74 (.pointer (some ⟨r, 4, none⟩)) rfl (by kernel_rfl) (by kernel_rfl) (by kernel_rfl) (by kernel_rfl) (fun _ _ _ h => h) (by kernel_rfl) (fun w hw => by (try dsimp only at hw); go_simp) hH ?_
          simp only [List.setIfInBounds_toArray, List.set_cons_zero, List.set_cons_succ]
          refine takeH 5 75 (.slice (some ⟨u, 0, none⟩) M M) rfl (by kernel_rfl) (by kernel_rfl) (by kernel_rfl) (by kernel_rfl) (fun _ _ _ h => h) (by kernel_rfl) (fun w hw => by (try dsimp only at hw); go_simp) hH ?_
          simp only [List.setIfInBounds_toArray, List.set_cons_zero, List.set_cons_succ]
          refine takeH 6 76 (.int .i64 q) rfl (by kernel_rfl) (by kernel_rfl) (by kernel_rfl) (by kernel_rfl) (fun _ _ _ h => h) (by kernel_rfl) (fun w hw => by kernel_rfl) hH ?_
          simp only [List.setIfInBounds_toArray, List.set_cons_zero, List.set_cons_succ]
          refine takeH 7 77 (.pointer (some ⟨r, 0, none⟩)) rfl (by kernel_rfl) (by kernel_rfl) (by kernel_rfl) (by kernel_rfl) (fun _ _ _ h => h) (by kernel_rfl) (fun w hw => by kernel_rfl) hH ?_
          simp only [List.setIfInBounds_toArray, List.set_cons_zero, List.set_cons_succ]
          refine takeH 8 78 (.pointer (some ⟨r, 0, none⟩)) rfl (by kernel_rfl) (by kernel_rfl) (by kernel_rfl) (by kernel_rfl) (fun _ _ _ h => h) (by kernel_rfl) (fun w hw => by (try dsimp only at hw); go_simp) hH ?_
          simp only [List.setIfInBounds_toArray, List.set_cons_zero, List.set_cons_succ]
          refine takeH 9 79 (.pointer (some ⟨r, 0, none⟩)) rfl (by kernel_rfl) (by kernel_rfl) (by kernel_rfl) (by kernel_rfl) (fun _ _ _ h => h) (by kernel_rfl) (fun w hw => by (try dsimp only at hw); go_simp) hH ?_
          simp only [List.setIfInBounds_toArray, List.set_cons_zero, List.set_cons_succ]
          refine takeH 10 80 (.pointer (some ⟨r, 2, none⟩)) rfl (by kernel_rfl) (by kernel_rfl) (by kernel_rfl) (by kernel_rfl) (fun _ _ _ h => h) (by kernel_rfl) (fun w hw => by (try dsimp only at hw); go_simp) hH ?_
          simp only [List.setIfInBounds_toArray, List.set_cons_zero, List.set_cons_succ]
          refine takeH 11 81 (.int .i64 d) rfl (by kernel_rfl) (by kernel_rfl) (by kernel_rfl) (by kernel_rfl) (fun _ _ _ h => h) (by kernel_rfl) (fun w hw => by (try dsimp only at hw); go_simp) hH ?_
          simp only [List.setIfInBounds_toArray, List.set_cons_zero, List.set_cons_succ]
          refine takeH 12 82 (.int .i64 qd) rfl (by kernel_rfl) (by kernel_rfl) (by kernel_rfl) (by kernel_rfl) (fun _ _ _ h => h) (by kernel_rfl) (fun w hw => by (try dsimp only at hw); go_simp) hH ?_
          simp only [List.setIfInBounds_toArray, List.set_cons_zero, List.set_cons_succ]
          refine takeH 13 83 (.int .i64 k) rfl (by kernel_rfl) (by kernel_rfl) (by kernel_rfl) (by kernel_rfl) (fun _ _ _ h => h) (by kernel_rfl) (fun w hw => by kernel_rfl) hH ?_
          simp only [List.setIfInBounds_toArray, List.set_cons_zero, List.set_cons_succ]
          refine takeH 14 84 (.int .i64 n) rfl (by kernel_rfl) (by kernel_rfl) (by kernel_rfl) (by kernel_rfl) (fun _ _ _ h => h) (by kernel_rfl) (fun w hw => by (try dsimp only at hw); go_simp) hH ?_
          simp only [List.setIfInBounds_toArray, List.set_cons_zero, List.set_cons_succ]
          refine takeH 15 85 (.pointer (some ⟨u, n, none⟩)) rfl (by kernel_rfl) (by kernel_rfl) (by kernel_rfl) (by kernel_rfl) (fun _ _ _ h => h) (by kernel_rfl) (fun w hw => by (try dsimp only at hw); go_simp) hH ?_
          simp only [List.setIfInBounds_toArray, List.set_cons_zero, List.set_cons_succ]
          refine takeH 16 86 (.bool (td n)) rfl (by kernel_rfl) (by kernel_rfl) (by kernel_rfl) (by kernel_rfl) (fun _ _ _ h => h) (by kernel_rfl) (fun w hw => by (try dsimp only at hw); go_simp) hH ?_
          simp only [List.setIfInBounds_toArray, List.set_cons_zero, List.set_cons_succ]
          refine stepH_call 17 87 rfl (by kernel_rfl) (by kernel_rfl) (by kernel_rfl) 37 #[.tmp 70, .tmp 71, .tmp 86] #[39, 3, 4] (by kernel_rfl) (enters_of Try.func37 (by kernel_rfl) rfl) #[.slice ao2 L c2, .int .i64 k, .bool (td n)] (by kernel_rfl) HWI.out ?_
          rintro e w5 ⟨ao5, c5, rfl, H5, hB5⟩
          have hH5 := HS5.out _ _ _ _ H5
          refine ⟨_, rfl, hH5, ?_⟩
          simp only [List.setIfInBounds_toArray, List.set_cons_zero, List.set_cons_succ]
          refine takeH 18 10 (.slice ao5 L c5) rfl (by kernel_rfl) (by kernel_rfl) (by kernel_rfl) (by kernel_rfl) (fun _ _ _ h => h) (by kernel_rfl) (fun w hw => by kernel_rfl) hH5 ?_
          simp only [List.setIfInBounds_toArray, List.set_cons_zero, List.set_cons_succ]
          refine wpAnyH_done (by kernel_rfl) ?_ _
          have H5' := Hid.mk H5
          have HB5 : Hid (Below _ wr w5) := Hid.mk (⟨hB5.os, hB5.tape, hB5.output, hB5.size, hB5.block⟩ : Below wr.heap.size wr w5)
          clear H5 hB5 hH hH5
          go_wp2
          go_roundw
          case rel =>
            obtain ⟨e1, e2⟩ := HK1.out
            obtain ⟨xs, hB, hRow⟩ := HXS.out
            refine ⟨k1, ao5, c5, rfl, rfl, Hid.mk ⟨by omega, ?_, xs, hB.only (Only.of_new (fun _ => False) HB5.out) (fun _ _ _ h => h), hRow⟩⟩
            rw [e1]
            exact H5'.out
          case measure => (have := HK1.out; simp [intOf]; omega)
        · have HY : Hid (Below w.heap.size w wr ∧ (∃ xs, BAt wr ao 8 xs ∧ RowIs 8 (16 * i) ti q xs) ∧ ∃ ys, BAt wr ao2 L ys ∧ RowIs (byt d) d td q ys) := Hid.mk (by
            obtain ⟨hk, ⟨hb, hr, _, ys, hB, hP⟩, hXs⟩ := HK.out
            have hF := HF.out
            refine ⟨hb, hXs, ys, hB, ?_⟩
            have e : k = d := by omega
            rw [e, hF.2.2.2.1, hF.2.1] at hP
            exact hP.row)
          clear HK HX
          go_wp2
          go_ret2
          obtain ⟨hb, hXs, ys, hB, hRow⟩ := HY.out
          have hF := HF.out
          rw [hF.2.1] at hB ⊢
          exact ⟨_, _, _, ⟨_, rfl⟩, hXs, ⟨ys, hB, hRow⟩, hb⟩
end Go.Proofs.Ytjhfkcngaknbdaa
