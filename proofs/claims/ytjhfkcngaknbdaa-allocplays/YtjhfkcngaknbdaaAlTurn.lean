/-
  What Take and Give do.
-/
import Derived.Test.YtjhfkcngaknbdaaAlCalls
namespace Go.Proofs.Ytjhfkcngaknbdaa
open Go Go.Proofs Go.RowKit Go.Shelf

theorem do_bound {G I D b : Int} (h : doB G I D b = true) : 0 ≤ doI G I D b ∧ doI G I D b < G * D := by
  obtain ⟨hg, h1, h2, h3⟩ := do_iff.1 h
  have hb := good_iff.1 hg
  rw [do_yes h]
  obtain ⟨e, e1, e2⟩ := divmod_of (b - 1) (1 + I + D) (by omega)
  have hq0 : 0 ≤ (b - 1) / (1 + I + D) := div_nonneg (by omega) (by omega)
  have hq1 : (b - 1) / (1 + I + D) < G := div_lt (by omega) (by omega)
  generalize (b - 1) / (1 + I + D) = q at *
  generalize (b - 1) % (1 + I + D) = r at *
  have m1 : 0 ≤ q * D := Int.mul_nonneg hq0 (by omega)
  have m2 : (q + 1) * D ≤ G * D := Int.mul_le_mul_of_nonneg_right (by omega) (by omega)
  rw [Int.add_mul, Int.one_mul] at m2
  omega
set_option maxRecDepth 100000 in
theorem inonum_any (w : World) (b g i d : Nat) (ti td : Nat → Bool) (h : AlAt w b g i d ti td) (ino : Int) (hi : I64 ino) :
    Calls Try.prog 47 #[.pointer (some ⟨b, 0, none⟩), .int .i64 ino] w fun e w' => e = .returned (.tuple #[.int .i64 (if grB g i d ino = true then ino - 1 else 0), .bool (grB g i d ino)]) ∧ Below w.heap.size w w' := by
  have c0 := h.c0
  have c1 := h.c1
  have c2 := h.c2
  have HGR := Hid.mk (fun w => group_any w g i d ino)
  cases hg : grB (g : Int) (i : Int) (d : Int) ino with
  | false =>
    rw [hg] at HGR
    rw [if_neg (by simp)]
    generalize grI (g : Int) (i : Int) (d : Int) ino = x at *
    generalize grN (g : Int) (i : Int) (d : Int) ino = y at *
    clear hg hi h
    go_enter Try.func47, Try.ntmps47
    go_wp2_with (go_at_call 57; refine (HGR.out _).mono ?_; rintro e w6 ⟨rfl, hB6⟩)
    go_ret2
    exact ⟨rfl, hB6⟩
  | true =>
    rw [hg] at HGR
    rw [if_pos rfl]
    have hw : IntKind.i64.wrap (ino - 1) = ino - 1 := by
      have := (gr_iff.1 hg).2.1
      have := hi.2
      rw [IntKind.wrap_i64]; omega
    generalize grI (g : Int) (i : Int) (d : Int) ino = x at *
    generalize grN (g : Int) (i : Int) (d : Int) ino = y at *
    clear hg hi h
    go_enter Try.func47, Try.ntmps47
    go_wp2_with (go_at_call 57; refine (HGR.out _).mono ?_; rintro e w6 ⟨rfl, hB6⟩)
    go_ret2
    exact ⟨rfl, hB6⟩
/-- What Take and Give answer, and what is taken behind them. -/
def tnI (g i d : Nat) (ti : Nat → Bool) (ino : Int) (on : Bool) : Bool := decide (ino = 0) || (grB g i d ino && (ti (ino - 1).toNat != on))
def tnB (g i d : Nat) (td : Nat → Bool) (bl : Int) (on : Bool) : Bool := decide (bl = 0) || (doB g i d bl && (td (doI g i d bl).toNat != on))
def tnG (g i d : Nat) (ti td : Nat → Bool) (ino bl : Int) (on : Bool) : Bool := tnI g i d ti ino on && tnB g i d td bl on
def tuI (g i d : Nat) (ti td : Nat → Bool) (ino bl : Int) (on : Bool) : Nat → Bool := if tnG g i d ti td ino bl on = true ∧ ino ≠ 0 then updT ti (ino - 1).toNat on else ti
def tuD (g i d : Nat) (ti td : Nat → Bool) (ino bl : Int) (on : Bool) : Nat → Bool := if tnG g i d ti td ino bl on = true ∧ bl ≠ 0 then updT td (doI g i d bl).toNat on else td
theorem bne_bool (x y : Bool) : (x != y) = !(x == y) := rfl
set_option maxRecDepth 100000 in
set_option maxHeartbeats 4000000 in
theorem turn_any (w : World) (b g i d : Nat) (ti td : Nat → Bool) (h : AlAt w b g i d ti td) (ino bl : Int) (hi : I64 ino) (on : Bool) :
    Calls Try.prog 32 #[.pointer (some ⟨b, 0, none⟩), .int .i64 ino, .int .i64 bl, .bool on] w fun e w' => e = .returned (.bool (tnG g i d ti td ino bl on)) ∧ AlAt w' b g i d (tuI g i d ti td ino bl on) (tuD g i d ti td ino bl on) ∧ Only (fun k => k = b) w w' := by
  obtain ⟨f1, f2, g8, i4, d1⟩ := h.fits
  have c0 := h.c0
  have c1 := h.c1
  have c2 := h.c2
  have HNUM : Hid (Calls Try.prog 47 #[.pointer (some ⟨b, 0, none⟩), .int .i64 ino] w fun e w' => e = .returned (.tuple #[.int .i64 (if grB g i d ino = true then ino - 1 else 0), .bool (grB g i d ino)]) ∧ Below w.heap.size w w') := Hid.mk (inonum_any w b g i d ti td h ino hi)
  have HDO := Hid.mk (fun w => wdataof_any w g i d bl)
  have HAB : Hid (∀ W, Below w.heap.size w W → AlAt W b g i d ti td) := Hid.mk (fun W hB => h.below hB)
  have HTI : Hid (∀ W n, n < g * (16 * i) → Below w.heap.size w W → Calls Try.prog 48 #[.pointer (some ⟨b, 3, none⟩), .int .i64 (n : Nat)] W fun e w' => e = .returned (.bool (ti n)) ∧ Below W.heap.size W w') := Hid.mk (fun W n hn hB => taken_any W b 3 g (16 * i) 8 ti (h.below hB).ino f1 n hn)
  have HTD : Hid (∀ W n, n < g * d → Below w.heap.size w W → Calls Try.prog 48 #[.pointer (some ⟨b, 13, none⟩), .int .i64 (n : Nat)] W fun e w' => e = .returned (.bool (td n)) ∧ Below W.heap.size W w') := Hid.mk (fun W n hn hB => taken_any W b 13 g d (byt d) td (h.below hB).dat f2 n hn)
  have HSI : Hid (∀ W n, n < g * (16 * i) → Below w.heap.size w W → Calls Try.prog 45 #[.pointer (some ⟨b, 3, none⟩), .int .i64 (n : Nat), .bool on] W fun e w' => ∃ v, e = .returned v ∧ AlAt w' b g i d (updT ti n on) td ∧ Only (fun k => k = b) w w') := Hid.mk (fun W n hn hB => by
    refine (set_any W b 3 g (16 * i) 8 ti (h.below hB).ino f1 n hn on).mono ?_
    rintro e w' ⟨⟨v, rfl⟩, hP, hT⟩
    exact ⟨v, rfl, (h.below hB).turnI hT hP, (Only.of_new _ hB).trans hT.only (fun _ e => .inl e)⟩)
  have HSD : Hid (∀ W n ti', n < g * d → AlAt W b g i d ti' td → Only (fun k => k = b) w W → Calls Try.prog 45 #[.pointer (some ⟨b, 13, none⟩), .int .i64 (n : Nat), .bool on] W fun e w' => ∃ v, e = .returned v ∧ AlAt w' b g i d ti' (updT td n on) ∧ Only (fun k => k = b) w w') := Hid.mk (fun W n ti' hn hA hO => by
    refine (set_any W b 13 g d (byt d) td hA.dat f2 n hn on).mono ?_
    rintro e w' ⟨⟨v, rfl⟩, hP, hT⟩
    exact ⟨v, rfl, hA.turnD hT hP, hO.trans hT.only (fun _ e => .inl e)⟩)
  have HBND : Hid (∀ n : Nat, ino - 1 = n → grB (g : Int) (i : Int) (d : Int) ino = true → n < g * (16 * i)) := Hid.mk (fun n hn hg => by
    have h1 := (gr_iff.1 hg).2.2
    have h2 : ((g * (16 * i) : Nat) : Int) = (g : Int) * ((i : Int) * 16) := by push_cast; rw [Int.mul_comm 16]
    omega)
  have HBNB : Hid (∀ m : Nat, doI (g : Int) (i : Int) (d : Int) bl = m → doB (g : Int) (i : Int) (d : Int) bl = true → m < g * d) := Hid.mk (fun m hm hg => by
    have h1 := (do_bound hg).2
    have h2 : ((g * d : Nat) : Int) = (g : Int) * (d : Int) := by push_cast; rfl
    omega)
  have HAT := Hid.mk h
  clear f1 f2 g8 i4 d1 h
  by_cases hz : ino = 0
  · subst hz
    have hg0 : grB (g : Int) (i : Int) (d : Int) 0 = false := gr_not (.inr (.inl (by omega)))
    rw [hg0, if_neg (by simp)] at HNUM
    clear hg0
    by_cases kz : bl = 0
    · subst kz
      have sG : tnG g i d ti td 0 0 on = true := by unfold tnG tnI tnB; simp
      have sI : tuI g i d ti td 0 0 on = ti := by unfold tuI; rw [if_neg (by simp)]
      have sD : tuD g i d ti td 0 0 on = td := by unfold tuD; rw [if_neg (by simp)]
      rw [sG, sI, sD]
      clear sG sI sD
      generalize doI (g : Int) (i : Int) (d : Int) 0 = xo at *
      generalize doB (g : Int) (i : Int) (d : Int) 0 = xb at *
      clear HTI HTD HSI HSD HBND HBNB HAT hi
      go_enter Try.func32, Try.ntmps32
      go_wp2_with (first
        | (go_at_call 47; refine HNUM.out.mono ?_; rintro e w1 ⟨rfl, hB1⟩; have hb1 := Hid.mk hB1; have d0 := (HAB.out _ hB1).c0; have d1 := (HAB.out _ hB1).c1; have d2 := (HAB.out _ hB1).c2; clear hB1)
        | (go_at_call 49; refine (HDO.out _).mono ?_; rintro e w3 ⟨rfl, hB3⟩; have hb3 : Hid (Below w.heap.size w w3) := Hid.mk (hb1.out.trans (hB3.mono hb1.out.size)); clear hB3))
      go_ret
      exact ⟨rfl, HAB.out _ hb3.out, Only.of_new _ hb3.out⟩
    · have kx : (bl == 0) = false := by simpa using kz
      cases kg : doB (g : Int) (i : Int) (d : Int) bl with
      | false =>
        have sG : tnG g i d ti td 0 bl on = false := by unfold tnG tnI tnB; rw [decide_eq_false kz, kg]; simp
        have sI : tuI g i d ti td 0 bl on = ti := by unfold tuI; rw [if_neg (by simp)]
        have sD : tuD g i d ti td 0 bl on = td := by unfold tuD; rw [if_neg (by simp [sG])]
        rw [sG, sI, sD]
        clear sG sI sD
        rw [kg] at HDO
        generalize doI (g : Int) (i : Int) (d : Int) bl = xo at *
        clear HTI HTD HSI HSD HBND HBNB HAT hi kg
        go_enter Try.func32, Try.ntmps32
        go_wp2_with (first
          | (go_at_call 47; refine HNUM.out.mono ?_; rintro e w1 ⟨rfl, hB1⟩; have hb1 := Hid.mk hB1; have d0 := (HAB.out _ hB1).c0; have d1 := (HAB.out _ hB1).c1; have d2 := (HAB.out _ hB1).c2; clear hB1)
          | (go_at_call 49; refine (HDO.out _).mono ?_; rintro e w3 ⟨rfl, hB3⟩; have hb3 : Hid (Below w.heap.size w w3) := Hid.mk (hb1.out.trans (hB3.mono hb1.out.size)); clear hB3))
        go_ret
        exact ⟨rfl, HAB.out _ hb3.out, Only.of_new _ hb3.out⟩
      | true =>
        obtain ⟨m, hm⟩ : ∃ m : Nat, doI (g : Int) (i : Int) (d : Int) bl = m := ⟨(doI (g : Int) (i : Int) (d : Int) bl).toNat, by have := (do_bound kg).1; omega⟩
        have hmb := HBNB.out m hm kg
        have hmt : (doI (g : Int) (i : Int) (d : Int) bl).toNat = m := by rw [hm]; simp
        by_cases htb : td m = on
        · have htB : td (doI (g : Int) (i : Int) (d : Int) bl).toNat = on := by rw [hmt]; exact htb
          have sG : tnG g i d ti td 0 bl on = false := by unfold tnG tnI tnB; rw [decide_eq_false kz, kg, htB]; simp
          have sI : tuI g i d ti td 0 bl on = ti := by unfold tuI; rw [if_neg (by simp)]
          have sD : tuD g i d ti td 0 bl on = td := by unfold tuD; rw [if_neg (by simp [sG])]
          rw [sG, sI, sD]
          clear sG sI sD
          have HTAKB := Hid.mk (fun W hB => HTD.out W m hmb hB)
          rw [htb] at HTAKB
          rw [hm, kg] at HDO
          have eon : (on == on) = true := by simp
          clear HTI HTD HSI HSD HBND HBNB HAT hi kg hm hmt htB htb
          go_enter Try.func32, Try.ntmps32
          go_wp2_with (first
            | (go_at_call 47; refine HNUM.out.mono ?_; rintro e w1 ⟨rfl, hB1⟩; have hb1 := Hid.mk hB1; have d0 := (HAB.out _ hB1).c0; have d1 := (HAB.out _ hB1).c1; have d2 := (HAB.out _ hB1).c2; clear hB1)
            | (go_at_call 49; refine (HDO.out _).mono ?_; rintro e w3 ⟨rfl, hB3⟩; have hb3 : Hid (Below w.heap.size w w3) := Hid.mk (hb1.out.trans (hB3.mono hb1.out.size)); clear hB3)
            | (go_at_call 48; have HXB := HTAKB; refine (HXB.out _ hb3.out).mono ?_; rintro e w4 ⟨rfl, hB4⟩; have hb4 : Hid (Below w.heap.size w w4) := Hid.mk (hb3.out.trans (hB4.mono hb3.out.size)); clear hB4 HTAKB HXB))
          go_ret
          exact ⟨rfl, HAB.out _ hb4.out, Only.of_new _ hb4.out⟩
        · have htx : td m = !on := by revert htb; cases td m <;> cases on <;> simp
          have htB : td (doI (g : Int) (i : Int) (d : Int) bl).toNat = !on := by rw [hmt]; exact htx
          have sG : tnG g i d ti td 0 bl on = true := by unfold tnG tnI tnB; rw [decide_eq_false kz, kg, htB]; simp
          have sI : tuI g i d ti td 0 bl on = ti := by unfold tuI; rw [if_neg (by simp)]
          have sD : tuD g i d ti td 0 bl on = updT td m on := by unfold tuD; rw [sG, if_pos ⟨rfl, kz⟩, hm]; simp
          rw [sG, sI, sD]
          clear sG sI sD
          have HTAKB := Hid.mk (fun W hB => HTD.out W m hmb hB)
          have HSETB := Hid.mk (fun W ti' hA hO => HSD.out W m ti' hmb hA hO)
          rw [htx] at HTAKB
          rw [hm, kg] at HDO
          have eon2 : ((!on) == on) = false := by simp
          clear HTI HTD HSI HSD HBND HBNB HAT hi kg hm hmt htB htb htx
          go_enter Try.func32, Try.ntmps32
          go_wp2_with (first
            | (go_at_call 47; refine HNUM.out.mono ?_; rintro e w1 ⟨rfl, hB1⟩; have hb1 := Hid.mk hB1; have d0 := (HAB.out _ hB1).c0; have d1 := (HAB.out _ hB1).c1; have d2 := (HAB.out _ hB1).c2; clear hB1)
            | (go_at_call 49; refine (HDO.out _).mono ?_; rintro e w3 ⟨rfl, hB3⟩; have hb3 : Hid (Below w.heap.size w w3) := Hid.mk (hb1.out.trans (hB3.mono hb1.out.size)); clear hB3)
            | (go_at_call 48; have HXB := HTAKB; refine (HXB.out _ hb3.out).mono ?_; rintro e w4 ⟨rfl, hB4⟩; have hb4 : Hid (Below w.heap.size w w4) := Hid.mk (hb3.out.trans (hB4.mono hb3.out.size)); clear hB4 HTAKB HXB)
            | (go_at_call 45; have HYB := HSETB; refine (HYB.out _ _ (HAB.out _ hb4.out) (Only.of_new _ hb4.out)).mono ?_; rintro e w7 ⟨v7, rfl, hA7, hO7⟩))
          go_ret
          exact ⟨rfl, hA7, hO7⟩
  · have hx : (ino == 0) = false := by simpa using hz
    cases hg : grB (g : Int) (i : Int) (d : Int) ino with
    | false =>
      rw [hg, if_neg (by simp)] at HNUM
      have sG : tnG g i d ti td ino bl on = false := by unfold tnG tnI; rw [decide_eq_false hz, hg]; simp
      have sI : tuI g i d ti td ino bl on = ti := by unfold tuI; rw [if_neg (by simp [sG])]
      have sD : tuD g i d ti td ino bl on = td := by unfold tuD; rw [if_neg (by simp [sG])]
      rw [sG, sI, sD]
      clear sG sI sD
      clear HTI HTD HSI HSD HBND HBNB HAT HDO hi hg
      go_enter Try.func32, Try.ntmps32
      go_wp2_with (first
        | (go_at_call 47; refine HNUM.out.mono ?_; rintro e w1 ⟨rfl, hB1⟩; have hb1 := Hid.mk hB1; have d0 := (HAB.out _ hB1).c0; have d1 := (HAB.out _ hB1).c1; have d2 := (HAB.out _ hB1).c2; clear hB1))
      go_ret
      exact ⟨rfl, HAB.out _ hb1.out, Only.of_new _ hb1.out⟩
    | true =>
      rw [hg, if_pos rfl] at HNUM
      obtain ⟨n, hn⟩ : ∃ n : Nat, ino - 1 = n := ⟨(ino - 1).toNat, by have := (gr_iff.1 hg).2.1; omega⟩
      have hnb := HBND.out n hn hg
      rw [hn] at HNUM
      by_cases hti : ti n = on
      · have htI : ti (ino - 1).toNat = on := by rw [hn]; exact hti
        have HTAKI := Hid.mk (fun W hB => HTI.out W n hnb hB)
        rw [hti] at HTAKI
        have eon : (on == on) = true := by simp
        have sG : tnG g i d ti td ino bl on = false := by unfold tnG tnI; rw [decide_eq_false hz, hg, htI]; simp
        have sI : tuI g i d ti td ino bl on = ti := by unfold tuI; rw [if_neg (by simp [sG])]
        have sD : tuD g i d ti td ino bl on = td := by unfold tuD; rw [if_neg (by simp [sG])]
        rw [sG, sI, sD]
        clear sG sI sD
        clear HTI HTD HSI HSD HBND HBNB HAT HDO hi hg htI
        go_enter Try.func32, Try.ntmps32
        go_wp2_with (first
          | (go_at_call 47; refine HNUM.out.mono ?_; rintro e w1 ⟨rfl, hB1⟩; have hb1 := Hid.mk hB1; have d0 := (HAB.out _ hB1).c0; have d1 := (HAB.out _ hB1).c1; have d2 := (HAB.out _ hB1).c2; clear hB1)
          | (go_at_call 48; have HXI := HTAKI; refine (HXI.out _ hb1.out).mono ?_; rintro e w2 ⟨rfl, hB2⟩; have hb2 : Hid (Below w.heap.size w w2) := Hid.mk (hb1.out.trans (hB2.mono hb1.out.size)); have d3 := (HAB.out _ hb2.out).c0; have d4 := (HAB.out _ hb2.out).c1; have d5 := (HAB.out _ hb2.out).c2; clear hB2 HTAKI HXI))
        go_ret
        exact ⟨rfl, HAB.out _ hb2.out, Only.of_new _ hb2.out⟩
      · have htx : ti n = !on := by revert hti; cases ti n <;> cases on <;> simp
        have htI : ti (ino - 1).toNat = !on := by rw [hn]; exact htx
        have HTAKI := Hid.mk (fun W hB => HTI.out W n hnb hB)
        have HSETI := Hid.mk (fun W hB => HSI.out W n hnb hB)
        rw [htx] at HTAKI
        have eon3 : ((!on) == on) = false := by simp
        by_cases kz : bl = 0
        · subst kz
          have sG : tnG g i d ti td ino 0 on = true := by unfold tnG tnI tnB; rw [decide_eq_false hz, hg, htI]; simp
          have sI : tuI g i d ti td ino 0 on = updT ti n on := by unfold tuI; rw [sG, if_pos ⟨rfl, hz⟩, hn]; simp
          have sD : tuD g i d ti td ino 0 on = td := by unfold tuD; rw [if_neg (by simp)]
          rw [sG, sI, sD]
          clear sG sI sD
          generalize doI (g : Int) (i : Int) (d : Int) 0 = xo at *
          generalize doB (g : Int) (i : Int) (d : Int) 0 = xb at *
          clear HTI HTD HSI HSD HBND HBNB HAT hi hg htI
          go_enter Try.func32, Try.ntmps32
          go_wp2_with (first
            | (go_at_call 47; refine HNUM.out.mono ?_; rintro e w1 ⟨rfl, hB1⟩; have hb1 := Hid.mk hB1; have d0 := (HAB.out _ hB1).c0; have d1 := (HAB.out _ hB1).c1; have d2 := (HAB.out _ hB1).c2; clear hB1)
            | (go_at_call 48; have HXI := HTAKI; refine (HXI.out _ hb1.out).mono ?_; rintro e w2 ⟨rfl, hB2⟩; have hb2 : Hid (Below w.heap.size w w2) := Hid.mk (hb1.out.trans (hB2.mono hb1.out.size)); have d3 := (HAB.out _ hb2.out).c0; have d4 := (HAB.out _ hb2.out).c1; have d5 := (HAB.out _ hb2.out).c2; clear hB2 HTAKI HXI)
            | (go_at_call 49; refine (HDO.out _).mono ?_; rintro e w3 ⟨rfl, hB3⟩; have hb3 : Hid (Below w.heap.size w w3) := Hid.mk (hb2.out.trans (hB3.mono hb2.out.size)); clear hB3)
            | (go_at_call 45; have HYI := HSETI; refine (HYI.out _ hb3.out).mono ?_; rintro e w6 ⟨v6, rfl, hA6, hO6⟩; have HA6 := Hid.mk hA6; have HO6 := Hid.mk hO6; clear hA6 hO6 HSETI HYI))
          go_ret
          exact ⟨rfl, HA6.out, HO6.out⟩
        · have kx : (bl == 0) = false := by simpa using kz
          cases kg : doB (g : Int) (i : Int) (d : Int) bl with
          | false =>
            have sG : tnG g i d ti td ino bl on = false := by unfold tnG tnI tnB; rw [decide_eq_false hz, hg, htI, decide_eq_false kz, kg]; simp
            have sI : tuI g i d ti td ino bl on = ti := by unfold tuI; rw [if_neg (by simp [sG])]
            have sD : tuD g i d ti td ino bl on = td := by unfold tuD; rw [if_neg (by simp [sG])]
            rw [sG, sI, sD]
            clear sG sI sD
            rw [kg] at HDO
            generalize doI (g : Int) (i : Int) (d : Int) bl = xo at *
            clear HTI HTD HSI HSD HBND HBNB HAT hi kg hg htI HSETI
            go_enter Try.func32, Try.ntmps32
            go_wp2_with (first
              | (go_at_call 47; refine HNUM.out.mono ?_; rintro e w1 ⟨rfl, hB1⟩; have hb1 := Hid.mk hB1; have d0 := (HAB.out _ hB1).c0; have d1 := (HAB.out _ hB1).c1; have d2 := (HAB.out _ hB1).c2; clear hB1)
              | (go_at_call 48; have HXI := HTAKI; refine (HXI.out _ hb1.out).mono ?_; rintro e w2 ⟨rfl, hB2⟩; have hb2 : Hid (Below w.heap.size w w2) := Hid.mk (hb1.out.trans (hB2.mono hb1.out.size)); have d3 := (HAB.out _ hb2.out).c0; have d4 := (HAB.out _ hb2.out).c1; have d5 := (HAB.out _ hb2.out).c2; clear hB2 HTAKI HXI)
              | (go_at_call 49; refine (HDO.out _).mono ?_; rintro e w3 ⟨rfl, hB3⟩; have hb3 : Hid (Below w.heap.size w w3) := Hid.mk (hb2.out.trans (hB3.mono hb2.out.size)); clear hB3))
            go_ret
            exact ⟨rfl, HAB.out _ hb3.out, Only.of_new _ hb3.out⟩
          | true =>
            obtain ⟨m, hm⟩ : ∃ m : Nat, doI (g : Int) (i : Int) (d : Int) bl = m := ⟨(doI (g : Int) (i : Int) (d : Int) bl).toNat, by have := (do_bound kg).1; omega⟩
            have hmb := HBNB.out m hm kg
            have hmt : (doI (g : Int) (i : Int) (d : Int) bl).toNat = m := by rw [hm]; simp
            by_cases htb : td m = on
            · have htB : td (doI (g : Int) (i : Int) (d : Int) bl).toNat = on := by rw [hmt]; exact htb
              have sG : tnG g i d ti td ino bl on = false := by unfold tnG tnI tnB; rw [decide_eq_false hz, hg, htI, decide_eq_false kz, kg, htB]; simp
              have sI : tuI g i d ti td ino bl on = ti := by unfold tuI; rw [if_neg (by simp [sG])]
              have sD : tuD g i d ti td ino bl on = td := by unfold tuD; rw [if_neg (by simp [sG])]
              rw [sG, sI, sD]
              clear sG sI sD
              have HTAKB := Hid.mk (fun W hB => HTD.out W m hmb hB)
              rw [htb] at HTAKB
              rw [hm, kg] at HDO
              have eon : (on == on) = true := by simp
              clear HTI HTD HSI HSD HBND HBNB HAT hi kg hm hmt htB htb hg htI HSETI
              go_enter Try.func32, Try.ntmps32
              go_wp2_with (first
                | (go_at_call 47; refine HNUM.out.mono ?_; rintro e w1 ⟨rfl, hB1⟩; have hb1 := Hid.mk hB1; have d0 := (HAB.out _ hB1).c0; have d1 := (HAB.out _ hB1).c1; have d2 := (HAB.out _ hB1).c2; clear hB1)
                | (go_at_call 48; have HXI := HTAKI; refine (HXI.out _ hb1.out).mono ?_; rintro e w2 ⟨rfl, hB2⟩; have hb2 : Hid (Below w.heap.size w w2) := Hid.mk (hb1.out.trans (hB2.mono hb1.out.size)); have d3 := (HAB.out _ hb2.out).c0; have d4 := (HAB.out _ hb2.out).c1; have d5 := (HAB.out _ hb2.out).c2; clear hB2 HTAKI HXI)
                | (go_at_call 49; refine (HDO.out _).mono ?_; rintro e w3 ⟨rfl, hB3⟩; have hb3 : Hid (Below w.heap.size w w3) := Hid.mk (hb2.out.trans (hB3.mono hb2.out.size)); clear hB3)
                | (go_at_call 48; have HXB := HTAKB; refine (HXB.out _ hb3.out).mono ?_; rintro e w4 ⟨rfl, hB4⟩; have hb4 : Hid (Below w.heap.size w w4) := Hid.mk (hb3.out.trans (hB4.mono hb3.out.size)); clear hB4 HTAKB HXB))
              go_ret
              exact ⟨rfl, HAB.out _ hb4.out, Only.of_new _ hb4.out⟩
            · have htx : td m = !on := by revert htb; cases td m <;> cases on <;> simp
              have htB : td (doI (g : Int) (i : Int) (d : Int) bl).toNat = !on := by rw [hmt]; exact htx
              have sG : tnG g i d ti td ino bl on = true := by unfold tnG tnI tnB; rw [decide_eq_false hz, hg, htI, decide_eq_false kz, kg, htB]; simp
              have sI : tuI g i d ti td ino bl on = updT ti n on := by unfold tuI; rw [sG, if_pos ⟨rfl, hz⟩, hn]; simp
              have sD : tuD g i d ti td ino bl on = updT td m on := by unfold tuD; rw [sG, if_pos ⟨rfl, kz⟩, hm]; simp
              rw [sG, sI, sD]
              clear sG sI sD
              have HTAKB := Hid.mk (fun W hB => HTD.out W m hmb hB)
              have HSETB := Hid.mk (fun W ti' hA hO => HSD.out W m ti' hmb hA hO)
              rw [htx] at HTAKB
              rw [hm, kg] at HDO
              have eon2 : ((!on) == on) = false := by simp
              clear HTI HTD HSI HSD HBND HBNB HAT hi kg hm hmt htB htb htx hg htI
              go_enter Try.func32, Try.ntmps32
              go_wp2_with (first
                | (go_at_call 47; refine HNUM.out.mono ?_; rintro e w1 ⟨rfl, hB1⟩; have hb1 := Hid.mk hB1; have d0 := (HAB.out _ hB1).c0; have d1 := (HAB.out _ hB1).c1; have d2 := (HAB.out _ hB1).c2; clear hB1)
                | (go_at_call 48; have HXI := HTAKI; refine (HXI.out _ hb1.out).mono ?_; rintro e w2 ⟨rfl, hB2⟩; have hb2 : Hid (Below w.heap.size w w2) := Hid.mk (hb1.out.trans (hB2.mono hb1.out.size)); have d3 := (HAB.out _ hb2.out).c0; have d4 := (HAB.out _ hb2.out).c1; have d5 := (HAB.out _ hb2.out).c2; clear hB2 HTAKI HXI)
                | (go_at_call 49; refine (HDO.out _).mono ?_; rintro e w3 ⟨rfl, hB3⟩; have hb3 : Hid (Below w.heap.size w w3) := Hid.mk (hb2.out.trans (hB3.mono hb2.out.size)); clear hB3)
                | (go_at_call 48; have HXB := HTAKB; refine (HXB.out _ hb3.out).mono ?_; rintro e w4 ⟨rfl, hB4⟩; have hb4 : Hid (Below w.heap.size w w4) := Hid.mk (hb3.out.trans (hB4.mono hb3.out.size)); clear hB4 HTAKB HXB)
                | (go_at_call 45; have HYI := HSETI; refine (HYI.out _ hb4.out).mono ?_; rintro e w6 ⟨v6, rfl, hA6, hO6⟩; have HA6 := Hid.mk hA6; have HO6 := Hid.mk hO6; clear hA6 hO6 HSETI HYI)
                | (go_at_call 45; have HYB := HSETB; refine (HYB.out _ _ HA6.out HO6.out).mono ?_; rintro e w7 ⟨v7, rfl, hA7, hO7⟩))
              go_ret
              exact ⟨rfl, hA7, hO7⟩
set_option maxRecDepth 100000 in
theorem take_any (w : World) (b g i d : Nat) (ti td : Nat → Bool) (h : AlAt w b g i d ti td) (ino bl : Int) (hi : I64 ino) :
    Calls Try.prog 15 #[.pointer (some ⟨b, 0, none⟩), .int .i64 ino, .int .i64 bl] w fun e w' => e = .returned (.bool (tnG g i d ti td ino bl true)) ∧ AlAt w' b g i d (tuI g i d ti td ino bl true) (tuD g i d ti td ino bl true) ∧ Only (fun k => k = b) w w' := by
  have HC := Hid.mk (turn_any w b g i d ti td h ino bl hi true)
  clear h
  generalize tnG g i d ti td ino bl true = r at *
  go_enter Try.func15, Try.ntmps15
  go_wp2_with (go_at_call 32; refine HC.out.mono ?_; rintro e w5 ⟨rfl, hA, hO⟩)
  go_ret
  exact ⟨rfl, hA, hO⟩
set_option maxRecDepth 100000 in
theorem give_any (w : World) (b g i d : Nat) (ti td : Nat → Bool) (h : AlAt w b g i d ti td) (ino bl : Int) (hi : I64 ino) :
    Calls Try.prog 17 #[.pointer (some ⟨b, 0, none⟩), .int .i64 ino, .int .i64 bl] w fun e w' => e = .returned (.bool (tnG g i d ti td ino bl false)) ∧ AlAt w' b g i d (tuI g i d ti td ino bl false) (tuD g i d ti td ino bl false) ∧ Only (fun k => k = b) w w' := by
  have HC := Hid.mk (turn_any w b g i d ti td h ino bl hi false)
  clear h
  generalize tnG g i d ti td ino bl false = r at *
  go_enter Try.func17, Try.ntmps17
  go_wp2_with (go_at_call 32; refine HC.out.mono ?_; rintro e w5 ⟨rfl, hA, hO⟩)
  go_ret
  exact ⟨rfl, hA, hO⟩
end Go.Proofs.Ytjhfkcngaknbdaa
