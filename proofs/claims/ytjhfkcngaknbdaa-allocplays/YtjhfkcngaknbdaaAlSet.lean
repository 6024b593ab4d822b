/-
  The reference's Set.
-/
import Derived.Test.YtjhfkcngaknbdaaAlRef2
namespace Go.Proofs.Ytjhfkcngaknbdaa
open Go Go.Proofs Go.RowKit Go.Shelf

theorem Geo2.dos {G I D : Int} {g i d : Nat} (h : Geo2 G I D g i d) (bl : Int) : doB G I D bl = doB g i d bl ∧ (doB G I D bl = true → doI G I D bl = doI g i d bl) := by
  rcases h with ⟨hg, rfl, rfl, rfl⟩ | ⟨hg, rfl, rfl, rfl⟩
  · exact ⟨rfl, fun _ => rfl⟩
  · have e : doB G I D bl = false := by unfold doB; rw [hg]; rfl
    rw [e]
    exact ⟨by unfold doB; rfl, fun h => by cases h⟩
theorem Geo2.grs {G I D : Int} {g i d : Nat} (h : Geo2 G I D g i d) (ino : Int) : grB (g : Int) (i : Int) (d : Int) ino = true ↔ 1 ≤ ino ∧ ino ≤ ((g * (16 * i) : Nat) : Int) := by
  rcases h with ⟨hg, rfl, rfl, rfl⟩ | ⟨hg, rfl, rfl, rfl⟩
  · rw [gr_ino, ino_yes hg]
    push_cast
    rw [Int.mul_comm 16]
  · constructor
    · intro h
      exact absurd (gr_iff.1 h).1 (by decide)
    · intro h
      simp at h
      omega
/-- What the walk leans on, in one world. -/
structure SF (W : World) (r s u : Nat) (G I D : Int) (N M : Nat) : Prop where
  c0 : W.cell? ⟨r, 0, none⟩ = some (.int .i64 G)
  c1 : W.cell? ⟨r, 1, none⟩ = some (.int .i64 I)
  c2 : W.cell? ⟨r, 2, none⟩ = some (.int .i64 D)
  c3 : W.cell? ⟨r, 3, none⟩ = some (.slice (some ⟨s, 0, none⟩) N N)
  c4 : W.cell? ⟨r, 4, none⟩ = some (.slice (some ⟨u, 0, none⟩) M M)
theorem RfAt.sf {W : World} {r s u : Nat} {G I D : Int} {N M : Nat} {ti td : Nat → Bool} (h : RfAt W r s u G I D N M ti td) : SF W r s u G I D N M :=
  ⟨(blk_cell h.blk 0).trans rfl, (blk_cell h.blk 1).trans rfl, (blk_cell h.blk 2).trans rfl, (blk_cell h.blk 3).trans rfl, (blk_cell h.blk 4).trans rfl⟩
theorem RfAt.both {W : World} {r s u : Nat} {G I D : Int} {N M n m : Nat} {ti td : Nat → Bool} (h : RfAt W r s u G I D N M ti td) (v : Bool) : RfAt ((W.setCell ⟨s, n, none⟩ (.bool v)).setCell ⟨u, m, none⟩ (.bool v)) r s u G I D N M (updT ti n v) (updT td m v) ∧ Only (fun j => j = s ∨ j = u) W ((W.setCell ⟨s, n, none⟩ (.bool v)).setCell ⟨u, m, none⟩ (.bool v)) := by
  obtain ⟨h1, o1⟩ := h.turnI (k := n) v rfl
  obtain ⟨h2, o2⟩ := h1.turnD (k := m) v rfl
  exact ⟨h2, (o1.mono (fun _ _ e => .inl e)).trans o2 (fun _ e => .inl (.inr e))⟩
set_option maxRecDepth 100000 in
set_option maxHeartbeats 4000000 in
theorem rset_any (w : World) (r s u : Nat) (G I D : Int) (g i d : Nat) (hg2 : Geo2 G I D g i d) (ti td : Nat → Bool) (N M : Nat) (hN : N = g * (16 * i)) (hM : M = g * d) (h : RfAt w r s u G I D N M ti td) (ino bl : Int) (hi : I64 ino) (on : Bool) :
    Calls Try.prog 16 #[.pointer (some ⟨r, 0, none⟩), .int .i64 ino, .int .i64 bl, .bool on] w fun e w' => e = .returned (.bool (tnG g i d ti td ino bl on)) ∧ RfAt w' r s u G I D N M (tuI g i d ti td ino bl on) (tuD g i d ti td ino bl on) ∧ Only (fun j => j = s ∨ j = u) w w' := by
  have HDO := Hid.mk (fun W => rdataof_any W G I D bl)
  obtain ⟨do1, do2⟩ := hg2.dos bl
  have HGR : Hid (grB (g : Int) (i : Int) (d : Int) ino = true ↔ 1 ≤ ino ∧ ino ≤ (N : Int)) := Hid.mk (by rw [hg2.grs, hN])
  have HBN : Hid (∀ m : Nat, doB (g : Int) (i : Int) (d : Int) bl = true → doI (g : Int) (i : Int) (d : Int) bl = m → m < M) := Hid.mk (fun m hb hm => by
    have h1 := (do_bound hb).2
    have h2 : ((g * d : Nat) : Int) = (g : Int) * (d : Int) := by push_cast; rfl
    rw [hM]
    omega)
  have HI := Hid.mk hi
  have HR := Hid.mk h
  obtain ⟨c0, c1, c2, c3, c4⟩ := h.sf
  have hNb : N ≤ 8000 := by
    obtain ⟨_, _, g8, i4, _⟩ := hg2.nums
    rw [hN]
    have : g * (16 * i) ≤ 8 * 64 := Nat.mul_le_mul g8 (by omega)
    omega
  have HNB := Hid.mk hNb
  rw [do1] at HDO do2
  clear hg2 hN hM h hi hNb do1
  by_cases kz : bl = 0
  · subst kz
    clear HDO do2
    by_cases hz : ino = 0
    · subst hz
      have sG : tnG g i d ti td 0 0 on = true := by unfold tnG tnB tnI; simp
      have sI : tuI g i d ti td 0 0 on = ti := by unfold tuI; rw [if_neg (by simp)]
      have sD : tuD g i d ti td 0 0 on = td := by unfold tuD; rw [if_neg (by simp)]
      rw [sG, sI, sD]
      clear sG sI sD
      clear HGR HBN HI HNB
      go_enter Try.func16, Try.ntmps16
      go_wp2
      go_ret
      exact ⟨rfl, HR.out, (Only.refl _ _)⟩
    have hzb : (ino == 0) = false := by simpa using hz
    by_cases h1 : ino < 1
    · have hgr : grB (g : Int) (i : Int) (d : Int) ino = false := by (cases h : grB (g : Int) (i : Int) (d : Int) ino; rfl; have := HGR.out.1 h; omega)
      have sG : tnG g i d ti td ino 0 on = false := by unfold tnG tnB tnI; rw [decide_eq_false hz, hgr]; simp
      have sI : tuI g i d ti td ino 0 on = ti := by unfold tuI; rw [if_neg (by simp [sG])]
      have sD : tuD g i d ti td ino 0 on = td := by unfold tuD; rw [if_neg (by simp)]
      rw [sG, sI, sD]
      clear sG sI sD
      clear hgr
      clear HGR HBN HI HNB
      go_enter Try.func16, Try.ntmps16
      go_wp2
      go_ret
      exact ⟨rfl, HR.out, (Only.refl _ _)⟩
    by_cases h2 : (N : Int) < ino
    · have hgr : grB (g : Int) (i : Int) (d : Int) ino = false := by (cases h : grB (g : Int) (i : Int) (d : Int) ino; rfl; have := HGR.out.1 h; omega)
      have sG : tnG g i d ti td ino 0 on = false := by unfold tnG tnB tnI; rw [decide_eq_false hz, hgr]; simp
      have sI : tuI g i d ti td ino 0 on = ti := by unfold tuI; rw [if_neg (by simp [sG])]
      have sD : tuD g i d ti td ino 0 on = td := by unfold tuD; rw [if_neg (by simp)]
      rw [sG, sI, sD]
      clear sG sI sD
      clear hgr
      clear HGR HBN HI HNB
      go_enter Try.func16, Try.ntmps16
      go_wp2
      go_ret
      exact ⟨rfl, HR.out, (Only.refl _ _)⟩
    have hgr : grB (g : Int) (i : Int) (d : Int) ino = true := HGR.out.2 ⟨by omega, by omega⟩
    obtain ⟨n, hn⟩ : ∃ n : Nat, ino - 1 = n := ⟨(ino - 1).toNat, by omega⟩
    have hnN : n < N := by omega
    have hnt : (ino - 1).toNat = n := by rw [hn]; simp
    have v1 : IntKind.i64.wrap (ino - 1) = (n : Int) := by (have := HNB.out; rw [IntKind.wrap_i64]; omega)
    have v2 : (0 : Int) ≤ (n : Int) := by omega
    have v3 : (n : Int) < (N : Int) := by omega
    by_cases hti : ti n = on
    · have htI : ti (ino - 1).toNat = on := by rw [hnt]; exact hti
      have sG : tnG g i d ti td ino 0 on = false := by unfold tnG tnB tnI; rw [decide_eq_false hz, hgr, htI]; simp
      have sI : tuI g i d ti td ino 0 on = ti := by unfold tuI; rw [if_neg (by simp [sG])]
      have sD : tuD g i d ti td ino 0 on = td := by unfold tuD; rw [if_neg (by simp)]
      rw [sG, sI, sD]
      clear sG sI sD
      have eon : (on == on) = true := by simp
      have HTI := Hid.mk hti
      clear hgr htI hnt hn
      clear HGR HBN HI HNB
      clear hti
      have fs := (HR.out).si.cell (i := n) hnN
      have fsf := blk_free (HR.out).si n
      rw [HTI.out] at fs
      go_enter Try.func16, Try.ntmps16
      go_wp2
      go_ret
      exact ⟨rfl, HR.out, (Only.refl _ _)⟩
    · have htix : ti n = !on := by revert hti; cases ti n <;> cases on <;> simp
      have htI : ti (ino - 1).toNat = !on := by rw [hnt]; exact htix
      have sG : tnG g i d ti td ino 0 on = true := by unfold tnG tnB tnI; rw [decide_eq_false hz, hgr, htI]; simp
      have sI : tuI g i d ti td ino 0 on = updT ti n on := by unfold tuI; rw [sG, if_pos ⟨rfl, hz⟩, hnt]
      have sD : tuD g i d ti td ino 0 on = td := by unfold tuD; rw [if_neg (by simp)]
      rw [sG, sI, sD]
      clear sG sI sD
      have eon2 : ((!on) == on) = false := by simp
      have HTX := Hid.mk htix
      clear hgr htI hnt hn hti htix
      clear HGR HBN HI HNB
      have fs := (HR.out).si.cell (i := n) hnN
      have fsf := blk_free (HR.out).si n
      rw [HTX.out] at fs
      go_enter Try.func16, Try.ntmps16
      go_wp2
      go_ret
      exact ⟨rfl, (HR.out.turnI on rfl).1, (Only.refl _ _).trans (HR.out.turnI on rfl).2 (fun _ e => .inl (.inl e))⟩
  have kzb : (bl == 0) = false := by simpa using kz
  cases kg : doB (g : Int) (i : Int) (d : Int) bl with
  | false =>
    have sG : tnG g i d ti td ino bl on = false := by unfold tnG tnB; rw [decide_eq_false kz, kg]; simp
    have sI : tuI g i d ti td ino bl on = ti := by unfold tuI; rw [if_neg (by simp [sG])]
    have sD : tuD g i d ti td ino bl on = td := by unfold tuD; rw [if_neg (by simp [sG])]
    rw [sG, sI, sD]
    clear sG sI sD
    rw [kg] at HDO
    generalize doI G I D bl = xo at *
    clear HGR HBN HI HNB kg do2
    go_enter Try.func16, Try.ntmps16
    go_wp2_with (go_at_call 24; refine (HDO.out _).mono ?_; rintro e w1 ⟨rfl, hB1⟩; have HR1 := Hid.mk (HR.out.below hB1); have HB1 := Hid.mk hB1; obtain ⟨q0, q1, q2, q3, q4⟩ := (HR1.out).sf; clear hB1)
    go_ret
    exact ⟨rfl, HR1.out, (Only.of_new _ HB1.out)⟩
  | true =>
    obtain ⟨m, hm⟩ : ∃ m : Nat, doI (g : Int) (i : Int) (d : Int) bl = m := ⟨(doI (g : Int) (i : Int) (d : Int) bl).toNat, by have := (do_bound kg).1; omega⟩
    have hmM := HBN.out m kg hm
    have hmt : (doI (g : Int) (i : Int) (d : Int) bl).toNat = m := by rw [hm]; simp
    rw [do2 kg, hm, kg] at HDO
    have u2 : (0 : Int) ≤ (m : Int) := by omega
    have u3 : (m : Int) < (M : Int) := by omega
    by_cases htd : td m = on
    · have htB : td (doI (g : Int) (i : Int) (d : Int) bl).toNat = on := by rw [hmt]; exact htd
      have sG : tnG g i d ti td ino bl on = false := by unfold tnG tnB; rw [decide_eq_false kz, kg, htB]; simp
      have sI : tuI g i d ti td ino bl on = ti := by unfold tuI; rw [if_neg (by simp [sG])]
      have sD : tuD g i d ti td ino bl on = td := by unfold tuD; rw [if_neg (by simp [sG])]
      rw [sG, sI, sD]
      clear sG sI sD
      have eonb : (on == on) = true := by simp
      have HTD := Hid.mk htd
      clear HGR HBN HI HNB kg do2 hm hmt htB htd
      go_enter Try.func16, Try.ntmps16
      go_wp2_with (go_at_call 24; refine (HDO.out _).mono ?_; rintro e w1 ⟨rfl, hB1⟩; have HR1 := Hid.mk (HR.out.below hB1); have HB1 := Hid.mk hB1; obtain ⟨q0, q1, q2, q3, q4⟩ := (HR1.out).sf; have fu := (HR1.out).sd.cell (i := m) hmM; have fuf := blk_free (HR1.out).sd m; rw [HTD.out] at fu; clear hB1)
      go_ret
      exact ⟨rfl, HR1.out, (Only.of_new _ HB1.out)⟩
    · have htdx : td m = !on := by revert htd; cases td m <;> cases on <;> simp
      have htB : td (doI (g : Int) (i : Int) (d : Int) bl).toNat = !on := by rw [hmt]; exact htdx
      have eonb2 : ((!on) == on) = false := by simp
      have HTDX := Hid.mk htdx
      clear htdx htd do2
      by_cases hz : ino = 0
      · subst hz
        have sG : tnG g i d ti td 0 bl on = true := by unfold tnG tnB tnI; rw [decide_eq_false kz, kg, htB]; simp
        have sI : tuI g i d ti td 0 bl on = ti := by unfold tuI; rw [if_neg (by simp)]
        have sD : tuD g i d ti td 0 bl on = updT td m on := by unfold tuD; rw [sG, if_pos ⟨rfl, kz⟩, hmt]
        rw [sG, sI, sD]
        clear sG sI sD
        clear HGR HBN HI HNB kg hm hmt htB
        go_enter Try.func16, Try.ntmps16
        go_wp2_with (go_at_call 24; refine (HDO.out _).mono ?_; rintro e w1 ⟨rfl, hB1⟩; have HR1 := Hid.mk (HR.out.below hB1); have HB1 := Hid.mk hB1; obtain ⟨q0, q1, q2, q3, q4⟩ := (HR1.out).sf; have fu := (HR1.out).sd.cell (i := m) hmM; have fuf := blk_free (HR1.out).sd m; rw [HTDX.out] at fu; clear hB1)
        go_ret
        exact ⟨rfl, (HR1.out.turnD on rfl).1, (Only.of_new _ HB1.out).trans (HR1.out.turnD on rfl).2 (fun _ e => .inl (.inr e))⟩
      have hzb : (ino == 0) = false := by simpa using hz
      by_cases h1 : ino < 1
      · have hgr : grB (g : Int) (i : Int) (d : Int) ino = false := by (cases h : grB (g : Int) (i : Int) (d : Int) ino; rfl; have := HGR.out.1 h; omega)
        have sG : tnG g i d ti td ino bl on = false := by unfold tnG tnB tnI; rw [decide_eq_false kz, kg, htB, decide_eq_false hz, hgr]; simp
        have sI : tuI g i d ti td ino bl on = ti := by unfold tuI; rw [if_neg (by simp [sG])]
        have sD : tuD g i d ti td ino bl on = td := by unfold tuD; rw [if_neg (by simp [sG])]
        rw [sG, sI, sD]
        clear sG sI sD
        clear hgr
        clear HGR HBN HI HNB kg hm hmt htB
        go_enter Try.func16, Try.ntmps16
        go_wp2_with (go_at_call 24; refine (HDO.out _).mono ?_; rintro e w1 ⟨rfl, hB1⟩; have HR1 := Hid.mk (HR.out.below hB1); have HB1 := Hid.mk hB1; obtain ⟨q0, q1, q2, q3, q4⟩ := (HR1.out).sf; have fu := (HR1.out).sd.cell (i := m) hmM; have fuf := blk_free (HR1.out).sd m; rw [HTDX.out] at fu; clear hB1)
        go_ret
        exact ⟨rfl, HR1.out, (Only.of_new _ HB1.out)⟩
      by_cases h2 : (N : Int) < ino
      · have hgr : grB (g : Int) (i : Int) (d : Int) ino = false := by (cases h : grB (g : Int) (i : Int) (d : Int) ino; rfl; have := HGR.out.1 h; omega)
        have sG : tnG g i d ti td ino bl on = false := by unfold tnG tnB tnI; rw [decide_eq_false kz, kg, htB, decide_eq_false hz, hgr]; simp
        have sI : tuI g i d ti td ino bl on = ti := by unfold tuI; rw [if_neg (by simp [sG])]
        have sD : tuD g i d ti td ino bl on = td := by unfold tuD; rw [if_neg (by simp [sG])]
        rw [sG, sI, sD]
        clear sG sI sD
        clear hgr
        clear HGR HBN HI HNB kg hm hmt htB
        go_enter Try.func16, Try.ntmps16
        go_wp2_with (go_at_call 24; refine (HDO.out _).mono ?_; rintro e w1 ⟨rfl, hB1⟩; have HR1 := Hid.mk (HR.out.below hB1); have HB1 := Hid.mk hB1; obtain ⟨q0, q1, q2, q3, q4⟩ := (HR1.out).sf; have fu := (HR1.out).sd.cell (i := m) hmM; have fuf := blk_free (HR1.out).sd m; rw [HTDX.out] at fu; clear hB1)
        go_ret
        exact ⟨rfl, HR1.out, (Only.of_new _ HB1.out)⟩
      have hgr : grB (g : Int) (i : Int) (d : Int) ino = true := HGR.out.2 ⟨by omega, by omega⟩
      obtain ⟨n, hn⟩ : ∃ n : Nat, ino - 1 = n := ⟨(ino - 1).toNat, by omega⟩
      have hnN : n < N := by omega
      have hnt : (ino - 1).toNat = n := by rw [hn]; simp
      have v1 : IntKind.i64.wrap (ino - 1) = (n : Int) := by (have := HNB.out; rw [IntKind.wrap_i64]; omega)
      have v2 : (0 : Int) ≤ (n : Int) := by omega
      have v3 : (n : Int) < (N : Int) := by omega
      by_cases hti : ti n = on
      · have htI : ti (ino - 1).toNat = on := by rw [hnt]; exact hti
        have sG : tnG g i d ti td ino bl on = false := by unfold tnG tnB tnI; rw [decide_eq_false kz, kg, htB, decide_eq_false hz, hgr, htI]; simp
        have sI : tuI g i d ti td ino bl on = ti := by unfold tuI; rw [if_neg (by simp [sG])]
        have sD : tuD g i d ti td ino bl on = td := by unfold tuD; rw [if_neg (by simp [sG])]
        rw [sG, sI, sD]
        clear sG sI sD
        have eon : (on == on) = true := by simp
        have HTI := Hid.mk hti
        clear hgr htI hnt hn
        clear HGR HBN HI HNB kg hm hmt htB
        clear hti
        go_enter Try.func16, Try.ntmps16
        go_wp2_with (go_at_call 24; refine (HDO.out _).mono ?_; rintro e w1 ⟨rfl, hB1⟩; have HR1 := Hid.mk (HR.out.below hB1); have HB1 := Hid.mk hB1; obtain ⟨q0, q1, q2, q3, q4⟩ := (HR1.out).sf; have fs := (HR1.out).si.cell (i := n) hnN; have fsf := blk_free (HR1.out).si n; have fu := (HR1.out).sd.cell (i := m) hmM; have fuf := blk_free (HR1.out).sd m; rw [HTDX.out] at fu; rw [HTI.out] at fs; clear hB1)
        go_ret
        exact ⟨rfl, HR1.out, (Only.of_new _ HB1.out)⟩
      · have htix : ti n = !on := by revert hti; cases ti n <;> cases on <;> simp
        have htI : ti (ino - 1).toNat = !on := by rw [hnt]; exact htix
        have sG : tnG g i d ti td ino bl on = true := by unfold tnG tnB tnI; rw [decide_eq_false kz, kg, htB, decide_eq_false hz, hgr, htI]; simp
        have sI : tuI g i d ti td ino bl on = updT ti n on := by unfold tuI; rw [sG, if_pos ⟨rfl, hz⟩, hnt]
        have sD : tuD g i d ti td ino bl on = updT td m on := by unfold tuD; rw [sG, if_pos ⟨rfl, kz⟩, hmt]
        rw [sG, sI, sD]
        clear sG sI sD
        have eon2 : ((!on) == on) = false := by simp
        have HTX := Hid.mk htix
        clear hgr htI hnt hn hti htix
        clear HGR HBN HI HNB kg hm hmt htB
        go_enter Try.func16, Try.ntmps16
        go_wp2_with (go_at_call 24; refine (HDO.out _).mono ?_; rintro e w1 ⟨rfl, hB1⟩; have HR1 := Hid.mk (HR.out.below hB1); have HB1 := Hid.mk hB1; obtain ⟨q0, q1, q2, q3, q4⟩ := (HR1.out).sf; have fs := (HR1.out).si.cell (i := n) hnN; have fsf := blk_free (HR1.out).si n; have fu := (HR1.out).sd.cell (i := m) hmM; have fuf := blk_free (HR1.out).sd m; have g1 := ((HR1.out).turnI (k := n) on rfl).1; have g2 := g1.sf.c4; have g3 := g1.sd.cell (i := m) hmM; have g4 := blk_free g1.sd m; clear g1; rw [HTDX.out] at fu; rw [HTX.out] at fs; rw [HTDX.out] at g3; clear hB1)
        go_ret
        exact ⟨rfl, (HR1.out.both on).1, (Only.of_new _ HB1.out).trans (HR1.out.both on).2 (fun _ e => .inl e)⟩
end Go.Proofs.Ytjhfkcngaknbdaa
