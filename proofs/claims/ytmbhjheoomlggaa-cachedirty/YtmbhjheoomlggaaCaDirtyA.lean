/-
  CacheDirty: a dirty block stays until it is written.
-/
import Derived.Test.YtmbhjheoomlggaaCaLru
namespace Go.Proofs.Ytmbhjheoomlggaa
open Go Go.Proofs Go.RowKit Go.Shelf
/-- The dirty block. -/
def dyK (v : Int) (pins : Nat) : Kb := ⟨0, pins, true, blkV v⟩
theorem shkN_dy (n : Nat) (v : Int) (pins : Nat) (r : List Kb) : shkN n (dyK v pins :: r) = dyK v pins :: shkN n r := by
  cases n with
  | zero => rw [shkN_zero, shkN_zero]
  | succ n =>
    have : (dyK v pins).idle = false := by simp [dyK, Kb.idle]
    rw [shkN, if_neg (by rw [this]; simp)]
structure DrP (t : Nat) (r : List Kb) : Prop where
  len : r.length ≤ t
  els : ∀ x ∈ r, x.pins ≤ t ∧ x.num ≠ 0
theorem DrP.sub {t : Nat} {r r' : List Kb} (h : DrP t r) (hs : r'.Sublist r) : DrP t r' := ⟨Nat.le_trans hs.length_le h.len, fun x hx => h.els x (hs.subset hx)⟩
theorem fnd_mem {r : List Kb} {n : Int} {x : Kb} (h : fndK r n = some x) : x ∈ r ∧ x.num = n := ⟨List.mem_of_find?_eq_some h, by simpa using List.find?_some h⟩
theorem fnd_dy (v : Int) (pins : Nat) (r : List Kb) {i : Int} (hi : i ≠ 0) : fndK (dyK v pins :: r) i = fndK r i := by
  unfold fndK
  rw [List.find?_cons]
  have : ((dyK v pins).num == i) = false := by simp [dyK]; omega
  rw [this]
theorem dr_get (v : Int) (size : Nat) {t : Nat} {r : List Kb} (h : DrP t r) (i : Nat) (hi : 1 ≤ i) (hi2 : i < 20) : ∃ x r', gotK (newS 20) (dyK v 0 :: r) (i : Int) = some x ∧ getL size (dyK v 0 :: r) x = dyK v 0 :: r' ∧ DrP (t + 1) r' := by
  obtain ⟨x, hx, hxn, hxp⟩ : ∃ x, gotK (newS 20) (dyK v 0 :: r) (i : Int) = some x ∧ x.num = i ∧ x.pins ≤ t := by
    unfold gotK
    rw [fnd_dy v 0 r (by omega)]
    cases hf : fndK r (i : Int) with
    | some x =>
      obtain ⟨h1, h2⟩ := fnd_mem hf
      exact ⟨x, rfl, h2, (h.els x h1).1⟩
    | none =>
      simp only
      rw [newS_has, if_pos (by simp; omega)]
      exact ⟨_, rfl, rfl, Nat.zero_le _⟩
  refine ⟨x, shkN ((dyK v 0 :: (r.filter (fun y => y.num != x.num) ++ [x.by (x.pins + 1) x.dirty])).length - size) (r.filter (fun y => y.num != x.num) ++ [x.by (x.pins + 1) x.dirty]), hx, ?_, ?_⟩
  · unfold getL shk
    have : (dyK v 0 :: r).filter (fun y => y.num != x.num) = dyK v 0 :: r.filter (fun y => y.num != x.num) := by
      rw [List.filter_cons, if_pos]
      simp [dyK, hxn]; omega
    rw [this, List.cons_append, shkN_dy]
  · have h1 : DrP (t + 1) (r.filter (fun y => y.num != x.num) ++ [x.by (x.pins + 1) x.dirty]) := by
      refine ⟨?_, fun y hy => ?_⟩
      · have := List.length_filter_le (fun y => y.num != x.num) r
        have := h.len
        simp
        omega
      · rcases List.mem_append.1 hy with hy | hy
        · have := h.els y ((List.mem_filter.1 hy).1)
          exact ⟨by omega, this.2⟩
        · rw [List.mem_singleton.1 hy]
          show x.pins + 1 ≤ t + 1 ∧ x.num ≠ 0
          omega
    exact h1.sub (shkN_sub _ _)
theorem dr_rel (v : Int) (size : Nat) {t : Nat} {r : List Kb} (h : DrP t r) (i : Nat) (hi : 1 ≤ i) : ∃ r', relL size (dyK v 0 :: r) (i : Int) = dyK v 0 :: r' ∧ DrP t r' := by
  unfold relL
  rw [fnd_dy v 0 r (by omega)]
  cases hf : fndK r (i : Int) with
  | none => exact ⟨r, rfl, h⟩
  | some x =>
    obtain ⟨h1, h2⟩ := fnd_mem hf
    simp only
    split
    · have e : updK (dyK v 0 :: r) (x.by (x.pins - 1) x.dirty) = dyK v 0 :: updK r (x.by (x.pins - 1) x.dirty) := by
        unfold updK
        rw [List.map_cons, if_neg]
        show ¬ (0 : Int) = x.num
        omega
      unfold shk
      rw [e, shkN_dy]
      refine ⟨_, rfl, DrP.sub (r := updK r (x.by (x.pins - 1) x.dirty)) ⟨by simpa [updK] using h.len, fun y hy => ?_⟩ (shkN_sub _ _)⟩
      obtain ⟨z, hz, rfl⟩ := List.mem_map.1 hy
      split
      · have := (h.els x h1).1
        show x.pins - 1 ≤ t ∧ x.num ≠ 0
        omega
      · exact h.els z hz
    · exact ⟨r, rfl, h⟩
/-- A whole write to a disk whose power does not fail. -/
theorem wr_gen (s : Dk.DS) (hc : s.cut = false) (hd : s.dead = false) (hi : 1024 ≤ s.img.length) (hi2 : s.img.length ≤ 20480000) (ys : List Int) (hy : ys.length = 1024) : ∃ s2 : Dk.DS, Dk.wrS s 0 ys = (true, s2) ∧ s2.log.length = s.log.length + 2 ∧ (Dk.hasB s2 0 && !s2.dead) = true ∧ blkL s2 0 = ys ∧ s2.img.length ≤ 20480000 := by
  have hp : ∀ s : Dk.DS, s.cut = false → Dk.pow s = (true, s) := fun s h => by simp [Dk.pow, h]
  have hh : (Dk.hasB s 0 && decide (ys.length = 1024) && !s.dead) = true := by
    simp [Dk.hasB, hy, hd]
    omega
  have l1 : ((ys.drop 0).take 512).length = 512 := by simp [hy]
  have l2 : ((ys.drop 512).take 512).length = 512 := by simp [hy]
  have z1 : (splice s.img 0 ((ys.drop 0).take 512)).length = s.img.length := length_splice _ _ _ (by omega)
  have z2 : (splice (splice s.img 0 ((ys.drop 0).take 512)) 512 ((ys.drop 512).take 512)).length = s.img.length := by rw [length_splice _ _ _ (by omega), z1]
  refine ⟨Dk.putS (Dk.putS s 0 ((ys.drop 0).take 512)) 1 ((ys.drop 512).take 512), ?_, ?_, ?_, ?_, ?_⟩
  · unfold Dk.wrS
    rw [if_pos hh]
    have e1 : Dk.stepS 0 ys s 0 = some (Dk.putS s 0 ((ys.drop 0).take 512)) := by
      unfold Dk.stepS
      rw [hp s hc]
      rfl
    have e2 : Dk.stepS 0 ys (Dk.putS s 0 ((ys.drop 0).take 512)) 1 = some (Dk.putS (Dk.putS s 0 ((ys.drop 0).take 512)) 1 ((ys.drop 512).take 512)) := by
      unfold Dk.stepS
      rw [hp (Dk.putS s 0 ((ys.drop 0).take 512)) hc]
      rfl
    unfold Dk.writeS
    rw [Int.toNat_zero, e1]
    simp only
    rw [e2]
  · simp [Dk.putS]
  · have : Dk.hasB (Dk.putS (Dk.putS s 0 ((ys.drop 0).take 512)) 1 ((ys.drop 512).take 512)) 0 = true := by
      unfold Dk.hasB
      rw [show (Dk.putS (Dk.putS s 0 ((ys.drop 0).take 512)) 1 ((ys.drop 512).take 512)).img.length = s.img.length from z2]
      simp
      omega
    rw [this]
    show (true && !s.dead) = true
    rw [hd]
    rfl
  · exact Dk.window_written s.img ys 0 hy (by omega)
  · exact Nat.le_trans (Nat.le_of_eq z2) hi2
theorem wr_new (ys : List Int) (hy : ys.length = 1024) : ∃ s2 : Dk.DS, Dk.wrS (newS 20) 0 ys = (true, s2) ∧ s2.log.length = 2 ∧ (Dk.hasB s2 0 && !s2.dead) = true ∧ blkL s2 0 = ys ∧ s2.img.length ≤ 20480000 :=
  wr_gen (newS 20) rfl rfl (by rw [newS_len]; omega) (by rw [newS_len]; omega) ys hy
end Go.Proofs.Ytmbhjheoomlggaa
