/-
  Writes whose power is cut: the disk behind each of them.
-/
import Derived.Test.YtochgjajlojfeaaBytes
import Derived.BigQuiet
import Derived.Deep.QuietTactic
namespace Go.Proofs.Ytochgjajlojfeaa
open Go Go.Proofs Go.RowKit Go.Shelf

/-- The entries of the log are those of the writes, in their order. -/
def LogOk (B : Nat) (log : List (Int × List Int)) : Prop :=
  ∀ j, j < log.length → (log.getD j (0, [])).1 = ((j / 2 % B * 2 + j % 2 : Nat) : Int) ∧ (log.getD j (0, [])).2.length = 512 ∧ (log.getD j (0, [])).2[0]?.getD 0 = ((j / 2 + 1 : Nat) : Int)

/-- The disk behind i writes, the power being cut behind C sectors. -/
structure CI (B C i : Nat) (s : DS) : Prop where
  img : s.img.length = 1024 * B
  cut : s.cut = true
  log : LogOk B s.log
  st : (2 * i ≤ C ∧ s.dead = false ∧ s.left = ((C - 2 * i : Nat) : Int) ∧ s.log.length = 2 * i) ∨ (C < 2 * i ∧ s.dead = true ∧ s.log.length = C)

theorem getD_append_left (l l' : List (Int × List Int)) (j : Nat) (h : j < l.length) : (l ++ l').getD j (0, []) = l.getD j (0, []) := by
  simp [List.getD, List.getElem?_append_left h]
theorem getD_append_here (l : List (Int × List Int)) (x : Int × List Int) : (l ++ [x]).getD l.length (0, []) = x := by
  simp [List.getD]

theorem LogOk.snoc {B : Nat} {log : List (Int × List Int)} {x : Int × List Int} (h : LogOk B log) (h1 : x.1 = ((log.length / 2 % B * 2 + log.length % 2 : Nat) : Int)) (h2 : x.2.length = 512) (h3 : x.2[0]?.getD 0 = ((log.length / 2 + 1 : Nat) : Int)) : LogOk B (log ++ [x]) := by
  intro j hj
  rw [List.length_append] at hj
  simp at hj
  rcases Nat.lt_or_ge j log.length with hl | hl
  · rw [getD_append_left _ _ _ hl]
    exact h j hl
  · obtain rfl : j = log.length := by omega
    rw [getD_append_here]
    exact ⟨h1, h2, h3⟩

theorem cut_step {B C i : Nat} {s : DS} {xs : List Int} (hB : 0 < B) (h : CI B C i s) (hd : s.dead = false) (hx : xs.length = 1024) (hx0 : xs[0]?.getD 0 = ((i + 1 : Nat) : Int)) (hx1 : xs[512]?.getD 0 = ((i + 1 : Nat) : Int)) :
    CI B C (i + 1) (writeS s (i % B) xs).2 ∧ (writeS s (i % B) xs).1 = decide (2 * i + 2 ≤ C) := by
  rcases h.st with ⟨a1, a2, a3, a4⟩ | ⟨a1, a2, a3⟩
  · have hlt : i % B < B := Nat.mod_lt _ hB
    have d0 : ((xs.drop (512 * 0)).take 512)[0]?.getD 0 = ((i + 1 : Nat) : Int) := by
      rw [List.getElem?_take, if_pos (by omega), List.getElem?_drop]
      exact hx0
    have d1 : ((xs.drop (512 * 1)).take 512)[0]?.getD 0 = ((i + 1 : Nat) : Int) := by
      rw [List.getElem?_take, if_pos (by omega), List.getElem?_drop]
      exact hx1
    have l0 : ((xs.drop (512 * 0)).take 512).length = 512 := by simp [hx]
    have l1 : ((xs.drop (512 * 1)).take 512).length = 512 := by simp [hx]
    have hs0 : LogOk B (s.log ++ [(((2 * (i % B) + 0 : Nat) : Int), (xs.drop (512 * 0)).take 512)]) := h.log.snoc (by dsimp only; rw [a4, show 2 * i / 2 = i by omega]; omega) l0 (by rw [d0, a4]; omega)
    have hl0 : (s.log ++ [(((2 * (i % B) + 0 : Nat) : Int), (xs.drop (512 * 0)).take 512)]).length = 2 * i + 1 := by simp [a4]
    have hs1 : LogOk B ((s.log ++ [(((2 * (i % B) + 0 : Nat) : Int), (xs.drop (512 * 0)).take 512)]) ++ [(((2 * (i % B) + 1 : Nat) : Int), (xs.drop (512 * 1)).take 512)]) := hs0.snoc (by dsimp only; rw [hl0, show (2 * i + 1) / 2 = i by omega]; omega) l1 (by rw [d1, hl0]; omega)
    have i0 : (splice s.img (512 * (2 * (i % B) + 0)) ((xs.drop (512 * 0)).take 512)).length = 1024 * B := by
      rw [length_splice _ _ _ (by rw [l0, h.img]; omega), h.img]
    have i1 : (splice (splice s.img (512 * (2 * (i % B) + 0)) ((xs.drop (512 * 0)).take 512)) (512 * (2 * (i % B) + 1)) ((xs.drop (512 * 1)).take 512)).length = 1024 * B := by
      rw [length_splice _ _ _ (by rw [l1, i0]; omega), i0]
    rcases Nat.lt_trichotomy C (2 * i + 1) with hc | hc | hc
    · have hz : s.left = 0 := by rw [a3]; omega
      have e : writeS s (i % B) xs = (false, { s with dead := true }) := by simp [writeS, stepS, pow, h.cut, hz]
      rw [e]
      exact ⟨⟨h.img, h.cut, h.log, .inr ⟨by omega, rfl, by show s.log.length = C; omega⟩⟩, by simp; omega⟩
    · have hz : s.left = 1 := by rw [a3]; omega
      have e : writeS s (i % B) xs = (false, ⟨splice s.img (512 * (2 * (i % B) + 0)) ((xs.drop (512 * 0)).take 512), s.log ++ [(((2 * (i % B) + 0 : Nat) : Int), (xs.drop (512 * 0)).take 512)], true, true, 0⟩) := by
        simp [writeS, stepS, pow, h.cut, hz, putS]
      rw [e]
      exact ⟨⟨i0, rfl, hs0, .inr ⟨by omega, rfl, by rw [hl0]; omega⟩⟩, by simp; omega⟩
    · have hz : s.left ≠ 0 := by rw [a3]; omega
      have hz2 : s.left - 1 ≠ 0 := by rw [a3]; omega
      have e : writeS s (i % B) xs = (true, ⟨splice (splice s.img (512 * (2 * (i % B) + 0)) ((xs.drop (512 * 0)).take 512)) (512 * (2 * (i % B) + 1)) ((xs.drop (512 * 1)).take 512),
          (s.log ++ [(((2 * (i % B) + 0 : Nat) : Int), (xs.drop (512 * 0)).take 512)]) ++ [(((2 * (i % B) + 1 : Nat) : Int), (xs.drop (512 * 1)).take 512)], false, true, s.left - 1 - 1⟩) := by
        simp [writeS, stepS, pow, h.cut, hz, hz2, putS, a2]
      rw [e]
      refine ⟨⟨i1, rfl, hs1, .inl ⟨by omega, rfl, ?_, ?_⟩⟩, by simp; omega⟩
      · show s.left - 1 - 1 = _
        rw [a3]; omega
      · rw [List.length_append, hl0]; simp; omega
  · rw [hd] at a2
    cases a2

theorem set_bytes {w2 w3 : World} (a b : Int) (hm : w3.heap[w2.heap.size]? = some (.cells (By (zeros 1024)).toArray 5 (0, 0))) :
    ((w3.setCell ⟨w2.heap.size, 0, none⟩ (.int .u8 a)).setCell ⟨w2.heap.size, 512, none⟩ (.int .u8 b)).heap[w2.heap.size]? = some (.cells (By (((zeros 1024).set 0 a).set 512 b)).toArray 5 (0, 0)) := by
  rw [← By_set, ← By_set]
  exact blk_set (blk_set hm)

/-- One write of the row of writes. -/
theorem cuts_write {base B C i : Nat} {w2 w3 : World} {d : Nat} {s : DS} (hB : 0 < B) (hB2 : B ≤ 40) (hC : C ≤ 200) (hi : i < 60) (h : CI B C i s) (hD : DiskAt (fun k => base ≤ k ∧ k < w2.heap.size) w2 d s) (hb : base ≤ w2.heap.size)
    (hm : w3.heap[w2.heap.size]? = some (.cells (By (zeros 1024)).toArray 5 (0, 0))) (hg : w2.grownBy w3 none) :
    Calls Try.prog 9 #[.pointer (some ⟨d, 0, none⟩), .int .i64 ((i % B : Nat) : Int), .slice (some ⟨w2.heap.size, 0, none⟩) 1024 1024] ((w3.setCell ⟨w2.heap.size, 0, none⟩ (.int .u8 ((i + 1 : Nat) : Int))).setCell ⟨w2.heap.size, 512, none⟩ (.int .u8 ((i + 1 : Nat) : Int))) fun e w' =>
      e = .returned (.bool (decide (2 * i + 2 ≤ C))) ∧ Below base w2 w' ∧ ∃ s', CI B C (i + 1) s' ∧ DiskAt (fun k => base ≤ k ∧ k < w'.heap.size) w' d s' := by
  have hbk := set_bytes ((i + 1 : Nat) : Int) ((i + 1 : Nat) : Int) hm
  have hO : Only (fun _ => False) w2 ((w3.setCell ⟨w2.heap.size, 0, none⟩ (.int .u8 ((i + 1 : Nat) : Int))).setCell ⟨w2.heap.size, 512, none⟩ (.int .u8 ((i + 1 : Nat) : Int))) :=
    (((Only.refl (fun _ => False) w2).grown hg (by simp)).setCell (.inr (Nat.le_refl _)) _).setCell (.inr (Nat.le_refl _)) _
  generalize (w3.setCell ⟨w2.heap.size, 0, none⟩ (.int .u8 ((i + 1 : Nat) : Int))).setCell ⟨w2.heap.size, 512, none⟩ (.int .u8 ((i + 1 : Nat) : Int)) = w4 at *
  have hD4 := hD.only hO (fun _ _ _ h => h)
  have hB4 : Below base w2 w4 := hO.below hb (fun _ h => h.elim)
  have hlt := lt_of_block hbk
  have hx : (((zeros 1024).set 0 ((i + 1 : Nat) : Int)).set 512 ((i + 1 : Nat) : Int)).length = 1024 := by simp [zeros_len]
  have hx0 : ((((zeros 1024).set 0 ((i + 1 : Nat) : Int)).set 512 ((i + 1 : Nat) : Int))[0]?.getD 0 : Int) = ((i + 1 : Nat) : Int) := by
    rw [List.getElem?_set_ne (by omega), List.getElem?_set_self (by rw [zeros_len]; omega)]
    rfl
  have hx1 : ((((zeros 1024).set 0 ((i + 1 : Nat) : Int)).set 512 ((i + 1 : Nat) : Int))[512]?.getD 0 : Int) = ((i + 1 : Nat) : Int) := by
    rw [List.getElem?_set_self (by rw [List.length_set, zeros_len]; omega)]
    rfl
  generalize ((zeros 1024).set 0 ((i + 1 : Nat) : Int)).set 512 ((i + 1 : Nat) : Int) = xs at *
  have hmod : i % B < B := Nat.mod_lt _ hB
  have hhas : hasB s (i % B : Nat) = true := by
    simp only [hasB, h.img, Nat.mul_div_cancel_left _ (show 0 < 1024 by omega)]
    simp
    omega
  cases hd : s.dead with
  | true =>
    have hst : C < 2 * i ∧ s.log.length = C := by
      rcases h.st with ⟨_, a, _⟩ | ⟨a, _, b⟩
      · rw [hd] at a; cases a
      · exact ⟨a, b⟩
    refine (write_no (fun k => base ≤ k ∧ k < w2.heap.size) w4 d s hD4 (by rw [h.img]; omega) _ _ 1024 1024 (by omega) (.inr (.inr hd))).mono ?_
    rintro e w' ⟨rfl, hb'⟩
    refine ⟨?_, hB4.trans (hb'.mono (by have := hO.size; omega)), s, ⟨h.img, h.cut, h.log, .inr ⟨by omega, hd, hst.2⟩⟩, ?_⟩
    · rw [decide_eq_false (by omega)]
    · exact (hD4.only (Only.of_new (fun _ => False) hb') (fun _ _ _ h => h)).mono (fun k hk e => ⟨e.1, hk.lt⟩)
  | false =>
    have hst : 2 * i ≤ C ∧ s.left = ((C - 2 * i : Nat) : Int) ∧ s.log.length = 2 * i := by
      rcases h.st with ⟨a, _, b, c⟩ | ⟨_, a, _⟩
      · exact ⟨a, b, c⟩
      · rw [hd] at a; cases a
    obtain ⟨k1, k2⟩ := cut_step hB h hd hx hx0 hx1
    refine (write_yes (fun k => base ≤ k ∧ k < w2.heap.size) w4 d s hD4 (by rw [h.img]; omega) (by rw [hst.2.1]; omega) (by rw [hst.2.1]; omega) (by omega) (i % B) ⟨w2.heap.size, 0, none⟩ 1024 xs hhas hd hx (Nat.le_refl _) (fun h => by have := h.2; simp at this) hlt
      (fun j hj => by have := bytes_at hbk 0 j (by omega); rwa [Nat.zero_add] at this)).mono ?_
    rintro e w' ⟨rfl, h1, h2⟩
    refine ⟨by rw [k2], hB4.trans (h2.below (by have := hO.size; omega) (fun k e => e.1)), _, k1, h1.mono (fun k hk e => ⟨?_, hk.lt⟩)⟩
    rcases e with e | e
    · exact e.1
    · have := hO.size; omega

end Go.Proofs.Ytochgjajlojfeaa
