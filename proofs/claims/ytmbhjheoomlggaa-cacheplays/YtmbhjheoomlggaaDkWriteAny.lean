/-
  Write, whatever it is handed; a block that was written whole reads as what was written.
-/
import Derived.Test.YtmbhjheoomlggaaDkBytes
namespace Go.Proofs.Ytmbhjheoomlggaa
open Go Go.Proofs Go.RowKit Go.Shelf
namespace Dk
/-- What Write makes of a disk, whatever it is handed. -/
def wrS (s : DS) (block : Int) (xs : List Int) : Bool × DS :=
  if (hasB s block && decide (xs.length = 1024) && !s.dead) = true then writeS s block.toNat xs else (false, s)
structure Sane (s : DS) (L : Nat) : Prop where
  log : s.log.length ≤ L
  dat : ∀ k, k < s.log.length → (s.log.getD k (0, [])).2.length = 512
  left0 : 0 ≤ s.left
  left1 : s.left ≤ 9223372036854775807
theorem pow_sane {s : DS} {L : Nat} (h : Sane s L) : Sane (pow s).2 L := by
  have hp := pow_img s
  have hl := pow_left s h.left0 h.left1
  exact ⟨by rw [hp.2]; exact h.log, by rw [hp.2]; exact h.dat, hl.1, hl.2⟩
set_option maxRecDepth 100000 in
theorem put_sane {s : DS} {L q : Nat} {xs : List Int} (h : Sane s L) (hx : xs.length = 512) : Sane (putS s q xs) (L + 1) := by
  refine ⟨?_, ?_, h.left0, h.left1⟩
  · show (_ ++ [_]).length ≤ _
    rw [List.length_append]
    have := h.log
    simp
    omega
  · intro k hk
    show ((s.log ++ [((q : Int), xs)]).getD k (0, [])).2.length = 512
    have hk' : k < s.log.length + 1 := by
      have : (putS s q xs).log.length = s.log.length + 1 := by show (_ ++ [_]).length = _; simp
      omega
    rcases Nat.lt_or_ge k s.log.length with hl | hl
    · rw [List.getD, List.getElem?_append_left hl]
      exact h.dat k hl
    · obtain rfl : k = s.log.length := by omega
      simp [List.getD, hx]
set_option maxRecDepth 100000 in
theorem step_sane {s s1 : DS} {L block : Nat} {xs : List Int} {i : Fin 2} (h : Sane s L) (hx : xs.length = 1024) (hs : stepS block xs s i = some s1) : Sane s1 (L + 1) := by
  unfold stepS at hs
  split at hs
  · obtain rfl := Option.some.inj hs
    have := i.2
    exact put_sane (pow_sane h) (by simp [hx]; omega)
  · cases hs
theorem Sane.mono {s : DS} {L M : Nat} (h : Sane s L) (hm : L ≤ M) : Sane s M := ⟨Nat.le_trans h.log hm, h.dat, h.left0, h.left1⟩
set_option maxRecDepth 100000 in
theorem wr_sane {s : DS} {L : Nat} {block : Int} {xs : List Int} (h : Sane s L) : Sane (wrS s block xs).2 (L + 2) ∧ (wrS s block xs).2.img.length = s.img.length := by
  unfold wrS
  split
  · rename_i hc
    simp at hc
    obtain ⟨⟨hb, hx⟩, hd⟩ := hc
    obtain ⟨q, rfl, hq⟩ := hasB_nat hb
    rw [Int.toNat_natCast]
    have f0 : Fits s q s 0 := ⟨rfl, rfl, h.left0, h.left1⟩
    unfold writeS
    cases h0 : stepS q xs s 0 with
    | none => exact ⟨(pow_sane h).mono (by omega), by rw [(pow_img s).1]⟩
    | some s1 =>
      have f1 := step_fits hx hq f0 h0
      have g1 := step_sane h hx h0
      dsimp only
      cases h1 : stepS q xs s1 1 with
      | none => exact ⟨(pow_sane g1).mono (by omega), by rw [(pow_img s1).1, f1.img]⟩
      | some s2 =>
        have f2 := step_fits hx hq f1 h1
        exact ⟨step_sane g1 hx h1, f2.img⟩
  · exact ⟨h.mono (by omega), rfl⟩
set_option maxRecDepth 100000 in
theorem write_any (F : Nat → Prop) (w : World) (d : Nat) (s : DS) (L : Nat) (h : DiskAt F w d s) (hn : s.img.length ≤ 20480000) (hs : Sane s L) (hL : L ≤ 900000) (block : Int) (ao : Option Addr) (m c : Nat) (xs : List Int)
    (hb : BAt w ao m xs) (hmc : m ≤ c) (hm : m ≤ 140737488355328) (haF : ∀ a, ao = some a → 0 < m → ¬ F a.block) :
    Calls Try.prog 18 #[.pointer (some ⟨d, 0, none⟩), .int .i64 block, .slice ao m c] w fun e w' => e = .returned (.bool (wrS s block xs).1) ∧
      DiskAt (fun k => F k ∨ w.heap.size ≤ k) w' d (wrS s block xs).2 ∧ Only F w w' := by
  unfold wrS
  split
  · rename_i hc
    simp at hc
    obtain ⟨⟨hbb, hx⟩, hd⟩ := hc
    obtain ⟨q, rfl, hq⟩ := hasB_nat hbb
    rw [Int.toNat_natCast]
    obtain rfl : m = 1024 := by rw [← hb.1, hx]
    obtain ⟨a, rfl, hlt, hcell⟩ := hb.2 (by omega)
    exact write_yes F w d s h hn hs.left0 hs.left1 (Nat.le_trans hs.log hL) q a c xs hbb hd hx hmc (haF a rfl (by omega)) hlt hcell
  · rename_i hc
    refine (write_no F w d s h hn block ao m c hm ?_).mono ?_
    · rw [← hb.1]
      cases h1 : hasB s block
      · exact .inl rfl
      · cases h2 : s.dead
        · right; left
          intro e
          apply hc
          simp [h1, h2, e]
        · exact .inr (.inr rfl)
    · rintro e w' ⟨rfl, hB⟩
      exact ⟨rfl, (h.only (Only.of_new (fun _ => False) hB) (fun _ _ _ x => x)).mono (fun k _ e => .inl e), Only.of_new F hB⟩
set_option maxRecDepth 100000 in
theorem splice_get (Z A : List Int) (o i : Nat) (h : o + A.length ≤ Z.length) : (splice Z o A)[i]? = if i < o then Z[i]? else if i < o + A.length then A[i - o]? else Z[i]? := by
  unfold splice
  have ht : (Z.take o).length = o := by simp; omega
  split
  · rename_i h1
    rw [List.getElem?_append_left (by omega), List.getElem?_take, if_pos h1]
  · rename_i h1
    rw [List.getElem?_append_right (by omega), ht]
    split
    · rename_i h2
      rw [List.getElem?_append_left (by omega)]
    · rename_i h2
      rw [List.getElem?_append_right (by omega), List.getElem?_drop]
      congr 1
      omega
set_option maxRecDepth 100000 in
/-- A block that was written whole reads as what was written. -/
theorem window_written (Z xs : List Int) (o : Nat) (hx : xs.length = 1024) (h : o + 1024 ≤ Z.length) :
    ((splice (splice Z o ((xs.drop 0).take 512)) (o + 512) ((xs.drop 512).take 512)).drop o).take 1024 = xs := by
  have l0 : ((xs.drop 0).take 512).length = 512 := by simp [hx]
  have l1 : ((xs.drop 512).take 512).length = 512 := by simp [hx]
  have l2 : (splice Z o ((xs.drop 0).take 512)).length = Z.length := length_splice _ _ _ (by omega)
  apply List.ext_getElem?
  intro i
  rw [List.getElem?_take]
  split
  · rename_i hi
    rw [List.getElem?_drop, splice_get _ _ _ _ (by omega)]
    rcases Nat.lt_or_ge i 512 with h5 | h5
    · rw [if_pos (by omega), splice_get _ _ _ _ (by omega), if_neg (by omega), if_pos (by omega), List.getElem?_take, if_pos (by omega), List.getElem?_drop, show 0 + (o + i - o) = i by omega]
    · rw [if_neg (by omega), if_pos (by omega), List.getElem?_take, if_pos (by omega), List.getElem?_drop, show 512 + (o + i - (o + 512)) = i by omega]
  · rename_i hi
    rw [List.getElem?_eq_none (by omega)]
end Dk
end Go.Proofs.Ytmbhjheoomlggaa
