/-
  Bytes: string(b), append([]byte(nil), b...), rows that may be written: plain laws at this program; Read whatever the disk.
-/
import Derived.Test.YtmbhjheoomlggaaDkLog
import Derived.Laws.BytesArg
import Derived.Laws.AppendOwnNone
namespace Go.Proofs.Ytmbhjheoomlggaa
open Go Go.Proofs Go.RowKit Go.Shelf
namespace Dk
/-- Block g holds bytes, n of them at least, and may be written. -/
def Bytey (W : World) (g n : Nat) : Prop := ∃ cur, W.heap[g]? = some (.cells cur 5 (0, 0)) ∧ ∀ i, i < n → ∃ v : Int, 0 ≤ v ∧ v ≤ 255 ∧ cur[i]? = some (.int .u8 v)
set_option maxRecDepth 100000 in
theorem Bytey.at {W : World} {g n : Nat} (h : Bytey W g n) (i : Nat) (hi : i < n) : ∃ v : Int, 0 ≤ v ∧ v ≤ 255 ∧ W.cell? ⟨g, i, none⟩ = some (.int .u8 v) ∧ W.frozen? ⟨g, i, none⟩ = false := by
  obtain ⟨cur, hb, hc⟩ := h
  obtain ⟨v, h0, h1, hv⟩ := hc i hi
  exact ⟨v, h0, h1, by rw [blk_cell hb, hv], blk_free hb i⟩
set_option maxRecDepth 100000 in
theorem Bytey.set {W : World} {g n : Nat} (h : Bytey W g n) (i : Nat) (v : Int) (h0 : 0 ≤ v) (h1 : v ≤ 255) : Bytey (W.setCell ⟨g, i, none⟩ (.int .u8 v)) g n := by
  obtain ⟨cur, hb, hc⟩ := h
  refine ⟨_, blk_set hb, fun j hj => ?_⟩
  by_cases e : i = j
  · subst e
    obtain ⟨u, _, _, hu⟩ := hc i hj
    have hlt : i < cur.size := (Array.getElem?_eq_some_iff.1 hu).1
    exact ⟨v, h0, h1, by simp [hlt]⟩
  · obtain ⟨u, k0, k1, hu⟩ := hc j hj
    exact ⟨u, k0, k1, by rw [Array.getElem?_setIfInBounds_ne e]; exact hu⟩
set_option maxRecDepth 100000 in
theorem owns_bytey {w : World} {base : Nat} {v : Value} {n : Nat} {xs : List Int} (h : w.ownsRow base 5 1 v n (By xs)) (hx : ∀ x ∈ xs, 0 ≤ x ∧ x ≤ 255) (g : Nat) (hg : v.ownBlock = some g) : Bytey w g n := by
  obtain ⟨h1, h2⟩ := h
  rcases h2 with h2 | ⟨g', cap, cur, rfl, _, hh, hnc, hm, hsz, ht⟩
  · rw [h2.1] at hg
    simp [Value.ownBlock] at hg
  · simp [Value.ownBlock] at hg
    subst hg
    rw [By_length] at h1
    refine ⟨cur, hh, fun i hi => ?_⟩
    have hi2 : i < xs.length := by omega
    refine ⟨xs[i], (hx _ (List.getElem_mem hi2)).1, (hx _ (List.getElem_mem hi2)).2, ?_⟩
    rw [← Array.getElem?_toList]
    have : cur.toList[i]? = (By xs)[i]? := by rw [← ht, List.getElem?_take, if_pos (by omega)]
    rw [this, By_get xs i hi2]
    simp [List.getD, List.getElem?_eq_getElem hi2]
set_option maxRecDepth 100000 in
/-- Read, whatever the disk and the number. -/
theorem read_any (F : Nat → Prop) (w : World) (d : Nat) (s : DS) (h : DiskAt F w d s) (hn : s.img.length ≤ 20480000) (block : Int) :
    Calls Try.prog 27 #[.pointer (some ⟨d, 0, none⟩), .int .i64 block] w fun e w' => ∃ xo xn xc, e = .returned (.tuple #[.slice xo xn xc, .bool (hasB s block && !s.dead)]) ∧ Below w.heap.size w w' ∧
      (∀ a, xo = some a → w.heap.size ≤ a.block ∧ a.off = 0 ∧ a.spot = none) ∧
      ((hasB s block && !s.dead) = true → xn = 1024 ∧ w'.ownsRow w.heap.size 5 1 (.slice xo xn xc) 1024 (By ((s.img.drop (1024 * block.toNat)).take 1024)) ∧ xo ≠ none) ∧ ((hasB s block && !s.dead) = false → xn = 0) := by
  cases hb : (hasB s block && !s.dead) with
  | false =>
    refine (read_no F w d s h hn block (by simp at hb; cases hd : hasB s block <;> simp_all)).mono ?_
    rintro e w' ⟨rfl, rfl⟩
    exact ⟨none, 0, 0, rfl, Below.refl _ _, fun a e => (by cases e), fun h => (by cases h), fun _ => rfl⟩
  | true =>
    simp at hb
    obtain ⟨q, rfl, hq⟩ := hasB_nat hb.1
    refine (read_yes F w d s h hn q hb.1 hb.2).mono ?_
    rintro e w' ⟨v', rfl, hown, hnn, hB⟩
    obtain ⟨g, cap, rfl, hg, _⟩ := owns_bytes hown hnn
    exact ⟨some ⟨g, 0, none⟩, 1024, cap, rfl, hB, fun a e => (by cases e; exact ⟨hg, rfl, rfl⟩), fun _ => ⟨rfl, by simpa using hown, by simp⟩, fun h => (by cases h)⟩
end Dk
end Go.Proofs.Ytmbhjheoomlggaa
