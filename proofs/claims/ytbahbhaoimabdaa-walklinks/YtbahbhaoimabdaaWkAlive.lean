/-
  The document's example.
-/
import Derived.Test.YtbahbhaoimabdaaWkPaths
import Derived.Test.YtbahbhaoimabdaaWkTree
namespace Go.Proofs.Ytbahbhaoimabdaa
open Go Go.Proofs Go.RowKit Go.Shelf

/-- A row of strings that is one's own, as cells. -/
theorem owns_str {W : World} {B : Nat} {v : Value} {n : Nat} {L : List ByteArray} (h : W.ownsRow B 9 1 v n (Sb L)) (hn : 0 < n) : ∃ g c, v = .slice (some ⟨g, 0, none⟩) n c ∧ B ≤ g ∧ g < W.heap.size ∧ ∀ k, k < n → W.cell? ⟨g, k, none⟩ = some (.string (L.getD k ⟨#[]⟩)) := by
  obtain ⟨h1, h2⟩ := h
  have hl : L.length = n := by simpa [Sb] using h1
  rcases h2 with ⟨rfl, rfl⟩ | ⟨g, cap, cur, rfl, hg, hh, hnc, hm, hsz, ht⟩
  · omega
  · refine ⟨g, cap, rfl, hg, lt_of_block hh, fun k hk => ?_⟩
    rw [blk_cell hh, ← Array.getElem?_toList]
    have e : (cur.toList.take (n * 1))[k]? = (Sb L)[k]? := by rw [ht]
    rw [List.getElem?_take, if_pos (by omega)] at e
    rw [e]
    simp [Sb, List.getD, List.getElem?_eq_getElem (show k < L.length by omega)]
def exE (ino : Int) (nm : ByteArray) : EnV := ⟨ino, nm⟩
/-- The example's nodes as values. -/
def exN (b : Nat) : Nat → NoV
  | 0 => ⟨1, 2, 0, 0, none, 0, 0, fun _ => ⟨0, none, 0, 0, []⟩, some ⟨b, 0, none⟩, 1, 1, fun _ => ⟨5, ⟨#[97]⟩⟩⟩
  | 1 => ⟨5, 2, 0, 0, none, 0, 0, fun _ => ⟨0, none, 0, 0, []⟩, some ⟨b + 1, 0, none⟩, 2, 2, fun j => if j = 0 then ⟨0, ⟨#[]⟩⟩ else ⟨9, ⟨#[98]⟩⟩⟩
  | _ => ⟨9, 1, 0, 0, none, 0, 0, fun _ => ⟨0, none, 0, 0, []⟩, none, 0, 0, fun _ => ⟨0, ⟨#[]⟩⟩⟩
theorem exN_at {W : World} {b : Nat} (h : ExAt W b) : NoAt W (some ⟨b + 2, 0, none⟩) 3 (exN b) := fun _ => by
  have none_pa : ∀ (P : Nat → PaV), PaAt W none 0 P := fun P hn => absurd hn (Nat.lt_irrefl 0)
  refine ⟨b + 2, 0, rfl, lt_of_block h.all, fun j hj => ?_⟩
  match j, hj with
  | 0, _ =>
    refine ⟨⟨?_, ?_, ?_, ?_, ?_, ?_⟩, none_pa _, fun _ => ⟨b, 0, rfl, lt_of_block h.one, fun j hj => ?_⟩, (show (0 : Nat) ≤ 9223372036854775807 by decide), (show (1 : Nat) ≤ 9223372036854775807 by decide), rfl, fun _ _ => rfl⟩
    all_goals first | (rw [blk_cell h.all]; rfl) | skip
    obtain rfl : j = 0 := by have : j < 1 := hj; omega
    exact ⟨by rw [blk_cell h.one]; rfl, by rw [blk_cell h.one]; rfl⟩
  | 1, _ =>
    refine ⟨⟨?_, ?_, ?_, ?_, ?_, ?_⟩, none_pa _, fun _ => ⟨b + 1, 0, rfl, lt_of_block h.two, fun j hj => ?_⟩, (show (0 : Nat) ≤ 9223372036854775807 by decide), (show (2 : Nat) ≤ 9223372036854775807 by decide), rfl, fun j hj => ?_⟩
    all_goals first | (rw [blk_cell h.all]; rfl) | skip
    · match j, hj with
      | 0, _ => exact ⟨by rw [blk_cell h.two]; rfl, by rw [blk_cell h.two]; rfl⟩
      | 1, _ => exact ⟨by rw [blk_cell h.two]; rfl, by rw [blk_cell h.two]; rfl⟩
    · match j, hj with
      | 0, _ => rfl
      | 1, _ => rfl
  | 2, _ =>
    refine ⟨⟨?_, ?_, ?_, ?_, ?_, ?_⟩, none_pa _, fun hn => absurd hn (Nat.lt_irrefl 0), (show (0 : Nat) ≤ 9223372036854775807 by decide), (show (0 : Nat) ≤ 9223372036854775807 by decide), rfl, fun j hj => absurd hj (Nat.not_lt_zero j)⟩
    all_goals (rw [blk_cell h.all]; rfl)
theorem ex_paths (b : Nat) : pathsS 3 (exN b) = [⟨#[47, 97]⟩, ⟨#[47, 97, 47, 98]⟩] := by kernel_rfl
theorem ex_names (b : Nat) : ∀ d j, d < 3 → j < (exN b d).sn → ((exN b d).E j).nm.size ≤ 1000 := fun d j hd hj => by
  match d, hd with
  | 0, _ => exact (by decide : (1 : Nat) ≤ 1000)
  | 1, _ =>
    match j, hj with
    | 0, _ => exact (by decide : (0 : Nat) ≤ 1000)
    | 1, _ => exact (by decide : (1 : Nat) ≤ 1000)
  | 2, _ => exact absurd hj (Nat.not_lt_zero j)
set_option maxRecDepth 100000 in
set_option maxHeartbeats 4000000 in
theorem alive_any (W : World) : Calls Try.prog 9 #[] W fun e w' => e = .returned (.bool true) ∧ Below W.heap.size W w' := by
  have HP : Hid (∀ w2, ExAt w2 W.heap.size → Calls Try.prog 14 #[.slice (some ⟨W.heap.size + 2, 0, none⟩) 3 3] w2 fun e w' => ∃ g c, e = .returned (.slice (some ⟨g, 0, none⟩) 2 c) ∧ w'.cell? ⟨g, 0, none⟩ = some (.string ⟨#[47, 97]⟩) ∧ w'.cell? ⟨g, 1, none⟩ = some (.string ⟨#[47, 97, 47, 98]⟩) ∧ Below w2.heap.size w2 w') := Hid.mk (fun w2 h2 => by
    refine (paths_any w2 (some ⟨W.heap.size + 2, 0, none⟩) 3 3 (exN W.heap.size) (exN_at h2) (ex_names _) (by decide) (by rw [ex_paths]; decide)).mono ?_
    rintro e w' ⟨v, rfl, h, hB⟩
    rw [ex_paths] at h
    obtain ⟨g, c, rfl, -, -, hc⟩ := owns_str h (by decide)
    exact ⟨g, c, rfl, hc 0 (by decide), hc 1 (by decide), hB⟩)
  go_enter Try.func9, Try.ntmps9
  go_upto_region 2 with (first
    | (go_at_call 21; refine (tree_any _).mono ?_; rintro e w2 ⟨rfl, h2, hB2⟩)
    | (go_at_call 14; refine (HP.out _ h2).mono ?_; rintro e w3 ⟨g, c, rfl, c0, c1, hB3⟩))
  have HB : Hid (Below W.heap.size W w3) := Hid.mk (hB2.trans (hB3.mono hB2.size))
  clear hB2 hB3 h2
  go_wp2
  go_ret
  exact ⟨rfl, HB.out⟩
end Go.Proofs.Ytbahbhaoimabdaa
