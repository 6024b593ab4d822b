/-
  Places of paths: unnamed, named.
-/
import Derived.Test.YtehaoeclnmelhabGreatTrSpot
namespace Go.Proofs.YtehaoeclnmelhabGreat
open Go Go.Proofs Go.RowKit Go.Shelf

def unE : Int × Option Sp → Int
  | (0, some sp) => if sp.named = none then 0 else 11
  | (e, _) => e
def nmE : Int × Option Sp → Int
  | (0, some sp) => if sp.named = none then 10 else 0
  | (e, _) => e
theorem spotE_or (N : List Nd) (L : List (List UInt8)) (p : List UInt8) : (∃ d o, spotE N L p = (0, some ⟨d, p, o⟩) ∧ wayE N 0 L = (some d, 0) ∧ (nodeAt N d).isDir = true ∧ o = lookS (nodeAt N d).slots p) ∨ ∃ e, spotE N L p = (e, none) ∧ e ≠ 0 := by
  rcases wayE_or N 0 L with ⟨d, hd⟩ | ⟨e, he, hne⟩
  · rcases kind_two (nodeAt N d) with ⟨k1, _⟩ | ⟨k1, _⟩
    · exact .inl ⟨d, _, by unfold spotE; rw [hd]; simp only; rw [if_pos k1], hd, k1, rfl⟩
    · exact .inr ⟨12, by unfold spotE; rw [hd]; simp only; rw [if_neg (by rw [k1]; decide)], by decide⟩
  · exact .inr ⟨e, by unfold spotE; rw [he], hne⟩
/-- What a box of three has behind a store of three. -/
theorem box3_below {B : Nat} {w W : World} (h : Below B w W) {q : Nat} (hq : B ≤ q) (u v x : Value) : Below B w (((W.setCell ⟨q, 0, none⟩ u).setCell ⟨q, 1, none⟩ v).setCell ⟨q, 2, none⟩ x) :=
  ((h.setCell (p := ⟨q, 0, none⟩) hq _).setCell (p := ⟨q, 1, none⟩) hq _).setCell (p := ⟨q, 2, none⟩) hq _
theorem box3_cells {W : World} {B : Nat} {a b c : Value} {T : TypeId} (h : W.heap[B]? = some (.cells #[a, b, c] T (0, 0))) (u v x : Value) (o : Obj) :
    ((((W.setCell ⟨B, 0, none⟩ u).setCell ⟨B, 1, none⟩ v).setCell ⟨B, 2, none⟩ x).alloc o).cell? ⟨B, 0, none⟩ = some u ∧ ((((W.setCell ⟨B, 0, none⟩ u).setCell ⟨B, 1, none⟩ v).setCell ⟨B, 2, none⟩ x).alloc o).cell? ⟨B, 1, none⟩ = some v ∧ ((((W.setCell ⟨B, 0, none⟩ u).setCell ⟨B, 1, none⟩ v).setCell ⟨B, 2, none⟩ x).alloc o).cell? ⟨B, 2, none⟩ = some x := by
  have e : ((((W.setCell ⟨B, 0, none⟩ u).setCell ⟨B, 1, none⟩ v).setCell ⟨B, 2, none⟩ x).alloc o).heap[B]? = some (.cells #[u, v, x] T (0, 0)) := by
    rw [Below.heap_alloc _ _ _ (by simp [World.setCell]; exact lt_of_block h), blk_set (blk_set (blk_set h))]
    rfl
  exact ⟨by rw [blk_cell e]; rfl, by rw [blk_cell e]; rfl, by rw [blk_cell e]; rfl⟩
theorem opt_ptr (loc : Nat → Nat) (o : Option Nat) : ∃ x, optV loc o = .pointer x ∧ x.isNone = o.isNone := by
  cases o with
  | none => exact ⟨none, rfl, rfl⟩
  | some j => exact ⟨some ⟨loc j, 0, none⟩, rfl, rfl⟩
set_option maxRecDepth 100000 in
set_option maxHeartbeats 4000000 in
theorem unnamed_nil (w : World) (t : Nat) (ao : Option Addr) (c : Nat) :
    Calls Tryz.prog 42 #[ptrV t, .slice ao 0 c] w fun e w' => e = .returned (.tuple #[.agg #[.pointer none, .string ⟨#[]⟩, .pointer none], .int .i64 11]) ∧ Below w.heap.size w w' := by
  unfold ptrV
  go_enter Tryz.func42, Tryz.ntmps42
  go_wp2
  refine bodyPost_ret (v := .tuple #[.agg #[.pointer none, .string ⟨#[]⟩, .pointer none], .int .i64 11]) ?_ rfl ⟨rfl, ?_⟩
  · simp [results, Tryz.results42, go_sem]
  · exact (Below.refl _ w).alloc (Nat.le_refl _) _
set_option maxRecDepth 100000 in
set_option maxHeartbeats 4000000 in
theorem unnamed_any (w : World) (t : Nat) (σ : Tr) (Ls : List Lay) (hT : TrAt w t σ Ls) (ao : Option Addr) (c : Nat) (L : List (List UInt8)) (p : List UInt8) (hS : SAt w ao (L.length + 1) (L ++ [p])) (hL : ∀ q ∈ L ++ [p], q.length ≤ 1000) (hll : L.length + 1 ≤ 16777216) (hc : L.length + 1 ≤ c) (hc2 : c ≤ 9223372036854775807) :
    Calls Tryz.prog 42 #[ptrV t, .slice ao (L.length + 1) c] w fun e w' => e = .returned (.tuple #[spotV (locL Ls) (spotE σ.nodes L p).2, .int .i64 (unE (spotE σ.nodes L p))]) ∧ Below w.heap.size w w' := by
  have HSP : Hid (∀ W, Below w.heap.size w W → _) := Hid.mk (fun W (hB : Below w.heap.size w W) => spot_any W t σ Ls (hT.below rfl hB) ao c L p (hS.below hB) hL hll hc hc2)
  have hne : ¬ ((L.length : Int) + 1 = 0) := by omega
  generalize hm : L.length = m at *
  clear hT hS hL hll hc hc2 hm
  unfold ptrV at HSP
  rcases spotE_or σ.nodes L p with ⟨d, o, hs, -, -, -⟩ | ⟨e, hs, he⟩
  · rw [hs] at HSP ⊢
    obtain ⟨q, hq, hqn⟩ := opt_ptr (locL Ls) o
    have HV : Hid (unE (0, some ⟨d, p, o⟩) = if o.isNone = true then 0 else 11) := Hid.mk (by cases o <;> rfl)
    have HV2 : Hid (spotV (locL Ls) (some ⟨d, p, o⟩) = .agg #[.pointer (some ⟨locL Ls d, 0, none⟩), .string (mkS p), .pointer q]) := Hid.mk (by simp only [spotV, hq]; rfl)
    simp only at HSP ⊢
    rw [HV2.out] at HSP
    rw [HV2.out, HV.out, ← hqn]
    clear hq hqn hs HV HV2
    unfold ptrV
    cases q with
    | none =>
      simp only [Option.isNone_none, if_true]
      go_enter Tryz.func42, Tryz.ntmps42
      go_wp2_with fail
      obtain ⟨X, hX⟩ : ∃ X, X = w.alloc (.cells #[.pointer none, .string ⟨#[]⟩, .pointer none] 73) := ⟨_, rfl⟩
      have hXB : Below w.heap.size w X := by rw [hX]; exact (Below.refl _ w).alloc (Nat.le_refl _) _
      have hXn : X.heap[w.heap.size]? = some (.cells #[.pointer none, .string ⟨#[]⟩, .pointer none] 73 (0, 0)) := by rw [hX]; exact blk_new w _
      have hXs : X.heap.size = w.heap.size + 1 := by rw [hX]; simp
      rw [← hX]
      refine (HSP.out X hXB).mono ?_
      rintro e' W1 ⟨rfl, hB1⟩
      have hB : Below w.heap.size w W1 := hXB.trans (hB1.mono (by omega))
      have hbox := (hB1.block w.heap.size (by omega)).trans hXn
      have hlt := lt_of_block hbox
      have hsz : w.heap.size ≠ W1.heap.size := by omega
      have HB := Hid.mk hB
      have HBX := Hid.mk hbox
      have x0 := blk_cell hbox 0
      have x1 := blk_cell hbox 1
      have x2 := blk_cell hbox 2
      have y0 := blk_free hbox 0
      have y1 := blk_free hbox 1
      have y2 := blk_free hbox 2
      simp at x0 x1 x2
      clear hX hXB hXn hXs hB1 hbox HSP hB
      go_wp2
      refine bodyPost_ret (v := .tuple #[.agg #[.pointer (some ⟨locL Ls d, 0, none⟩), .string (mkS p), .pointer none], .int .i64 0]) ?_ rfl ⟨rfl, ?_⟩
      · obtain ⟨z0, z1, z2⟩ := box3_cells HBX.out (.pointer (some ⟨locL Ls d, 0, none⟩)) (.string (mkS p)) (.pointer none) (.cells #[.pointer (some ⟨locL Ls d, 0, none⟩), .string (mkS p), .pointer none] 73)
        simp [results, Tryz.results42, go_sem, z0, z1, z2]
      · exact (box3_below HB.out (Nat.le_refl _) _ _ _).alloc (by have := HB.out.size; simp [World.setCell]; omega) _
    | some q =>
      simp only [Option.isNone_some, Bool.false_eq_true, if_false]
      go_enter Tryz.func42, Tryz.ntmps42
      go_wp2_with fail
      obtain ⟨X, hX⟩ : ∃ X, X = w.alloc (.cells #[.pointer none, .string ⟨#[]⟩, .pointer none] 73) := ⟨_, rfl⟩
      have hXB : Below w.heap.size w X := by rw [hX]; exact (Below.refl _ w).alloc (Nat.le_refl _) _
      have hXn : X.heap[w.heap.size]? = some (.cells #[.pointer none, .string ⟨#[]⟩, .pointer none] 73 (0, 0)) := by rw [hX]; exact blk_new w _
      have hXs : X.heap.size = w.heap.size + 1 := by rw [hX]; simp
      rw [← hX]
      refine (HSP.out X hXB).mono ?_
      rintro e' W1 ⟨rfl, hB1⟩
      have hB : Below w.heap.size w W1 := hXB.trans (hB1.mono (by omega))
      have hbox := (hB1.block w.heap.size (by omega)).trans hXn
      have hlt := lt_of_block hbox
      have hsz : w.heap.size ≠ W1.heap.size := by omega
      have HB := Hid.mk hB
      have HBX := Hid.mk hbox
      have x0 := blk_cell hbox 0
      have x1 := blk_cell hbox 1
      have x2 := blk_cell hbox 2
      have y0 := blk_free hbox 0
      have y1 := blk_free hbox 1
      have y2 := blk_free hbox 2
      simp at x0 x1 x2
      clear hX hXB hXn hXs hB1 hbox HSP hB
      go_wp2
      refine bodyPost_ret (v := .tuple #[.agg #[.pointer (some ⟨locL Ls d, 0, none⟩), .string (mkS p), .pointer (some q)], .int .i64 11]) ?_ rfl ⟨rfl, ?_⟩
      · obtain ⟨z0, z1, z2⟩ := box3_cells HBX.out (.pointer (some ⟨locL Ls d, 0, none⟩)) (.string (mkS p)) (.pointer (some q)) (.cells #[.pointer (some ⟨locL Ls d, 0, none⟩), .string (mkS p), .pointer (some q)] 73)
        simp [results, Tryz.results42, go_sem, z0, z1, z2]
      · exact (box3_below HB.out (Nat.le_refl _) _ _ _).alloc (by have := HB.out.size; simp [World.setCell]; omega) _
  · rw [hs] at HSP ⊢
    have HV : Hid (unE (e, none) = e) := Hid.mk (by unfold unE; split <;> simp_all)
    simp only [spotV] at HSP ⊢
    rw [HV.out]
    clear hs HV
    unfold ptrV
    go_enter Tryz.func42, Tryz.ntmps42
    go_wp2_with fail
    obtain ⟨X, hX⟩ : ∃ X, X = w.alloc (.cells #[.pointer none, .string ⟨#[]⟩, .pointer none] 73) := ⟨_, rfl⟩
    have hXB : Below w.heap.size w X := by rw [hX]; exact (Below.refl _ w).alloc (Nat.le_refl _) _
    have hXn : X.heap[w.heap.size]? = some (.cells #[.pointer none, .string ⟨#[]⟩, .pointer none] 73 (0, 0)) := by rw [hX]; exact blk_new w _
    have hXs : X.heap.size = w.heap.size + 1 := by rw [hX]; simp
    rw [← hX]
    refine (HSP.out X hXB).mono ?_
    rintro e' W1 ⟨rfl, hB1⟩
    have hB : Below w.heap.size w W1 := hXB.trans (hB1.mono (by omega))
    have hbox := (hB1.block w.heap.size (by omega)).trans hXn
    have hlt := lt_of_block hbox
    have hsz : w.heap.size ≠ W1.heap.size := by omega
    have HB := Hid.mk hB
    have HBX := Hid.mk hbox
    have x0 := blk_cell hbox 0
    have x1 := blk_cell hbox 1
    have x2 := blk_cell hbox 2
    have y0 := blk_free hbox 0
    have y1 := blk_free hbox 1
    have y2 := blk_free hbox 2
    simp at x0 x1 x2
    clear hX hXB hXn hXs hB1 hbox HSP hB
    go_wp2
    refine bodyPost_ret (v := .tuple #[.agg #[.pointer none, .string ⟨#[]⟩, .pointer none], .int .i64 e]) ?_ rfl ⟨rfl, ?_⟩
    · obtain ⟨z0, z1, z2⟩ := box3_cells HBX.out (.pointer none) (.string ⟨#[]⟩) (.pointer none) (.cells #[.pointer none, .string ⟨#[]⟩, .pointer none] 73)
      simp [results, Tryz.results42, go_sem, z0, z1, z2]
    · exact (box3_below HB.out (Nat.le_refl _) _ _ _).alloc (by have := HB.out.size; simp [World.setCell]; omega) _
end Go.Proofs.YtehaoeclnmelhabGreat
