/-
  Places of paths: named.
-/
import Derived.Test.YtehaoeclnmelhabGreatTrNamed
namespace Go.Proofs.YtehaoeclnmelhabGreat
open Go Go.Proofs Go.RowKit Go.Shelf

def namedE (N : List Nd) (s : List UInt8) : Int × Option Sp :=
  match splitL s with
  | none => (15, none)
  | some L => if L = [] then (18, none) else (nmE (spotE N L.dropLast (L.getLastD [])), (spotE N L.dropLast (L.getLastD [])).2)
theorem split_no (w : World) (s : ByteArray) (hs : s.size ≤ 16777216) (h : splitL (ofS s) = none) : Calls Tryz.prog 59 #[.string s] w fun e w' => ∃ ao n c, e = .returned (.tuple #[.slice ao n c, .int .i64 15]) ∧ Below w.heap.size w w' := by
  refine (split_two w s hs).mono ?_
  rintro e w' ⟨hB, (⟨_, ao, n, c, rfl⟩ | ⟨L, ao, c, hn, _⟩)⟩
  · exact ⟨ao, n, c, rfl, hB⟩
  · rw [h] at hn; cases hn
theorem split_yes (w : World) (s : ByteArray) (hs : s.size ≤ 16777216) {L : List (List UInt8)} (h : splitL (ofS s) = some L) : Calls Tryz.prog 59 #[.string s] w fun e w' => ∃ ao c, e = .returned (.tuple #[.slice ao L.length c, .int .i64 0]) ∧ SAt w' ao L.length L ∧ L.length ≤ c ∧ c ≤ 9223372036854775807 ∧ Below w.heap.size w w' := by
  refine (split_two w s hs).mono ?_
  rintro e w' ⟨hB, (⟨hn, _⟩ | ⟨L', ao, c, hn, rfl, h1, h2, h3⟩)⟩
  · rw [h] at hn; cases hn
  · rw [h] at hn; cases hn; exact ⟨ao, c, rfl, h1, h2, h3, hB⟩
theorem list_two {α : Type} (L : List α) : L = [] ∨ ∃ L0 p, L = L0 ++ [p] := by
  rcases List.eq_nil_or_concat L with h | ⟨L0, p, h⟩
  · exact .inl h
  · exact .inr ⟨L0, p, by simpa using h⟩
set_option maxRecDepth 100000 in
set_option maxHeartbeats 4000000 in
theorem named_any (w : World) (t : Nat) (σ : Tr) (Ls : List Lay) (hT : TrAt w t σ Ls) (s : ByteArray) (hs : s.size ≤ 16777216) :
    Calls Tryz.prog 46 #[ptrV t, .string s] w fun e w' => e = .returned (.tuple #[spotV (locL Ls) (namedE σ.nodes (ofS s)).2, .int .i64 (namedE σ.nodes (ofS s)).1]) ∧ Below w.heap.size w w' := by
  cases hsp : splitL (ofS s) with
  | none =>
    have HS := Hid.mk (fun W => split_no W s hs hsp)
    have e : namedE σ.nodes (ofS s) = (15, none) := by unfold namedE; rw [hsp]
    rw [e]
    simp only [spotV]
    clear e hsp hs hT
    unfold ptrV
    go_enter Tryz.func46, Tryz.ntmps46
    go_wp2_with fail
    obtain ⟨X, hX⟩ : ∃ X, X = w.alloc (.cells #[.pointer none, .string ⟨#[]⟩, .pointer none] 73) := ⟨_, rfl⟩
    have hXB : Below w.heap.size w X := by rw [hX]; exact (Below.refl _ w).alloc (Nat.le_refl _) _
    have hXn : X.heap[w.heap.size]? = some (.cells #[.pointer none, .string ⟨#[]⟩, .pointer none] 73 (0, 0)) := by rw [hX]; exact blk_new w _
    have hXs : X.heap.size = w.heap.size + 1 := by rw [hX]; simp
    rw [← hX]
    refine (HS.out X).mono ?_
    rintro e' W1 ⟨ao, n, c, rfl, hB1⟩
    have hB : Below w.heap.size w W1 := hXB.trans (hB1.mono (by omega))
    have hbox := (hB1.block w.heap.size (by omega)).trans hXn
    have hlt := lt_of_block hbox
    have x0 := blk_cell hbox 0
    have x1 := blk_cell hbox 1
    have x2 := blk_cell hbox 2
    have y0 := blk_free hbox 0
    have y1 := blk_free hbox 1
    have y2 := blk_free hbox 2
    simp at x0 x1 x2
    have HB := Hid.mk hB
    have HBX := Hid.mk hbox
    clear hX hXB hXn hXs hB1 hbox HS hB
    go_wp2
    refine bodyPost_ret (v := .tuple #[.agg #[.pointer none, .string ⟨#[]⟩, .pointer none], .int .i64 15]) ?_ rfl ⟨rfl, ?_⟩
    · simp [results, Tryz.results46, go_sem, x0, x1, x2]
    · exact box3_below HB.out (Nat.le_refl _) _ _ _
  | some M =>
    have HS := Hid.mk (fun W => split_yes W s hs hsp)
    rcases list_two M with rfl | ⟨L, p, rfl⟩
    · have e : namedE σ.nodes (ofS s) = (18, none) := by unfold namedE; rw [hsp]; rfl
      rw [e]
      simp only [spotV]
      clear e hsp hs hT
      unfold ptrV
      go_enter Tryz.func46, Tryz.ntmps46
      go_wp2_with fail
      obtain ⟨X, hX⟩ : ∃ X, X = w.alloc (.cells #[.pointer none, .string ⟨#[]⟩, .pointer none] 73) := ⟨_, rfl⟩
      have hXB : Below w.heap.size w X := by rw [hX]; exact (Below.refl _ w).alloc (Nat.le_refl _) _
      have hXn : X.heap[w.heap.size]? = some (.cells #[.pointer none, .string ⟨#[]⟩, .pointer none] 73 (0, 0)) := by rw [hX]; exact blk_new w _
      have hXs : X.heap.size = w.heap.size + 1 := by rw [hX]; simp
      rw [← hX]
      refine (HS.out X).mono ?_
      rintro e' W1 ⟨ao, c, rfl, hSA, hc1, hc2, hB1⟩
      have hB : Below w.heap.size w W1 := hXB.trans (hB1.mono (by omega))
      have hbox := (hB1.block w.heap.size (by omega)).trans hXn
      have hlt := lt_of_block hbox
      simp only [List.length_nil]
      have x0 := blk_cell hbox 0
      have x1 := blk_cell hbox 1
      have x2 := blk_cell hbox 2
      have y0 := blk_free hbox 0
      have y1 := blk_free hbox 1
      have y2 := blk_free hbox 2
      simp at x0 x1 x2
      have HB := Hid.mk hB
      have HBX := Hid.mk hbox
      clear hX hXB hXn hXs hB1 hbox HS hB hSA hc1 hc2
      go_wp2
      refine bodyPost_ret (v := .tuple #[.agg #[.pointer none, .string ⟨#[]⟩, .pointer none], .int .i64 18]) ?_ rfl ⟨rfl, ?_⟩
      · simp [results, Tryz.results46, go_sem, x0, x1, x2]
      · exact box3_below HB.out (Nat.le_refl _) _ _ _
    · obtain ⟨hL, hll⟩ := split_bounds hsp
      have HL := Hid.mk hL
      have HLL : Hid (L.length + 1 ≤ 501) := Hid.mk (by simpa using hll)
      have HT := Hid.mk hT
      have e : namedE σ.nodes (ofS s) = (nmE (spotE σ.nodes L p), (spotE σ.nodes L p).2) := by
        unfold namedE
        rw [hsp]
        simp [List.getLastD_eq_getLast?]
      rw [e]
      clear e hsp hs hT hL hll
      rcases spotE_or σ.nodes L p with ⟨d, o, hse, -, -, -⟩ | ⟨er, hse, he⟩
      · have HSE := Hid.mk hse
        obtain ⟨q, hq, hqn⟩ := opt_ptr (locL Ls) o
        have HV : Hid (nmE (0, some ⟨d, p, o⟩) = if o.isNone = true then 10 else 0) := Hid.mk (by cases o <;> rfl)
        have HV2 : Hid (spotV (locL Ls) (some ⟨d, p, o⟩) = .agg #[.pointer (some ⟨locL Ls d, 0, none⟩), .string (mkS p), .pointer q]) := Hid.mk (by simp only [spotV, hq]; rfl)
        rw [hse]
        simp only
        rw [HV2.out, HV.out, ← hqn]
        clear hq hqn hse HV
        unfold ptrV
        cases q with
        | none =>
          simp only [Option.isNone_none, if_true]
          go_enter Tryz.func46, Tryz.ntmps46
          go_wp2_with fail
          obtain ⟨X, hX⟩ : ∃ X, X = w.alloc (.cells #[.pointer none, .string ⟨#[]⟩, .pointer none] 73) := ⟨_, rfl⟩
          have hXB : Below w.heap.size w X := by rw [hX]; exact (Below.refl _ w).alloc (Nat.le_refl _) _
          have hXn : X.heap[w.heap.size]? = some (.cells #[.pointer none, .string ⟨#[]⟩, .pointer none] 73 (0, 0)) := by rw [hX]; exact blk_new w _
          have hXs : X.heap.size = w.heap.size + 1 := by rw [hX]; simp
          rw [← hX]
          refine (HS.out X).mono ?_
          rintro e' W1 ⟨ao, c, rfl, hSA, hc1, hc2, hB1⟩
          have hBa : Below w.heap.size w W1 := hXB.trans (hB1.mono (by omega))
          have hboxa := (hB1.block w.heap.size (by omega)).trans hXn
          have hlta := lt_of_block hboxa
          have hln : (L ++ [p]).length = L.length + 1 := by simp
          rw [hln] at hSA hc1 ⊢
          have HSP := Hid.mk (spot_any W1 t σ Ls (HT.out.below rfl hBa) ao c L p hSA HL.out (by have := HLL.out; omega) hc1 hc2)
          rw [HSE.out] at HSP
          simp only at HSP
          rw [HV2.out] at HSP
          have hne : ¬ ((L.length : Int) + 1 = 0) := by omega
          unfold ptrV at HSP
          clear hX hXB hXn hXs hB1 HS hSA hc1 hc2 hln
          go_wp2_with fail
          refine HSP.out.mono ?_
          rintro e' W2 ⟨rfl, hB2⟩
          have hB : Below w.heap.size w W2 := hBa.trans (hB2.mono hBa.size)
          have hbox := (hB2.block w.heap.size (by omega)).trans hboxa
          have hlt := lt_of_block hbox
          have x0 := blk_cell hbox 0
          have x1 := blk_cell hbox 1
          have x2 := blk_cell hbox 2
          have y0 := blk_free hbox 0
          have y1 := blk_free hbox 1
          have y2 := blk_free hbox 2
          simp at x0 x1 x2
          have HB := Hid.mk hB
          have HBX := Hid.mk hbox
          clear hbox hboxa hBa hB2 hB HSP hlta
          go_wp2
          refine bodyPost_ret (v := .tuple #[.agg #[.pointer (some ⟨locL Ls d, 0, none⟩), .string (mkS p), .pointer none], .int .i64 10]) ?_ rfl ⟨rfl, ?_⟩
          · obtain ⟨z0, z1, z2⟩ := box3_cells HBX.out (.pointer (some ⟨locL Ls d, 0, none⟩)) (.string (mkS p)) (.pointer none) (.cells #[.pointer (some ⟨locL Ls d, 0, none⟩), .string (mkS p), .pointer none] 73)
            simp [results, Tryz.results46, go_sem, z0, z1, z2]
          · exact (box3_below HB.out (Nat.le_refl _) _ _ _).alloc (by have := HB.out.size; simp [World.setCell]; omega) _
        | some q =>
          simp only [Option.isNone_some, Bool.false_eq_true, if_false]
          go_enter Tryz.func46, Tryz.ntmps46
          go_wp2_with fail
          obtain ⟨X, hX⟩ : ∃ X, X = w.alloc (.cells #[.pointer none, .string ⟨#[]⟩, .pointer none] 73) := ⟨_, rfl⟩
          have hXB : Below w.heap.size w X := by rw [hX]; exact (Below.refl _ w).alloc (Nat.le_refl _) _
          have hXn : X.heap[w.heap.size]? = some (.cells #[.pointer none, .string ⟨#[]⟩, .pointer none] 73 (0, 0)) := by rw [hX]; exact blk_new w _
          have hXs : X.heap.size = w.heap.size + 1 := by rw [hX]; simp
          rw [← hX]
          refine (HS.out X).mono ?_
          rintro e' W1 ⟨ao, c, rfl, hSA, hc1, hc2, hB1⟩
          have hBa : Below w.heap.size w W1 := hXB.trans (hB1.mono (by omega))
          have hboxa := (hB1.block w.heap.size (by omega)).trans hXn
          have hlta := lt_of_block hboxa
          have hln : (L ++ [p]).length = L.length + 1 := by simp
          rw [hln] at hSA hc1 ⊢
          have HSP := Hid.mk (spot_any W1 t σ Ls (HT.out.below rfl hBa) ao c L p hSA HL.out (by have := HLL.out; omega) hc1 hc2)
          rw [HSE.out] at HSP
          simp only at HSP
          rw [HV2.out] at HSP
          have hne : ¬ ((L.length : Int) + 1 = 0) := by omega
          unfold ptrV at HSP
          clear hX hXB hXn hXs hB1 HS hSA hc1 hc2 hln
          go_wp2_with fail
          refine HSP.out.mono ?_
          rintro e' W2 ⟨rfl, hB2⟩
          have hB : Below w.heap.size w W2 := hBa.trans (hB2.mono hBa.size)
          have hbox := (hB2.block w.heap.size (by omega)).trans hboxa
          have hlt := lt_of_block hbox
          have x0 := blk_cell hbox 0
          have x1 := blk_cell hbox 1
          have x2 := blk_cell hbox 2
          have y0 := blk_free hbox 0
          have y1 := blk_free hbox 1
          have y2 := blk_free hbox 2
          simp at x0 x1 x2
          have HB := Hid.mk hB
          have HBX := Hid.mk hbox
          clear hbox hboxa hBa hB2 hB HSP hlta
          go_wp2
          refine bodyPost_ret (v := .tuple #[.agg #[.pointer (some ⟨locL Ls d, 0, none⟩), .string (mkS p), .pointer (some q)], .int .i64 0]) ?_ rfl ⟨rfl, ?_⟩
          · obtain ⟨z0, z1, z2⟩ := box3_cells HBX.out (.pointer (some ⟨locL Ls d, 0, none⟩)) (.string (mkS p)) (.pointer (some q)) (.cells #[.pointer (some ⟨locL Ls d, 0, none⟩), .string (mkS p), .pointer (some q)] 73)
            simp [results, Tryz.results46, go_sem, z0, z1, z2]
          · exact (box3_below HB.out (Nat.le_refl _) _ _ _).alloc (by have := HB.out.size; simp [World.setCell]; omega) _
      · have HSE := Hid.mk hse
        have HV : Hid (nmE (er, none) = er) := Hid.mk (by unfold nmE; split <;> simp_all)
        rw [hse]
        simp only [spotV]
        rw [HV.out]
        clear hse HV
        unfold ptrV
        go_enter Tryz.func46, Tryz.ntmps46
        go_wp2_with fail
        obtain ⟨X, hX⟩ : ∃ X, X = w.alloc (.cells #[.pointer none, .string ⟨#[]⟩, .pointer none] 73) := ⟨_, rfl⟩
        have hXB : Below w.heap.size w X := by rw [hX]; exact (Below.refl _ w).alloc (Nat.le_refl _) _
        have hXn : X.heap[w.heap.size]? = some (.cells #[.pointer none, .string ⟨#[]⟩, .pointer none] 73 (0, 0)) := by rw [hX]; exact blk_new w _
        have hXs : X.heap.size = w.heap.size + 1 := by rw [hX]; simp
        rw [← hX]
        refine (HS.out X).mono ?_
        rintro e' W1 ⟨ao, c, rfl, hSA, hc1, hc2, hB1⟩
        have hBa : Below w.heap.size w W1 := hXB.trans (hB1.mono (by omega))
        have hboxa := (hB1.block w.heap.size (by omega)).trans hXn
        have hlta := lt_of_block hboxa
        have hln : (L ++ [p]).length = L.length + 1 := by simp
        rw [hln] at hSA hc1 ⊢
        have HSP := Hid.mk (spot_any W1 t σ Ls (HT.out.below rfl hBa) ao c L p hSA HL.out (by have := HLL.out; omega) hc1 hc2)
        rw [HSE.out] at HSP
        simp only at HSP
        simp only [spotV] at HSP
        have hne : ¬ ((L.length : Int) + 1 = 0) := by omega
        unfold ptrV at HSP
        clear hX hXB hXn hXs hB1 HS hSA hc1 hc2 hln
        go_wp2_with fail
        refine HSP.out.mono ?_
        rintro e' W2 ⟨rfl, hB2⟩
        have hB : Below w.heap.size w W2 := hBa.trans (hB2.mono hBa.size)
        have hbox := (hB2.block w.heap.size (by omega)).trans hboxa
        have hlt := lt_of_block hbox
        have x0 := blk_cell hbox 0
        have x1 := blk_cell hbox 1
        have x2 := blk_cell hbox 2
        have y0 := blk_free hbox 0
        have y1 := blk_free hbox 1
        have y2 := blk_free hbox 2
        simp at x0 x1 x2
        have HB := Hid.mk hB
        have HBX := Hid.mk hbox
        clear hbox hboxa hBa hB2 hB HSP hlta
        go_wp2
        refine bodyPost_ret (v := .tuple #[.agg #[.pointer none, .string ⟨#[]⟩, .pointer none], .int .i64 er]) ?_ rfl ⟨rfl, ?_⟩
        · obtain ⟨z0, z1, z2⟩ := box3_cells HBX.out (.pointer none) (.string ⟨#[]⟩) (.pointer none) (.cells #[.pointer none, .string ⟨#[]⟩, .pointer none] 73)
          simp [results, Tryz.results46, go_sem, z0, z1, z2]
        · exact (box3_below HB.out (Nat.le_refl _) _ _ _).alloc (by have := HB.out.size; simp [World.setCell]; omega) _
end Go.Proofs.YtehaoeclnmelhabGreat
