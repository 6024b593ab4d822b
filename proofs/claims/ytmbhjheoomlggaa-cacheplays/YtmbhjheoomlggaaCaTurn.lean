/-
  What keeps a block from going: isIdle, turn; and drop.
-/
import Derived.Test.YtmbhjheoomlggaaCaMem
namespace Go.Proofs.Ytmbhjheoomlggaa
open Go Go.Proofs Go.RowKit Go.Shelf
open Go.ChangeMaps (setBlock)

theorem hd_cells {W : World} {x : Pl} (h : HdAt W x) : W.cell? ⟨x.h, 0, none⟩ = some (.int .i64 x.num) ∧ W.cell? ⟨x.h, 1, none⟩ = some (.int .i64 (x.pins : Nat)) ∧ W.cell? ⟨x.h, 2, none⟩ = some (.bool x.dirty) ∧ W.cell? ⟨x.h, 3, none⟩ = some (.slice (some ⟨x.g, 0, none⟩) 1024 x.cap) ∧ W.frozen? ⟨x.h, 1, none⟩ = false ∧ W.frozen? ⟨x.h, 2, none⟩ = false ∧ W.frozen? ⟨x.h, 3, none⟩ = false :=
  ⟨by rw [blk_cell h.blk]; rfl, by rw [blk_cell h.blk]; rfl, by rw [blk_cell h.blk]; rfl, by rw [blk_cell h.blk]; rfl, blk_free h.blk 1, blk_free h.blk 2, blk_free h.blk 3⟩
theorem ca_cells {w : World} {c : Nat} {v0 v1 v2 v3 v4 v5 v6 : Value} (hb : w.heap[c]? = some (.cells #[v0, v1, v2, v3, v4, v5, v6] 61 (0, 0))) : w.cell? ⟨c, 0, none⟩ = some v0 ∧ w.cell? ⟨c, 1, none⟩ = some v1 ∧ w.cell? ⟨c, 2, none⟩ = some v2 ∧ w.cell? ⟨c, 5, none⟩ = some v5 ∧ w.cell? ⟨c, 6, none⟩ = some v6 ∧ w.frozen? ⟨c, 2, none⟩ = false ∧ w.frozen? ⟨c, 6, none⟩ = false :=
  ⟨by rw [blk_cell hb]; rfl, by rw [blk_cell hb]; rfl, by rw [blk_cell hb]; rfl, by rw [blk_cell hb]; rfl, by rw [blk_cell hb]; rfl, blk_free hb 2, blk_free hb 6⟩
theorem set_c2 {V : World} {c : Nat} {v0 v1 u v3 v4 v5 v6 e : Value} (hb : V.heap[c]? = some (.cells #[v0, v1, u, v3, v4, v5, v6] 61 (0, 0))) : (V.setCell ⟨c, 2, none⟩ e).heap[c]? = some (.cells #[v0, v1, e, v3, v4, v5, v6] 61 (0, 0)) := by simpa using blk_set (i := 2) (u := e) hb
theorem set_c6 {V : World} {c : Nat} {v0 v1 v2 v3 v4 v5 u e : Value} (hb : V.heap[c]? = some (.cells #[v0, v1, v2, v3, v4, v5, u] 61 (0, 0))) : (V.setCell ⟨c, 6, none⟩ e).heap[c]? = some (.cells #[v0, v1, v2, v3, v4, v5, e] 61 (0, 0)) := by simpa using blk_set (i := 6) (u := e) hb
set_option maxRecDepth 100000 in
theorem isidle_raw (w : World) (b pins : Nat) (dirty : Bool) (h1 : w.cell? ⟨b, 1, none⟩ = some (.int .i64 pins)) (h2 : w.cell? ⟨b, 2, none⟩ = some (.bool dirty)) :
    Calls Try.prog 43 #[ptV b] w fun e w' => e = .returned (.bool (decide (pins = 0) && !dirty)) ∧ w' = w := by
  by_cases h0 : pins = 0
  · subst h0
    go_enter Try.func43, Try.ntmps43
    go_wp2
    go_ret
    exact ⟨by simp, rfl⟩
  · have h3 : ¬ (pins : Int) = 0 := by omega
    have h4 : ((pins : Int) == 0) = false := by simpa using h3
    have h5 : decide (pins = 0) = false := by simpa using h0
    rw [h5]
    clear h0 h5
    go_enter Try.func43, Try.ntmps43
    go_wp2
    go_ret
    exact ⟨rfl, rfl⟩
theorem idleN_app (A B : List Pl) (x : Pl) : idleN (A ++ x :: B) = idleN A + idleN B + (if x.idle = true then 1 else 0) := by
  simp only [idleN, List.countP_append, List.countP_cons]
  omega
theorem idleN_le (L : List Pl) : idleN L ≤ L.length := List.countP_le_length
/-- With other pins. -/
def Pl.by (x : Pl) (pins : Nat) (dirty : Bool) : Pl := { x with pins := pins, dirty := dirty }
theorem set_h12 {V : World} {x : Pl} (h : HdAt V x) (pins : Nat) (dirty : Bool) : HdAt ((V.setCell ⟨x.h, 1, none⟩ (.int .i64 (pins : Nat))).setCell ⟨x.h, 2, none⟩ (.bool dirty)) (x.by pins dirty) := by
  have hg : x.g ≠ x.h := fun e => by
    obtain ⟨cur, fr, hg⟩ := h.gblk
    rw [e, h.blk] at hg
    simp at hg
  refine ⟨?_, owns_at h.row (fun k e => by
    obtain rfl : x.g = k := by simpa [Value.ownBlock, Pl.by] using e
    rw [set_other _ _ _ _ hg, set_other _ _ _ _ hg])⟩
  show _ = some (Obj.cells #[.int .i64 x.num, .int .i64 (pins : Nat), .bool dirty, .slice (some ⟨x.g, 0, none⟩) 1024 x.cap] 69 (0, 0))
  simpa [Pl.by] using blk_set (i := 2) (u := Value.bool dirty) (blk_set (i := 1) (u := Value.int .i64 (pins : Nat)) h.blk)
theorem HdAt.setc {V : World} {x : Pl} {c i : Nat} (h : HdAt V x) (h1 : x.h ≠ c) (h2 : x.g ≠ c) (u : Value) : HdAt (V.setCell ⟨c, i, none⟩ u) x := h.keep (set_other _ _ _ _ h1) (set_other _ _ _ _ h2)
section
variable {F : Nat → Prop} {w : World} {c m : Nat} {d : Value} {size reads : Int}
set_option maxRecDepth 100000 in
set_option maxHeartbeats 4000000 in
theorem turn_any (A B : List Pl) (x : Pl) (pins : Nat) (dirty : Bool) (h : CaAt F w c m d size reads (A ++ x :: B)) (hl : (A ++ x :: B).length ≤ 1000000) :
    Calls Try.prog 30 #[ptV c, ptV x.h, .int .i64 (pins : Nat), .bool dirty] w fun e w' => e = .returned (.tuple #[]) ∧ CaAt F w' c m d size reads (A ++ x.by pins dirty :: B) ∧ Only F w w' := by
  have hxm : x ∈ A ++ x :: B := by simp
  obtain ⟨a0, a1, a2, a3, a4, a5, a6⟩ := hd_cells (h.held x hxm)
  obtain ⟨c0, c1, c2, c5, c6, f2, f6⟩ := ca_cells h.ls.blk
  have hhc : x.h ≠ c := (h.kind hxm hxm).1
  have hch : c ≠ x.h := fun e => hhc e.symm
  have hn := idleN_app A B x
  have hn2 := idleN_app A B (x.by pins dirty)
  have hN : idleN A + idleN B ≤ 1000000 := by
    have := idleN_le (A ++ x :: B)
    omega
  obtain ⟨n, hnn⟩ : ∃ n, n = idleN A + idleN B := ⟨_, rfl⟩
  rw [← hnn] at hn hn2 hN
  have HI1 := Hid.mk (isidle_raw w x.h x.pins x.dirty a1 a2)
  have hi1 : x.idle = (decide (x.pins = 0) && !x.dirty) := rfl
  have hi2 : (x.by pins dirty).idle = (decide (pins = 0) && !dirty) := rfl
  rw [← hi1] at HI1
  have FIN : Hid (∀ W' : World, W'.heap[c]? = some (.cells #[d, .int .i64 size, .int .i64 reads, nxtV (A ++ x :: B) niV, lstV niV (A ++ x :: B), .map (some m), .int .i64 (idleN (A ++ x.by pins dirty :: B) : Nat)] 61 (0, 0)) → HdAt W' (x.by pins dirty) → Only (fun k => k = c ∨ k = x.h) w W' → CaAt F W' c m d size reads (A ++ x.by pins dirty :: B) ∧ Only F w W') := Hid.mk (fun W' g1 g2 g3 =>
    ⟨h.turn rfl rfl rfl (h.inF x hxm).2.2 g2 g1 (fun k _ hlt k1 k2 => g3.block k hlt (fun e => e.elim k1 k2)), g3.mono (fun k _ e => e.elim (fun e => e ▸ h.fc) (fun e => e ▸ (h.inF x hxm).2.1))⟩)
  have HB := Hid.mk h.ls.blk
  have HX := Hid.mk (h.held x hxm)
  have HI2 : Hid (∀ W1 : World, W1.cell? ⟨x.h, 1, none⟩ = some (.int .i64 (pins : Nat)) → W1.cell? ⟨x.h, 2, none⟩ = some (.bool dirty) → Calls Try.prog 43 #[ptV x.h] W1 fun e w' => e = .returned (.bool (x.by pins dirty).idle) ∧ w' = W1) := Hid.mk (fun W1 g1 g2 => isidle_raw W1 x.h pins dirty g1 g2)
  have HGC := Hid.mk (h.kind hxm hxm).2.1
  clear h hi1 hi2 hnn hl hxm
  obtain ⟨i1, hi1⟩ : ∃ i, i = x.idle := ⟨_, rfl⟩
  obtain ⟨i2, hi2⟩ : ∃ i, i = (x.by pins dirty).idle := ⟨_, rfl⟩
  rw [← hi1] at hn HI1
  rw [← hi2] at hn2 HI2
  clear hi1 hi2
  have HN2 := Hid.mk hn2
  have HD : Hid (∀ (W1 : World), HdAt W1 x → HdAt ((W1.setCell ⟨x.h, 1, none⟩ (.int .i64 (pins : Nat))).setCell ⟨x.h, 2, none⟩ (.bool dirty)) (x.by pins dirty)) := Hid.mk (fun W1 h => set_h12 h pins dirty)
  clear hn2
  have HN := Hid.mk hn
  cases i1 with
  | true =>
    rw [if_pos rfl] at hn
    rw [hn] at c6
    rw [Int.natCast_add] at c6
    cases i2 with
    | true =>
      clear hn
      go_enter Try.func30, Try.ntmps30
      go_wp2_with (first
        | (go_at_call 43; have hgd := HI1; clear HI1; refine hgd.out.mono ?_; rintro e w1 ⟨rfl, rfl⟩; clear hgd)
        | (go_at_call 43; refine (HI2.out _ (by go_simp) (by go_simp)).mono ?_; rintro e w1 ⟨rfl, rfl⟩))
      go_end0
      refine ⟨rfl, FIN.out _ ?_ ?_ ?_⟩
      · rw [HN2.out]
        refine set_c6 (u := .int .i64 (n : Nat)) ?_
        rw [set_other _ _ _ _ hch, set_other _ _ _ _ hch]
        exact set_c6 HB.out
      · exact HdAt.setc (x := x.by pins dirty) (HD.out _ (HX.out.setc hhc HGC.out _)) hhc HGC.out _
      · exact ((((Only.refl (fun k => k = c ∨ k = x.h) _).setCell (p := ⟨c, 6, none⟩) (.inl (.inl rfl)) _).setCell (p := ⟨x.h, 1, none⟩) (.inl (.inr rfl)) _).setCell (p := ⟨x.h, 2, none⟩) (.inl (.inr rfl)) _).setCell (p := ⟨c, 6, none⟩) (.inl (.inl rfl)) _
    | false =>
      clear hn
      go_enter Try.func30, Try.ntmps30
      go_wp2_with (first
        | (go_at_call 43; have hgd := HI1; clear HI1; refine hgd.out.mono ?_; rintro e w1 ⟨rfl, rfl⟩; clear hgd)
        | (go_at_call 43; refine (HI2.out _ (by go_simp) (by go_simp)).mono ?_; rintro e w1 ⟨rfl, rfl⟩))
      go_end0
      refine ⟨rfl, FIN.out _ ?_ ?_ ?_⟩
      · rw [HN2.out]
        rw [set_other _ _ _ _ hch, set_other _ _ _ _ hch]
        exact set_c6 HB.out
      · exact HD.out _ (HX.out.setc hhc HGC.out _)
      · exact (((Only.refl (fun k => k = c ∨ k = x.h) _).setCell (p := ⟨c, 6, none⟩) (.inl (.inl rfl)) _).setCell (p := ⟨x.h, 1, none⟩) (.inl (.inr rfl)) _).setCell (p := ⟨x.h, 2, none⟩) (.inl (.inr rfl)) _
  | false =>
    rw [if_neg (by simp)] at hn
    rw [hn, Nat.add_zero] at c6
    cases i2 with
    | true =>
      clear hn
      go_enter Try.func30, Try.ntmps30
      go_wp2_with (first
        | (go_at_call 43; have hgd := HI1; clear HI1; refine hgd.out.mono ?_; rintro e w1 ⟨rfl, rfl⟩; clear hgd)
        | (go_at_call 43; refine (HI2.out _ (by go_simp) (by go_simp)).mono ?_; rintro e w1 ⟨rfl, rfl⟩))
      go_end0
      refine ⟨rfl, FIN.out _ ?_ ?_ ?_⟩
      · rw [HN2.out]
        refine set_c6 (u := .int .i64 (n : Nat)) ?_
        rw [set_other _ _ _ _ hch, set_other _ _ _ _ hch]
        rw [HB.out, HN.out]
        rfl
      · exact HdAt.setc (x := x.by pins dirty) (HD.out _ HX.out) hhc HGC.out _
      · exact (((Only.refl (fun k => k = c ∨ k = x.h) _).setCell (p := ⟨x.h, 1, none⟩) (.inl (.inr rfl)) _).setCell (p := ⟨x.h, 2, none⟩) (.inl (.inr rfl)) _).setCell (p := ⟨c, 6, none⟩) (.inl (.inl rfl)) _
    | false =>
      clear hn
      go_enter Try.func30, Try.ntmps30
      go_wp2_with (first
        | (go_at_call 43; have hgd := HI1; clear HI1; refine hgd.out.mono ?_; rintro e w1 ⟨rfl, rfl⟩; clear hgd)
        | (go_at_call 43; refine (HI2.out _ (by go_simp) (by go_simp)).mono ?_; rintro e w1 ⟨rfl, rfl⟩))
      go_end0
      refine ⟨rfl, FIN.out _ ?_ ?_ ?_⟩
      · rw [HN2.out]
        rw [set_other _ _ _ _ hch, set_other _ _ _ _ hch]
        rw [HB.out, HN.out]
      · exact HD.out _ HX.out
      · exact ((Only.refl (fun k => k = c ∨ k = x.h) _).setCell (p := ⟨x.h, 1, none⟩) (.inl (.inr rfl)) _).setCell (p := ⟨x.h, 2, none⟩) (.inl (.inr rfl)) _
end
end Go.Proofs.Ytmbhjheoomlggaa
