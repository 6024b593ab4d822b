/-
  Do: the call of its Kind is what it does.
-/
import Derived.Test.YtehaoeclnmelhacGreatTrDo
import Derived.Deep.Cut
import Derived.Deep.CutRange
namespace Go.Proofs.YtehaoeclnmelhacGreat
open Go Go.Proofs Go.RowKit Go.Shelf Go.Sort

set_option maxRecDepth 100000 in
set_option maxHeartbeats 4000000 in
theorem do_read (w : World) (t : Nat) (σ' : Tr) (Ls : List Lay) (s s2 : ByteArray) (off m : Int) (dp : Option Addr) (dl dc : Nat) (e0 e2 e3 e4 e6 : Int) (Q : Value → Value → World → Prop) (hlt : ∀ k ∈ feet t Ls, k < w.heap.size) (hQ : ∀ (x y : Value) (W1 W2 : World), Q x y W1 → Only (fun k => k = w.heap.size + 1) W1 W2 → Q x y W2)
    (HC : Hid (∀ W, Below w.heap.size w W → w.heap.size + 2 ≤ W.heap.size → Calls Tryz.prog 26 #[ptrV t, callV 7 s s2 off m (.slice dp dl dc)] W fun e w' => ∃ a1 n1 c1 a5 n5 c5, e = .returned (.agg #[.int .i64 e0, .slice a1 n1 c1, .int .i64 e2, .int .i64 e3, .int .i64 e4, .slice a5 n5 c5, .int .i64 e6]) ∧ Step (fun k => k ∈ feet t Ls) W t w' σ' ∧ Q (.slice a1 n1 c1) (.slice a5 n5 c5) w')) :
    Calls Tryz.prog 9 #[ptrV t, callV 7 s s2 off m (.slice dp dl dc)] w fun e w' => ∃ a1 n1 c1 a5 n5 c5, e = .returned (.agg #[.int .i64 e0, .slice a1 n1 c1, .int .i64 e2, .int .i64 e3, .int .i64 e4, .slice a5 n5 c5, .int .i64 e6]) ∧ Step (fun k => k ∈ feet t Ls) w t w' σ' ∧ Q (.slice a1 n1 c1) (.slice a5 n5 c5) w' := by
  have mixed : Tryz.prog.follows Departure.mixedOrders = true := by kernel_rfl
  have HK := Hid.mk (fun W => kinds_any W)
  have HLT := Hid.mk hlt
  have HQ := Hid.mk hQ
  clear hlt hQ
  unfold callV ptrV at *
  go_enter Tryz.func9, Tryz.ntmps9
  go_wp2_with fail
  obtain ⟨X, hX⟩ : ∃ X, X = (w.alloc (.cells #[.int .i64 7, .string s, .string s2, .int .i64 off, .int .i64 m, .slice dp dl dc] 34)).alloc (.cells #[.int .i64 0, .slice none 0 0, .int .i64 0, .int .i64 0, .int .i64 0, .slice none 0 0, .int .i64 0] 31) := ⟨_, rfl⟩
  have hXB : Below w.heap.size w X := by rw [hX]; exact ((Below.refl _ w).alloc (Nat.le_refl _) _).alloc (by simp) _
  have hXs : X.heap.size = w.heap.size + 2 := by rw [hX]; simp
  have hX0 : X.heap[w.heap.size]? = some (.cells #[.int .i64 7, .string s, .string s2, .int .i64 off, .int .i64 m, .slice dp dl dc] 34 (0, 0)) := by rw [hX, Below.heap_alloc _ _ _ (by simp)]; exact blk_new w _
  have hX1 : X.heap[w.heap.size + 1]? = some (.cells #[.int .i64 0, .slice none 0 0, .int .i64 0, .int .i64 0, .int .i64 0, .slice none 0 0, .int .i64 0] 31 (0, 0)) := by
    rw [hX]
    have := blk_new (w.alloc (.cells #[.int .i64 7, .string s, .string s2, .int .i64 off, .int .i64 m, .slice dp dl dc] 34)) (.cells #[.int .i64 0, .slice none 0 0, .int .i64 0, .int .i64 0, .int .i64 0, .slice none 0 0, .int .i64 0] 31)
    rwa [World.size_alloc] at this
  rw [← hX]
  clear hX
  have c0 := blk_cell hX0 0
  simp at c0
  have HXB := Hid.mk hXB
  have HXS := Hid.mk hXs
  have HX0 := Hid.mk hX0
  have HX1 := Hid.mk hX1
  have HBX : Hid (∀ W, Below X.drew.heap.size X.drew W → W.cell? ⟨w.heap.size, 0, none⟩ = some (.int .i64 7)) := Hid.mk (fun W hB => by
    rw [blk_cell ((hB.block w.heap.size (show w.heap.size < X.heap.size by omega)).trans hX0)]; rfl)
  clear hXB hXs hX0 hX1
  go_cut [5, 6] from 7 to 13 (fun s5 s6 wc => s5 = .func (.func 26) #[] #[] ∧ s6 = .bool true ∧ Below X.heap.size X wc)
  case first =>
    go_region_with (go_at_call 18; refine (HK.out _).mono ?_; rintro e' Wn ⟨rfl, ⟨n, hm⟩, hbn⟩; have hlk := hm.look2 keyed3 Tryz.underlying55 (zero_fn _) (key_int (k := 7) (by decide)); rw [kind_read] at hlk; simp only [Option.getD_some, Option.isSome_some] at hlk; have hlk2 : (Instr.lookup 55 (.map (some X.heap.size)) (.int .i64 7) true).run Tryz.prog Wn = .ok (.tuple #[.func (.func 26) #[] #[], .bool true]) Wn := hlk; clear hlk; have cn := HBX.out Wn hbn; have XB := Hid.mk hbn; clear hm hbn)
    all_goals (go_wp2; go_meet; exact ⟨rfl, rfl, (Below.refl _ X).drew.trans XB.out⟩)
  case rest =>
    obtain ⟨rfl, rfl, hB⟩ := hcut
    have q0 := (hB.block w.heap.size (by have := HXS.out; omega)).trans HX0.out
    have q1 := (hB.block (w.heap.size + 1) (by have := HXS.out; omega)).trans HX1.out
    have g0 := blk_cell q0 0
    have g1 := blk_cell q0 1
    have g2 := blk_cell q0 2
    have g3 := blk_cell q0 3
    have g4 := blk_cell q0 4
    have g5 := blk_cell q0 5
    simp at g0 g1 g2 g3 g4 g5
    have hwB : Below w.heap.size w wc := HXB.out.trans (hB.mono HXB.out.size)
    have HCC := Hid.mk (HC.out wc hwB (by have := HXS.out; have := hB.size; omega))
    have HWB := Hid.mk hwB
    have HQ1 := Hid.mk q1
    have HSZ : Hid (w.heap.size + 2 ≤ wc.heap.size) := Hid.mk (by have := HXS.out; have := hB.size; omega)
    clear hB q0 q1 hwB
    go_wp2_with fail
    refine HCC.out.mono ?_
    rintro e' W2 ⟨a1, n1, c1, a5, n5, c5, rfl, hst, hq⟩
    have hnot : ¬ (w.heap.size + 1 ∈ feet t Ls) := fun h => by have := HLT.out _ h; omega
    have hbx := (hst.only.block (w.heap.size + 1) (by have := HSZ.out; omega) hnot).trans HQ1.out
    have z0 := blk_cell hbx 0
    have z1 := blk_cell hbx 1
    have z2 := blk_cell hbx 2
    have z3 := blk_cell hbx 3
    have z4 := blk_cell hbx 4
    have z5 := blk_cell hbx 5
    have z6 := blk_cell hbx 6
    have y0 := blk_free hbx 0
    have y1 := blk_free hbx 1
    have y2 := blk_free hbx 2
    have y3 := blk_free hbx 3
    have y4 := blk_free hbx 4
    have y5 := blk_free hbx 5
    have y6 := blk_free hbx 6
    simp at z0 z1 z2 z3 z4 z5 z6
    obtain ⟨hb7, ho7⟩ := box7 hbx (.int .i64 e0) (.slice a1 n1 c1) (.int .i64 e2) (.int .i64 e3) (.int .i64 e4) (.slice a5 n5 c5) (.int .i64 e6)
    have STT : Hid (Step (fun k => k ∈ feet t Ls) w t (((((((W2.setCell ⟨w.heap.size + 1, 0, none⟩ (.int .i64 e0)).setCell ⟨w.heap.size + 1, 1, none⟩ (.slice a1 n1 c1)).setCell ⟨w.heap.size + 1, 2, none⟩ (.int .i64 e2)).setCell ⟨w.heap.size + 1, 3, none⟩ (.int .i64 e3)).setCell ⟨w.heap.size + 1, 4, none⟩ (.int .i64 e4)).setCell ⟨w.heap.size + 1, 5, none⟩ (.slice a5 n5 c5)).setCell ⟨w.heap.size + 1, 6, none⟩ (.int .i64 e6)) σ' ∧ Q (.slice a1 n1 c1) (.slice a5 n5 c5) (((((((W2.setCell ⟨w.heap.size + 1, 0, none⟩ (.int .i64 e0)).setCell ⟨w.heap.size + 1, 1, none⟩ (.slice a1 n1 c1)).setCell ⟨w.heap.size + 1, 2, none⟩ (.int .i64 e2)).setCell ⟨w.heap.size + 1, 3, none⟩ (.int .i64 e3)).setCell ⟨w.heap.size + 1, 4, none⟩ (.int .i64 e4)).setCell ⟨w.heap.size + 1, 5, none⟩ (.slice a5 n5 c5)).setCell ⟨w.heap.size + 1, 6, none⟩ (.int .i64 e6))) := Hid.mk ⟨hst.out HWB.out (fun k hk => .inl hk) (ho7.mono (fun i _ hi => by subst hi; exact ⟨by omega, by have := HSZ.out; omega, hnot⟩)), HQ.out _ _ _ _ hq ho7⟩
    have H7 := Hid.mk hb7
    clear hst hq hnot hbx hb7 ho7 g0 g1 g2 g3 g4 g5
    go_wp2_with fail
    obtain ⟨Y, hY⟩ : ∃ Y, Y = (((((((W2.setCell ⟨w.heap.size + 1, 0, none⟩ (.int .i64 e0)).setCell ⟨w.heap.size + 1, 1, none⟩ (.slice a1 n1 c1)).setCell ⟨w.heap.size + 1, 2, none⟩ (.int .i64 e2)).setCell ⟨w.heap.size + 1, 3, none⟩ (.int .i64 e3)).setCell ⟨w.heap.size + 1, 4, none⟩ (.int .i64 e4)).setCell ⟨w.heap.size + 1, 5, none⟩ (.slice a5 n5 c5)).setCell ⟨w.heap.size + 1, 6, none⟩ (.int .i64 e6)) := ⟨_, rfl⟩
    have hb7 := H7.out
    rw [← hY] at STT hb7 ⊢
    have k0 := blk_cell hb7 0
    have k1 := blk_cell hb7 1
    have k2 := blk_cell hb7 2
    have k3 := blk_cell hb7 3
    have k4 := blk_cell hb7 4
    have k5 := blk_cell hb7 5
    have k6 := blk_cell hb7 6
    simp at k0 k1 k2 k3 k4 k5 k6
    refine bodyPost_ret (v := .agg #[.int .i64 e0, .slice a1 n1 c1, .int .i64 e2, .int .i64 e3, .int .i64 e4, .slice a5 n5 c5, .int .i64 e6]) ?_ rfl ⟨_, _, _, _, _, _, rfl, STT.out.1, STT.out.2⟩
    simp [results, Tryz.results9, go_sem, k0, k1, k2, k3, k4, k5, k6]
set_option maxRecDepth 100000 in
set_option maxHeartbeats 4000000 in
theorem do_write (w : World) (t : Nat) (σ' : Tr) (Ls : List Lay) (s s2 : ByteArray) (off m : Int) (dp : Option Addr) (dl dc : Nat) (e0 e2 e3 e4 e6 : Int) (Q : Value → Value → World → Prop) (hlt : ∀ k ∈ feet t Ls, k < w.heap.size) (hQ : ∀ (x y : Value) (W1 W2 : World), Q x y W1 → Only (fun k => k = w.heap.size + 1) W1 W2 → Q x y W2)
    (HC : Hid (∀ W, Below w.heap.size w W → w.heap.size + 2 ≤ W.heap.size → Calls Tryz.prog 27 #[ptrV t, callV 8 s s2 off m (.slice dp dl dc)] W fun e w' => ∃ a1 n1 c1 a5 n5 c5, e = .returned (.agg #[.int .i64 e0, .slice a1 n1 c1, .int .i64 e2, .int .i64 e3, .int .i64 e4, .slice a5 n5 c5, .int .i64 e6]) ∧ Step (fun k => k ∈ feet t Ls) W t w' σ' ∧ Q (.slice a1 n1 c1) (.slice a5 n5 c5) w')) :
    Calls Tryz.prog 9 #[ptrV t, callV 8 s s2 off m (.slice dp dl dc)] w fun e w' => ∃ a1 n1 c1 a5 n5 c5, e = .returned (.agg #[.int .i64 e0, .slice a1 n1 c1, .int .i64 e2, .int .i64 e3, .int .i64 e4, .slice a5 n5 c5, .int .i64 e6]) ∧ Step (fun k => k ∈ feet t Ls) w t w' σ' ∧ Q (.slice a1 n1 c1) (.slice a5 n5 c5) w' := by
  have mixed : Tryz.prog.follows Departure.mixedOrders = true := by kernel_rfl
  have HK := Hid.mk (fun W => kinds_any W)
  have HLT := Hid.mk hlt
  have HQ := Hid.mk hQ
  clear hlt hQ
  unfold callV ptrV at *
  go_enter Tryz.func9, Tryz.ntmps9
  go_wp2_with fail
  obtain ⟨X, hX⟩ : ∃ X, X = (w.alloc (.cells #[.int .i64 8, .string s, .string s2, .int .i64 off, .int .i64 m, .slice dp dl dc] 34)).alloc (.cells #[.int .i64 0, .slice none 0 0, .int .i64 0, .int .i64 0, .int .i64 0, .slice none 0 0, .int .i64 0] 31) := ⟨_, rfl⟩
  have hXB : Below w.heap.size w X := by rw [hX]; exact ((Below.refl _ w).alloc (Nat.le_refl _) _).alloc (by simp) _
  have hXs : X.heap.size = w.heap.size + 2 := by rw [hX]; simp
  have hX0 : X.heap[w.heap.size]? = some (.cells #[.int .i64 8, .string s, .string s2, .int .i64 off, .int .i64 m, .slice dp dl dc] 34 (0, 0)) := by rw [hX, Below.heap_alloc _ _ _ (by simp)]; exact blk_new w _
  have hX1 : X.heap[w.heap.size + 1]? = some (.cells #[.int .i64 0, .slice none 0 0, .int .i64 0, .int .i64 0, .int .i64 0, .slice none 0 0, .int .i64 0] 31 (0, 0)) := by
    rw [hX]
    have := blk_new (w.alloc (.cells #[.int .i64 8, .string s, .string s2, .int .i64 off, .int .i64 m, .slice dp dl dc] 34)) (.cells #[.int .i64 0, .slice none 0 0, .int .i64 0, .int .i64 0, .int .i64 0, .slice none 0 0, .int .i64 0] 31)
    rwa [World.size_alloc] at this
  rw [← hX]
  clear hX
  have c0 := blk_cell hX0 0
  simp at c0
  have HXB := Hid.mk hXB
  have HXS := Hid.mk hXs
  have HX0 := Hid.mk hX0
  have HX1 := Hid.mk hX1
  have HBX : Hid (∀ W, Below X.drew.heap.size X.drew W → W.cell? ⟨w.heap.size, 0, none⟩ = some (.int .i64 8)) := Hid.mk (fun W hB => by
    rw [blk_cell ((hB.block w.heap.size (show w.heap.size < X.heap.size by omega)).trans hX0)]; rfl)
  clear hXB hXs hX0 hX1
  go_cut [5, 6] from 7 to 13 (fun s5 s6 wc => s5 = .func (.func 27) #[] #[] ∧ s6 = .bool true ∧ Below X.heap.size X wc)
  case first =>
    go_region_with (go_at_call 18; refine (HK.out _).mono ?_; rintro e' Wn ⟨rfl, ⟨n, hm⟩, hbn⟩; have hlk := hm.look2 keyed3 Tryz.underlying55 (zero_fn _) (key_int (k := 8) (by decide)); rw [kind_write] at hlk; simp only [Option.getD_some, Option.isSome_some] at hlk; have hlk2 : (Instr.lookup 55 (.map (some X.heap.size)) (.int .i64 8) true).run Tryz.prog Wn = .ok (.tuple #[.func (.func 27) #[] #[], .bool true]) Wn := hlk; clear hlk; have cn := HBX.out Wn hbn; have XB := Hid.mk hbn; clear hm hbn)
    all_goals (go_wp2; go_meet; exact ⟨rfl, rfl, (Below.refl _ X).drew.trans XB.out⟩)
  case rest =>
    obtain ⟨rfl, rfl, hB⟩ := hcut
    have q0 := (hB.block w.heap.size (by have := HXS.out; omega)).trans HX0.out
    have q1 := (hB.block (w.heap.size + 1) (by have := HXS.out; omega)).trans HX1.out
    have g0 := blk_cell q0 0
    have g1 := blk_cell q0 1
    have g2 := blk_cell q0 2
    have g3 := blk_cell q0 3
    have g4 := blk_cell q0 4
    have g5 := blk_cell q0 5
    simp at g0 g1 g2 g3 g4 g5
    have hwB : Below w.heap.size w wc := HXB.out.trans (hB.mono HXB.out.size)
    have HCC := Hid.mk (HC.out wc hwB (by have := HXS.out; have := hB.size; omega))
    have HWB := Hid.mk hwB
    have HQ1 := Hid.mk q1
    have HSZ : Hid (w.heap.size + 2 ≤ wc.heap.size) := Hid.mk (by have := HXS.out; have := hB.size; omega)
    clear hB q0 q1 hwB
    go_wp2_with fail
    refine HCC.out.mono ?_
    rintro e' W2 ⟨a1, n1, c1, a5, n5, c5, rfl, hst, hq⟩
    have hnot : ¬ (w.heap.size + 1 ∈ feet t Ls) := fun h => by have := HLT.out _ h; omega
    have hbx := (hst.only.block (w.heap.size + 1) (by have := HSZ.out; omega) hnot).trans HQ1.out
    have z0 := blk_cell hbx 0
    have z1 := blk_cell hbx 1
    have z2 := blk_cell hbx 2
    have z3 := blk_cell hbx 3
    have z4 := blk_cell hbx 4
    have z5 := blk_cell hbx 5
    have z6 := blk_cell hbx 6
    have y0 := blk_free hbx 0
    have y1 := blk_free hbx 1
    have y2 := blk_free hbx 2
    have y3 := blk_free hbx 3
    have y4 := blk_free hbx 4
    have y5 := blk_free hbx 5
    have y6 := blk_free hbx 6
    simp at z0 z1 z2 z3 z4 z5 z6
    obtain ⟨hb7, ho7⟩ := box7 hbx (.int .i64 e0) (.slice a1 n1 c1) (.int .i64 e2) (.int .i64 e3) (.int .i64 e4) (.slice a5 n5 c5) (.int .i64 e6)
    have STT : Hid (Step (fun k => k ∈ feet t Ls) w t (((((((W2.setCell ⟨w.heap.size + 1, 0, none⟩ (.int .i64 e0)).setCell ⟨w.heap.size + 1, 1, none⟩ (.slice a1 n1 c1)).setCell ⟨w.heap.size + 1, 2, none⟩ (.int .i64 e2)).setCell ⟨w.heap.size + 1, 3, none⟩ (.int .i64 e3)).setCell ⟨w.heap.size + 1, 4, none⟩ (.int .i64 e4)).setCell ⟨w.heap.size + 1, 5, none⟩ (.slice a5 n5 c5)).setCell ⟨w.heap.size + 1, 6, none⟩ (.int .i64 e6)) σ' ∧ Q (.slice a1 n1 c1) (.slice a5 n5 c5) (((((((W2.setCell ⟨w.heap.size + 1, 0, none⟩ (.int .i64 e0)).setCell ⟨w.heap.size + 1, 1, none⟩ (.slice a1 n1 c1)).setCell ⟨w.heap.size + 1, 2, none⟩ (.int .i64 e2)).setCell ⟨w.heap.size + 1, 3, none⟩ (.int .i64 e3)).setCell ⟨w.heap.size + 1, 4, none⟩ (.int .i64 e4)).setCell ⟨w.heap.size + 1, 5, none⟩ (.slice a5 n5 c5)).setCell ⟨w.heap.size + 1, 6, none⟩ (.int .i64 e6))) := Hid.mk ⟨hst.out HWB.out (fun k hk => .inl hk) (ho7.mono (fun i _ hi => by subst hi; exact ⟨by omega, by have := HSZ.out; omega, hnot⟩)), HQ.out _ _ _ _ hq ho7⟩
    have H7 := Hid.mk hb7
    clear hst hq hnot hbx hb7 ho7 g0 g1 g2 g3 g4 g5
    go_wp2_with fail
    obtain ⟨Y, hY⟩ : ∃ Y, Y = (((((((W2.setCell ⟨w.heap.size + 1, 0, none⟩ (.int .i64 e0)).setCell ⟨w.heap.size + 1, 1, none⟩ (.slice a1 n1 c1)).setCell ⟨w.heap.size + 1, 2, none⟩ (.int .i64 e2)).setCell ⟨w.heap.size + 1, 3, none⟩ (.int .i64 e3)).setCell ⟨w.heap.size + 1, 4, none⟩ (.int .i64 e4)).setCell ⟨w.heap.size + 1, 5, none⟩ (.slice a5 n5 c5)).setCell ⟨w.heap.size + 1, 6, none⟩ (.int .i64 e6)) := ⟨_, rfl⟩
    have hb7 := H7.out
    rw [← hY] at STT hb7 ⊢
    have k0 := blk_cell hb7 0
    have k1 := blk_cell hb7 1
    have k2 := blk_cell hb7 2
    have k3 := blk_cell hb7 3
    have k4 := blk_cell hb7 4
    have k5 := blk_cell hb7 5
    have k6 := blk_cell hb7 6
    simp at k0 k1 k2 k3 k4 k5 k6
    refine bodyPost_ret (v := .agg #[.int .i64 e0, .slice a1 n1 c1, .int .i64 e2, .int .i64 e3, .int .i64 e4, .slice a5 n5 c5, .int .i64 e6]) ?_ rfl ⟨_, _, _, _, _, _, rfl, STT.out.1, STT.out.2⟩
    simp [results, Tryz.results9, go_sem, k0, k1, k2, k3, k4, k5, k6]
set_option maxRecDepth 100000 in
set_option maxHeartbeats 4000000 in
theorem do_trunc (w : World) (t : Nat) (σ' : Tr) (Ls : List Lay) (s s2 : ByteArray) (off m : Int) (dp : Option Addr) (dl dc : Nat) (e0 e2 e3 e4 e6 : Int) (Q : Value → Value → World → Prop) (hlt : ∀ k ∈ feet t Ls, k < w.heap.size) (hQ : ∀ (x y : Value) (W1 W2 : World), Q x y W1 → Only (fun k => k = w.heap.size + 1) W1 W2 → Q x y W2)
    (HC : Hid (∀ W, Below w.heap.size w W → w.heap.size + 2 ≤ W.heap.size → Calls Tryz.prog 28 #[ptrV t, callV 9 s s2 off m (.slice dp dl dc)] W fun e w' => ∃ a1 n1 c1 a5 n5 c5, e = .returned (.agg #[.int .i64 e0, .slice a1 n1 c1, .int .i64 e2, .int .i64 e3, .int .i64 e4, .slice a5 n5 c5, .int .i64 e6]) ∧ Step (fun k => k ∈ feet t Ls) W t w' σ' ∧ Q (.slice a1 n1 c1) (.slice a5 n5 c5) w')) :
    Calls Tryz.prog 9 #[ptrV t, callV 9 s s2 off m (.slice dp dl dc)] w fun e w' => ∃ a1 n1 c1 a5 n5 c5, e = .returned (.agg #[.int .i64 e0, .slice a1 n1 c1, .int .i64 e2, .int .i64 e3, .int .i64 e4, .slice a5 n5 c5, .int .i64 e6]) ∧ Step (fun k => k ∈ feet t Ls) w t w' σ' ∧ Q (.slice a1 n1 c1) (.slice a5 n5 c5) w' := by
  have mixed : Tryz.prog.follows Departure.mixedOrders = true := by kernel_rfl
  have HK := Hid.mk (fun W => kinds_any W)
  have HLT := Hid.mk hlt
  have HQ := Hid.mk hQ
  clear hlt hQ
  unfold callV ptrV at *
  go_enter Tryz.func9, Tryz.ntmps9
  go_wp2_with fail
  obtain ⟨X, hX⟩ : ∃ X, X = (w.alloc (.cells #[.int .i64 9, .string s, .string s2, .int .i64 off, .int .i64 m, .slice dp dl dc] 34)).alloc (.cells #[.int .i64 0, .slice none 0 0, .int .i64 0, .int .i64 0, .int .i64 0, .slice none 0 0, .int .i64 0] 31) := ⟨_, rfl⟩
  have hXB : Below w.heap.size w X := by rw [hX]; exact ((Below.refl _ w).alloc (Nat.le_refl _) _).alloc (by simp) _
  have hXs : X.heap.size = w.heap.size + 2 := by rw [hX]; simp
  have hX0 : X.heap[w.heap.size]? = some (.cells #[.int .i64 9, .string s, .string s2, .int .i64 off, .int .i64 m, .slice dp dl dc] 34 (0, 0)) := by rw [hX, Below.heap_alloc _ _ _ (by simp)]; exact blk_new w _
  have hX1 : X.heap[w.heap.size + 1]? = some (.cells #[.int .i64 0, .slice none 0 0, .int .i64 0, .int .i64 0, .int .i64 0, .slice none 0 0, .int .i64 0] 31 (0, 0)) := by
    rw [hX]
    have := blk_new (w.alloc (.cells #[.int .i64 9, .string s, .string s2, .int .i64 off, .int .i64 m, .slice dp dl dc] 34)) (.cells #[.int .i64 0, .slice none 0 0, .int .i64 0, .int .i64 0, .int .i64 0, .slice none 0 0, .int .i64 0] 31)
    rwa [World.size_alloc] at this
  rw [← hX]
  clear hX
  have c0 := blk_cell hX0 0
  simp at c0
  have HXB := Hid.mk hXB
  have HXS := Hid.mk hXs
  have HX0 := Hid.mk hX0
  have HX1 := Hid.mk hX1
  have HBX : Hid (∀ W, Below X.drew.heap.size X.drew W → W.cell? ⟨w.heap.size, 0, none⟩ = some (.int .i64 9)) := Hid.mk (fun W hB => by
    rw [blk_cell ((hB.block w.heap.size (show w.heap.size < X.heap.size by omega)).trans hX0)]; rfl)
  clear hXB hXs hX0 hX1
  go_cut [5, 6] from 7 to 13 (fun s5 s6 wc => s5 = .func (.func 28) #[] #[] ∧ s6 = .bool true ∧ Below X.heap.size X wc)
  case first =>
    go_region_with (go_at_call 18; refine (HK.out _).mono ?_; rintro e' Wn ⟨rfl, ⟨n, hm⟩, hbn⟩; have hlk := hm.look2 keyed3 Tryz.underlying55 (zero_fn _) (key_int (k := 9) (by decide)); rw [kind_trunc] at hlk; simp only [Option.getD_some, Option.isSome_some] at hlk; have hlk2 : (Instr.lookup 55 (.map (some X.heap.size)) (.int .i64 9) true).run Tryz.prog Wn = .ok (.tuple #[.func (.func 28) #[] #[], .bool true]) Wn := hlk; clear hlk; have cn := HBX.out Wn hbn; have XB := Hid.mk hbn; clear hm hbn)
    all_goals (go_wp2; go_meet; exact ⟨rfl, rfl, (Below.refl _ X).drew.trans XB.out⟩)
  case rest =>
    obtain ⟨rfl, rfl, hB⟩ := hcut
    have q0 := (hB.block w.heap.size (by have := HXS.out; omega)).trans HX0.out
    have q1 := (hB.block (w.heap.size + 1) (by have := HXS.out; omega)).trans HX1.out
    have g0 := blk_cell q0 0
    have g1 := blk_cell q0 1
    have g2 := blk_cell q0 2
    have g3 := blk_cell q0 3
    have g4 := blk_cell q0 4
    have g5 := blk_cell q0 5
    simp at g0 g1 g2 g3 g4 g5
    have hwB : Below w.heap.size w wc := HXB.out.trans (hB.mono HXB.out.size)
    have HCC := Hid.mk (HC.out wc hwB (by have := HXS.out; have := hB.size; omega))
    have HWB := Hid.mk hwB
    have HQ1 := Hid.mk q1
    have HSZ : Hid (w.heap.size + 2 ≤ wc.heap.size) := Hid.mk (by have := HXS.out; have := hB.size; omega)
    clear hB q0 q1 hwB
    go_wp2_with fail
    refine HCC.out.mono ?_
    rintro e' W2 ⟨a1, n1, c1, a5, n5, c5, rfl, hst, hq⟩
    have hnot : ¬ (w.heap.size + 1 ∈ feet t Ls) := fun h => by have := HLT.out _ h; omega
    have hbx := (hst.only.block (w.heap.size + 1) (by have := HSZ.out; omega) hnot).trans HQ1.out
    have z0 := blk_cell hbx 0
    have z1 := blk_cell hbx 1
    have z2 := blk_cell hbx 2
    have z3 := blk_cell hbx 3
    have z4 := blk_cell hbx 4
    have z5 := blk_cell hbx 5
    have z6 := blk_cell hbx 6
    have y0 := blk_free hbx 0
    have y1 := blk_free hbx 1
    have y2 := blk_free hbx 2
    have y3 := blk_free hbx 3
    have y4 := blk_free hbx 4
    have y5 := blk_free hbx 5
    have y6 := blk_free hbx 6
    simp at z0 z1 z2 z3 z4 z5 z6
    obtain ⟨hb7, ho7⟩ := box7 hbx (.int .i64 e0) (.slice a1 n1 c1) (.int .i64 e2) (.int .i64 e3) (.int .i64 e4) (.slice a5 n5 c5) (.int .i64 e6)
    have STT : Hid (Step (fun k => k ∈ feet t Ls) w t (((((((W2.setCell ⟨w.heap.size + 1, 0, none⟩ (.int .i64 e0)).setCell ⟨w.heap.size + 1, 1, none⟩ (.slice a1 n1 c1)).setCell ⟨w.heap.size + 1, 2, none⟩ (.int .i64 e2)).setCell ⟨w.heap.size + 1, 3, none⟩ (.int .i64 e3)).setCell ⟨w.heap.size + 1, 4, none⟩ (.int .i64 e4)).setCell ⟨w.heap.size + 1, 5, none⟩ (.slice a5 n5 c5)).setCell ⟨w.heap.size + 1, 6, none⟩ (.int .i64 e6)) σ' ∧ Q (.slice a1 n1 c1) (.slice a5 n5 c5) (((((((W2.setCell ⟨w.heap.size + 1, 0, none⟩ (.int .i64 e0)).setCell ⟨w.heap.size + 1, 1, none⟩ (.slice a1 n1 c1)).setCell ⟨w.heap.size + 1, 2, none⟩ (.int .i64 e2)).setCell ⟨w.heap.size + 1, 3, none⟩ (.int .i64 e3)).setCell ⟨w.heap.size + 1, 4, none⟩ (.int .i64 e4)).setCell ⟨w.heap.size + 1, 5, none⟩ (.slice a5 n5 c5)).setCell ⟨w.heap.size + 1, 6, none⟩ (.int .i64 e6))) := Hid.mk ⟨hst.out HWB.out (fun k hk => .inl hk) (ho7.mono (fun i _ hi => by subst hi; exact ⟨by omega, by have := HSZ.out; omega, hnot⟩)), HQ.out _ _ _ _ hq ho7⟩
    have H7 := Hid.mk hb7
    clear hst hq hnot hbx hb7 ho7 g0 g1 g2 g3 g4 g5
    go_wp2_with fail
    obtain ⟨Y, hY⟩ : ∃ Y, Y = (((((((W2.setCell ⟨w.heap.size + 1, 0, none⟩ (.int .i64 e0)).setCell ⟨w.heap.size + 1, 1, none⟩ (.slice a1 n1 c1)).setCell ⟨w.heap.size + 1, 2, none⟩ (.int .i64 e2)).setCell ⟨w.heap.size + 1, 3, none⟩ (.int .i64 e3)).setCell ⟨w.heap.size + 1, 4, none⟩ (.int .i64 e4)).setCell ⟨w.heap.size + 1, 5, none⟩ (.slice a5 n5 c5)).setCell ⟨w.heap.size + 1, 6, none⟩ (.int .i64 e6)) := ⟨_, rfl⟩
    have hb7 := H7.out
    rw [← hY] at STT hb7 ⊢
    have k0 := blk_cell hb7 0
    have k1 := blk_cell hb7 1
    have k2 := blk_cell hb7 2
    have k3 := blk_cell hb7 3
    have k4 := blk_cell hb7 4
    have k5 := blk_cell hb7 5
    have k6 := blk_cell hb7 6
    simp at k0 k1 k2 k3 k4 k5 k6
    refine bodyPost_ret (v := .agg #[.int .i64 e0, .slice a1 n1 c1, .int .i64 e2, .int .i64 e3, .int .i64 e4, .slice a5 n5 c5, .int .i64 e6]) ?_ rfl ⟨_, _, _, _, _, _, rfl, STT.out.1, STT.out.2⟩
    simp [results, Tryz.results9, go_sem, k0, k1, k2, k3, k4, k5, k6]
end Go.Proofs.YtehaoeclnmelhacGreat
