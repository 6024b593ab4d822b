/-
  CacheDirty: a dirty block stays until it is written.
-/
import Derived.Test.YtmbhjheoomlggaaCaDirtyA
namespace Go.Proofs.Ytmbhjheoomlggaa
open Go Go.Proofs Go.RowKit Go.Shelf
abbrev DyS (gl : Nat) (xo : Option Addr) (xc : Nat) (st : ByteArray) (W : World) : Prop := W.cell? ⟨gl, 0, none⟩ = some (.int .i64 0) ∧ (convert 35 9 (.slice xo 1024 xc)).run Try.prog W = .ok (.string st) W
/-- Between two gets. -/
def DyR (w : World) (v : Int) (c dd size t : Nat) (W : World) : Prop := ∃ reads r, Cd w W c dd size reads (dyK v 0 :: r) (newS 20) ∧ DrP t r ∧ 0 ≤ reads ∧ reads ≤ t + 1
theorem dr_fine {v : Int} {t : Nat} {reads : Int} {r : List Kb} (h : DrP t r) (ht : t ≤ 100) (h0 : 0 ≤ reads) (h1 : reads ≤ 1000) (pins : Nat) (hp : pins ≤ 10) : Fine reads (dyK v pins :: r) (newS 20) :=
  ⟨by rw [newS_len]; omega, h0, by omega, by have := h.len; simp; omega, fun x hx => by
    rcases List.mem_cons.1 hx with rfl | hx
    · show pins ≤ _; omega
    · have := (h.els x hx).1; omega⟩
theorem rd_le (ks : List Kb) (reads n : Int) : reads ≤ rdK ks reads n ∧ rdK ks reads n ≤ reads + 1 := by unfold rdK; split <;> omega
theorem DyR.get {w W : World} {v : Int} {c dd size t : Nat} (h : DyR w v c dd size t W) (ht : t ≤ 50) (i : Nat) (hi : 1 ≤ i) (hi2 : i < 20) :
    Calls Try.prog 12 #[ptV c, .int .i64 (i : Int)] W fun e w' => ∃ u, e = .returned u ∧ DyR w v c dd size (t + 1) w' := by
  obtain ⟨reads, r, hC, hD, h0, h1⟩ := h
  obtain ⟨x, r', g1, g2, g3⟩ := dr_get v size hD i hi hi2
  refine (hC.get_yes (i : Int) (wf_small (by omega)) (dr_fine hD (by omega) h0 (by omega) 0 (by omega)) x g1).mono ?_
  rintro e w' ⟨g, cap, rfl, hC'⟩
  rw [g2] at hC'
  have := rd_le (dyK v 0 :: r) reads (i : Int)
  exact ⟨_, rfl, _, r', hC', g3, by omega, by omega⟩
theorem DyR.rel {w W : World} {v : Int} {c dd size t : Nat} (h : DyR w v c dd size t W) (ht : t ≤ 50) (i : Nat) (hi : 1 ≤ i) (hi2 : i < 20) :
    Calls Try.prog 15 #[ptV c, .int .i64 (i : Int)] W fun e w' => ∃ u, e = .returned u ∧ DyR w v c dd size t w' := by
  obtain ⟨reads, r, hC, hD, h0, h1⟩ := h
  obtain ⟨r', g2, g3⟩ := dr_rel v size hD i hi
  refine (hC.release (i : Int) (wf_small (by omega)) (dr_fine hD (by omega) h0 (by omega) 0 (by omega))).mono ?_
  rintro e w' ⟨rfl, hC'⟩
  rw [g2] at hC'
  exact ⟨_, rfl, _, r', hC', g3, by omega, by omega⟩
/-- The first three calls. -/
theorem dy_get0 {w W : World} {c dd size : Nat} (h : Cd w W c dd size 0 [] (newS 20)) (hs : 1 ≤ size) :
    Calls Try.prog 12 #[ptV c, .int .i64 0] W fun e w' => ∃ u, e = .returned u ∧ Cd w w' c dd size 1 [kbN (newS 20) 0 1] (newS 20) := by
  have hg : gotK (newS 20) [] 0 = some (kbN (newS 20) 0 0) := by
    have := newS_has 20 0
    simp [gotK, fndK, this, kbN]
  refine (h.get_yes 0 (by decide) (fine_small (by rw [newS_len]; omega) (by omega) (by omega) (by simp) (by simp)) _ hg).mono ?_
  rintro e w' ⟨g, cap, rfl, hC⟩
  have e1 : getL size [] (kbN (newS 20) 0 0) = [kbN (newS 20) 0 1] := by
    unfold getL shk
    rw [show ([].filter (fun y : Kb => y.num != (kbN (newS 20) 0 0).num) ++ [(kbN (newS 20) 0 0).by ((kbN (newS 20) 0 0).pins + 1) (kbN (newS 20) 0 0).dirty]) = [kbN (newS 20) 0 1] from rfl, show [kbN (newS 20) 0 1].length - size = 0 by simp; omega, shkN_zero]
  rw [e1, show rdK [] 0 0 = 1 from rfl] at hC
  exact ⟨_, rfl, hC⟩
theorem dy_put0 {w W : World} {c dd size : Nat} (v : Int) (h : Cd w W c dd size 1 [kbN (newS 20) 0 1] (newS 20)) (a : Nat) (hb : BAt W (some ⟨a, 0, none⟩) 1024 (blkV v)) :
    Calls Try.prog 17 #[ptV c, .int .i64 0, .slice (some ⟨a, 0, none⟩) 1024 1024] W fun e w' => e = .returned (.bool true) ∧ Cd w w' c dd size 1 [dyK v 1] (newS 20) := by
  refine (cd_put h.at' 0 (by decide) (fine_small (by rw [newS_len]; omega) (by omega) (by omega) (by simp) (by simp [kbN])) (some ⟨a, 0, none⟩) 1024 1024 (blkV v) hb).mono ?_
  rintro e w' ⟨rfl, hC, ho⟩
  have e1 : putB [kbN (newS 20) 0 1] 0 (blkV v) = true := by simp [putB, fndK, kbN, blkV_length]
  have e2 : putL [kbN (newS 20) 0 1] 0 (blkV v) = [dyK v 1] := by simp [putL, fndK, kbN, blkV_length, updK, dyK]
  rw [e2] at hC
  exact ⟨by rw [e1], h.step hC (fun k _ hk => hk.elim id (fun h' => Nat.le_trans h.bel.size h')) ho⟩
theorem dy_rel0 {w W : World} {c dd size : Nat} (v : Int) (h : Cd w W c dd size 1 [dyK v 1] (newS 20)) :
    Calls Try.prog 15 #[ptV c, .int .i64 0] W fun e w' => ∃ u, e = .returned u ∧ DyR w v c dd size 0 w' := by
  refine (h.release 0 (by decide) (dr_fine (t := 0) (r := []) ⟨by simp, by simp⟩ (by omega) (by omega) (by omega) 1 (by omega))).mono ?_
  rintro e w' ⟨rfl, hC⟩
  have e2 : relL size [dyK v 1] 0 = [dyK v 0] := by
    have hf : fndK [dyK v 1] 0 = some (dyK v 1) := by simp [fndK, dyK]
    unfold relL shk
    rw [hf]
    show (if 0 < (dyK v 1).pins then _ else _) = _
    rw [if_pos (show 0 < (dyK v 1).pins from Nat.one_pos)]
    have hu : updK [dyK v 1] ((dyK v 1).by ((dyK v 1).pins - 1) (dyK v 1).dirty) = [dyK v 0] := by simp [updK, dyK, Kb.by]
    rw [hu, shkN_dy]
    cases ([dyK v 0].length - size) <;> rfl
  rw [e2] at hC
  exact ⟨_, rfl, 1, [], hC, ⟨by simp, by simp⟩, by omega, by omega⟩
end Go.Proofs.Ytmbhjheoomlggaa
