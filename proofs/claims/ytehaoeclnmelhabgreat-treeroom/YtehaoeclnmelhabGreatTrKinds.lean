/-
  The calls by their Kinds; Do.
-/
import Derived.Test.YtehaoeclnmelhabGreatTrTree
namespace Go.Proofs.YtehaoeclnmelhabGreat
open Go Go.Proofs Go.RowKit Go.Shelf Go.Sort
open Go.ChangeMaps (setBlock)

/-- The function of a Kind. -/
noncomputable def kindF : Lit → Option Value := (updF (updF (updF (updF (updF (updF (updF (updF (updF (updF (updF (updF (updF (fun _ => none) (.int .i64 1) (some (.func (.func 25) #[] #[]))) (.int .i64 2) (some (.func (.func 26) #[] #[]))) (.int .i64 3) (some (.func (.func 27) #[] #[]))) (.int .i64 4) (some (.func (.func 28) #[] #[]))) (.int .i64 5) (some (.func (.func 29) #[] #[]))) (.int .i64 6) (some (.func (.func 30) #[] #[]))) (.int .i64 7) (some (.func (.func 31) #[] #[]))) (.int .i64 8) (some (.func (.func 32) #[] #[]))) (.int .i64 9) (some (.func (.func 33) #[] #[]))) (.int .i64 10) (some (.func (.func 34) #[] #[]))) (.int .i64 11) (some (.func (.func 35) #[] #[]))) (.int .i64 12) (some (.func (.func 36) #[] #[]))) (.int .i64 13) (some (.func (.func 37) #[] #[])))
theorem kind_create : kindF (.int .i64 1) = some (.func (.func 25) #[] #[]) := by simp [kindF, updF]
theorem kind_mkdir : kindF (.int .i64 2) = some (.func (.func 26) #[] #[]) := by simp [kindF, updF]
theorem kind_link : kindF (.int .i64 3) = some (.func (.func 27) #[] #[]) := by simp [kindF, updF]
theorem kind_unlink : kindF (.int .i64 4) = some (.func (.func 28) #[] #[]) := by simp [kindF, updF]
theorem kind_rmdir : kindF (.int .i64 5) = some (.func (.func 29) #[] #[]) := by simp [kindF, updF]
theorem kind_rename : kindF (.int .i64 6) = some (.func (.func 30) #[] #[]) := by simp [kindF, updF]
theorem kind_read : kindF (.int .i64 7) = some (.func (.func 31) #[] #[]) := by simp [kindF, updF]
theorem kind_write : kindF (.int .i64 8) = some (.func (.func 32) #[] #[]) := by simp [kindF, updF]
theorem kind_trunc : kindF (.int .i64 9) = some (.func (.func 33) #[] #[]) := by simp [kindF, updF]
theorem kind_stat : kindF (.int .i64 10) = some (.func (.func 34) #[] #[]) := by simp [kindF, updF]
theorem kind_list : kindF (.int .i64 11) = some (.func (.func 35) #[] #[]) := by simp [kindF, updF]
theorem kind_fsync : kindF (.int .i64 12) = some (.func (.func 36) #[] #[]) := by simp [kindF, updF]
theorem kind_sync : kindF (.int .i64 13) = some (.func (.func 37) #[] #[]) := by simp [kindF, updF]
theorem kind_none {k : Int} (h : k < 1 ∨ 13 < k) : kindF (.int .i64 k) = none := by
  have : ¬ k = 1 ∧ ¬ k = 2 ∧ ¬ k = 3 ∧ ¬ k = 4 ∧ ¬ k = 5 ∧ ¬ k = 6 ∧ ¬ k = 7 ∧ ¬ k = 8 ∧ ¬ k = 9 ∧ ¬ k = 10 ∧ ¬ k = 11 ∧ ¬ k = 12 ∧ ¬ k = 13 := by omega
  simp [kindF, updF, this]
theorem key_int {k : Int} (h : (Lit.int .i64 k).wf = true) : keyOf Tryz.prog 3 (.int .i64 k) = some (.int .i64 k) := Maps.keyOf_int_mk Tryz.underlying3 h
theorem put_kind {W : World} {b n N : Nat} {f : Lit → Option Value} (h : MAt W 3 b n f) (hn : n ≤ N) (hN : N ≤ 20) (k : Int) (hk : (Lit.int .i64 k).wf = true) (v : Value) :
    ∃ o n', (Instr.mapUpdate 58 (.map (some b)) (.int .i64 k) v).run Tryz.prog W = .ok () (setBlock W b o) ∧ MAt (setBlock W b o) 3 b n' (updF f (.int .i64 k) (some v)) ∧ n' ≤ N + 1 := by
  obtain ⟨o, h1, h2⟩ := h.put keyed3 Tryz.underlying58 (by unfold maxLen; omega) (key_int hk) (val := v)
  exact ⟨o, _, h1, h2, by split <;> omega⟩
set_option maxRecDepth 100000 in
set_option maxHeartbeats 4000000 in
theorem kinds_any (w : World) : Calls Tryz.prog 22 #[] w fun e w' => e = .returned (.map (some w.heap.size)) ∧ (∃ n, MAt w' 3 w.heap.size n kindF) ∧ Below w.heap.size w w' := by
  have hmm := @run_makeMap Tryz.prog
  have m0 := MAt.new w 3
  have b0 : Below w.heap.size w (w.alloc (.map #[] 0)) := (Below.refl _ w).alloc (Nat.le_refl _) _
  obtain ⟨o1, n1, h1, m1, l1⟩ := put_kind m0 (N := 0) (by omega) (by omega) 1 (by decide) (.func (.func 25) #[] #[])
  obtain ⟨o2, n2, h2, m2, l2⟩ := put_kind m1 (N := 1) (by omega) (by omega) 2 (by decide) (.func (.func 26) #[] #[])
  obtain ⟨o3, n3, h3, m3, l3⟩ := put_kind m2 (N := 2) (by omega) (by omega) 3 (by decide) (.func (.func 27) #[] #[])
  obtain ⟨o4, n4, h4, m4, l4⟩ := put_kind m3 (N := 3) (by omega) (by omega) 4 (by decide) (.func (.func 28) #[] #[])
  obtain ⟨o5, n5, h5, m5, l5⟩ := put_kind m4 (N := 4) (by omega) (by omega) 5 (by decide) (.func (.func 29) #[] #[])
  obtain ⟨o6, n6, h6, m6, l6⟩ := put_kind m5 (N := 5) (by omega) (by omega) 6 (by decide) (.func (.func 30) #[] #[])
  obtain ⟨o7, n7, h7, m7, l7⟩ := put_kind m6 (N := 6) (by omega) (by omega) 7 (by decide) (.func (.func 31) #[] #[])
  obtain ⟨o8, n8, h8, m8, l8⟩ := put_kind m7 (N := 7) (by omega) (by omega) 8 (by decide) (.func (.func 32) #[] #[])
  obtain ⟨o9, n9, h9, m9, l9⟩ := put_kind m8 (N := 8) (by omega) (by omega) 9 (by decide) (.func (.func 33) #[] #[])
  obtain ⟨o10, n10, h10, m10, l10⟩ := put_kind m9 (N := 9) (by omega) (by omega) 10 (by decide) (.func (.func 34) #[] #[])
  obtain ⟨o11, n11, h11, m11, l11⟩ := put_kind m10 (N := 10) (by omega) (by omega) 11 (by decide) (.func (.func 35) #[] #[])
  obtain ⟨o12, n12, h12, m12, l12⟩ := put_kind m11 (N := 11) (by omega) (by omega) 12 (by decide) (.func (.func 36) #[] #[])
  obtain ⟨o13, n13, h13, m13, l13⟩ := put_kind m12 (N := 12) (by omega) (by omega) 13 (by decide) (.func (.func 37) #[] #[])
  have HM := Hid.mk m13
  clear m0 m1 m2 m3 m4 m5 m6 m7 m8 m9 m10 m11 m12 m13
  go_enter Tryz.func22, Tryz.ntmps22
  go_wp2
  go_ret
  have bs : ∀ (W : World) (o : Obj), Below w.heap.size w W → Below w.heap.size w (setBlock W w.heap.size o) := fun W o h => (Only.setBlock (S := fun _ => False) (a := w) ⟨h.os, h.tape, h.output, h.size, fun k hk _ => h.block k hk⟩ (.inr (Nat.le_refl _)) o).below (Nat.le_refl _) (fun _ e => e.elim)
  exact ⟨rfl, ⟨_, HM.out⟩, bs _ _ (bs _ _ (bs _ _ (bs _ _ (bs _ _ (bs _ _ (bs _ _ (bs _ _ (bs _ _ (bs _ _ (bs _ _ (bs _ _ (bs _ _ b0))))))))))))⟩
end Go.Proofs.YtehaoeclnmelhabGreat
