/-
  Pack of the program.
-/
import Derived.Test.YtjhfkcngaknbdaaSupPackRef
import Derived.Lib.BufferWrite
namespace Go.Proofs.Ytjhfkcngaknbdaa
open Go Go.Proofs Go.RowKit Go.Shelf
namespace Sup
set_option maxRecDepth 100000 in
/-- copy(b, "..."), from the beginning. -/
theorem copy_str_run (W : World) (g n c : Nat) (xs ys : List Int) (s : ByteArray) (h : RAt W g xs) (hs : Lib.byteCells s.data.toList = By ys) (hn : ys.length ≤ n) (hl : n ≤ xs.length) :
    ∃ W', (Builtin.copy_ #[39, 9] 3 #[.slice (some ⟨g, 0, none⟩) n c, .string s]).run Try.prog W = .ok (.int .i64 ys.length) W' ∧ RAt W' g (splice xs 0 ys) ∧ Only (fun k => k = g) W W' := by
  obtain ⟨i0, hi, hz0, hz1, hz2⟩ := info5p
  have hsz : s.size = ys.length := by
    have := congrArg List.length hs
    rw [Lib.byteCells_length, By_length] at this
    rw [← this, ← Lib.size_eq]
  have hr := Lib.run_copy_row_string (P := Try.prog) W 39 9 3 5 g 0 n c s (By xs).toArray 5 Try.underlying39 (by rw [hi]; simp [hz1]) h (by omega) (by simp [By_length]; omega)
  refine ⟨W.setRow g (By (splice xs 0 ys)).toArray, hr.trans ?_, setRow_heap W g _ _ 5 _ h, (Only.refl (fun k => k = g) W).setRow (.inl rfl) _⟩
  rw [hsz, hs]
  simp [splice, By]
  rfl
/-- What Pack holds in memory: the geometry, the row that it makes. -/
structure PkAt (w : World) (b g : Nat) (G I D : Int) (xs : List Int) (W : World) : Prop where
  geo : GAt b G I D W
  row : RAt W g xs
  below : Below w.heap.size w W
  ne : b ≠ g
  ge : w.heap.size ≤ g
set_option maxRecDepth 100000 in
theorem PkAt.put {w W W' : World} {b g : Nat} {G I D : Int} {xs ys : List Int} (h : PkAt w b g G I D xs W) (hr : RAt W' g ys) (ho : Only (fun k => k = g) W W') : PkAt w b g G I D ys W' := by
  refine ⟨?_, hr, h.below.trans (ho.below h.below.size (fun k e => by rw [e]; exact h.ge)), h.ne, h.ge⟩
  unfold GAt
  rw [ho.block b h.geo.lt h.ne]
  exact h.geo
theorem PkAt.drew {w W : World} {b g : Nat} {G I D : Int} {xs : List Int} (h : PkAt w b g G I D xs W) : PkAt w b g G I D xs W.drew := ⟨h.geo, h.row, h.below.drew, h.ne, h.ge⟩
theorem PkAt.then {w W W' : World} {b g : Nat} {G I D : Int} {xs : List Int} (h : PkAt w b g G I D xs W) (hb : Below W.heap.size W W') : PkAt w b g G I D xs W' :=
  ⟨h.geo.below hb h.geo.lt, h.row.below hb h.row.lt, h.below.trans (hb.mono h.below.size), h.ne, h.ge⟩
theorem splice_lock : splice (zeros 1024) 0 lockL = lockL ++ zeros (1024 - 8) := by
  have h := splice_zero 1024 [] lockL 0 rfl (by decide)
  simpa [lockL] using h
theorem lock_bytes : Lib.byteCells (ByteArray.mk #[76, 79, 67, 75, 71, 65, 84, 69]).data.toList = By lockL := by rfl
theorem hdr_put (G I D : Int) : splice (lockL ++ zeros (1024 - 8)) 8 (leLs 4 [G, I, D]) = hdrL G I D ++ zeros (1024 - 20) := by
  have h := splice_zero 1024 lockL (leLs 4 [G, I, D]) 8 rfl (by simp [leLs_length])
  rw [leLs_length] at h
  rw [h]
  simp [hdrL, leLs]
set_option maxRecDepth 100000 in
theorem super_put (G I D s : Int) : splice (hdrL G I D ++ zeros (1024 - 20)) 20 (leLs 4 [s]) = hdrL G I D ++ leL s 4 ++ zeros 1000 := by
  have e : leLs 4 [s] = leL s 4 := by simp [leLs]
  have h := splice_zero 1024 (hdrL G I D) (leL s 4) 20 (hdrL_length G I D) (by simp [leL_length])
  rw [leL_length] at h
  rw [e, h]
end Sup
end Go.Proofs.Ytjhfkcngaknbdaa
