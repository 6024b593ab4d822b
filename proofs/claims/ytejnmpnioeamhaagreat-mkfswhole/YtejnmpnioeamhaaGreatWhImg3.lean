/-
  image: the last steps.
-/
import Derived.Test.YtejnmpnioeamhaaGreatWhImg2
namespace Go.Proofs.YtejnmpnioeamhaaGreat
open Go Go.Proofs Go.RowKit Go.Shelf
namespace Mk
open Sup (superL headL maskL nI nD bD)
open Din (inoL fineL inoV NAt)
open Ent (blockL okB EAt Ey entV noS noE)
/-- data[0] = With(data[0], 0, true), and what lies between. -/
theorem IgAt.with3 {w : World} {b3 g4 gi gt B n cap N Ki m : Nat} {G I D : Int} {xs : List Int} {fi : Nat → List Int} {W : World} (h : IgAt w b3 g4 gi gt B n cap N Ki N G I D xs fi (fD m 0) W) (hm : 0 < m ∧ m ≤ 126) (a0 : Addr) (c6 : Nat) (g2 : BAt W (some a0) m (fD m 0 0)) (hN : 0 < N) :
    Calls Tryz.prog 54 #[.slice (some a0) m c6, .int .i64 0, .bool true] W fun e w' => ∃ a7 c7 W8, e = .returned (.slice (some a7) m c7) ∧ (Instr.storeAt 26 (.pointer (some ⟨gt, 0, none⟩)) (.slice (some a7) m c7)).run Tryz.prog w' = .ok () W8 ∧ IgAt w b3 g4 gi gt B n cap N Ki N G I D xs fi (fD m 1) W8 ∧ IgAt w b3 g4 gi gt B n cap N Ki N G I D xs fi (fD m 0) w' := by
  refine (Sup.refwith_any W (some a0) m c6 0 (by unfold I64; omega) true _ g2 (fun e => by cases e) (by omega)).mono ?_
  rintro e w7 ⟨v7, rfl, ho7, hB7⟩
  obtain ⟨ao7, c7, rfl, hb7, hge7, hne7⟩ := owns_BAt ho7
  cases ao7 with
  | none => exact absurd rfl (hne7 (by omega))
  | some a7 =>
    have ho := h.ord
    obtain ⟨rs8, hj8⟩ := (h.new hB7).putd 0 hN a7 m c7 _ hb7 (Nat.le_trans ho.2.2.2.2.2 (hge7 a7 rfl).1) N (fD m 1) (dstep N m)
    exact ⟨a7, c7, _, rfl, rs8, hj8, h.new hB7⟩
theorem head_on (k : Nat) (I D : Int) (ino m : Nat) (hi : 1 < ino) (hm : 0 < m) : headL k I D (fI ino k) (fD m 1 k) = headL k I D (onL k) (onL k) := by
  by_cases e : k = 0
  · subst e
    have e1 : fI ino 0 = withI (zeros 8) 0 true := by simp [fI, hi]
    have e2 : fD m 1 0 = withI (zeros m) 0 true := by simp [fD]
    rw [e1, e2]
    exact head_first I D 8 m (by omega) hm
  · have e1 : fI ino k = zeros 8 := by simp [fI, e]
    have e2 : fD m 1 k = zeros m := by simp [fD, e]
    have e3 : onL k = [] := by simp [onL, e]
    rw [e1, e2, e3]
    exact head_none k I D 8 m
theorem fI_bound (ino k : Nat) : ∀ x ∈ fI ino k, 0 ≤ x ∧ x ≤ 255 := by
  unfold fI
  split
  · exact withI_bound _ _ _ (zeros_bound 8)
  · exact zeros_bound 8
theorem fD_bound (m q k : Nat) : ∀ x ∈ fD m q k, 0 ≤ x ∧ x ≤ 255 := by
  unfold fD
  split
  · exact withI_bound _ _ _ (zeros_bound m)
  · exact zeros_bound m
set_option maxRecDepth 100000 in
/-- PackHead of a group's rows of bits, and its copy. -/
theorem ig_heads {w : World} {b3 g4 gi gt B n cap N Ki Kd m ino : Nat} {G I D : Int} {xs : List Int} {W : World} (h : IgAt w b3 g4 gi gt B n cap N Ki Kd G I D xs (fI ino) (fD m 1) W) (hg : good G I D = true) (k hh : Nat) (hk : k < 8) (hi : 1 < ino) (hm : 0 < m) (ho : hh * 1024 + 1024 ≤ n) (hp : piece xs (hh * 1024) 1024 = headL k I D (onL k) (onL k))
    (a1 a2 : Addr) (c1 c2 : Nat) (g1 : BAt W (some a1) 8 (fI ino k)) (g2 : BAt W (some a2) m (fD m 1 k)) :
    Calls Tryz.prog 58 #[geo G I D, .int .i64 (k : Int), .slice (some a1) 8 c1, .slice (some a2) m c2] W fun e w' => ∃ ap cp W8, e = .returned (.slice ap 1024 cp) ∧ (Builtin.copy_ #[26, 26] 3 #[.slice (some ⟨g4, hh * 1024, none⟩) (n - hh * 1024) (cap - hh * 1024), .slice ap 1024 cp]).run Tryz.prog w' = .ok (.int .i64 (1024 : Nat)) W8 ∧ IgAt w b3 g4 gi gt B n cap N Ki Kd G I D xs (fI ino) (fD m 1) W8 ∧ (∀ j, j = b3 ∨ j = gi ∨ j = gt → w'.heap[j]? = W.heap[j]? ∧ W8.heap[j]? = W.heap[j]?) := by
  refine (Sup.packhead_any W G I D (k : Int) hg (by omega) (by omega) (some a1) (some a2) 8 c1 m c2 _ _ g1 g2 (fI_bound ino k) (fD_bound m 1 k)).mono ?_
  rintro e w' ⟨v', rfl, hO, hB⟩
  rw [head_on k I D ino m hi hm] at hO
  obtain ⟨ap, cp, rfl, hb, -, -⟩ := owns_BAt hO
  have h1 := h.new hB
  obtain ⟨o1, o2, o3, o4, o5, o6⟩ := h.ord
  obtain ⟨W', k1, k2, k3⟩ := copy_same w' _ g4 n cap (hh * 1024) 1024 cp xs _ ap h1.out hb (by omega) ho hp
  have hz := k3.size
  have hb1 := hB.size
  refine ⟨ap, cp, W', rfl, k1, ⟨h1.below.trans (k3.below h1.below.size (fun k e => by omega)), (k3.block _ h1.geo.lt (by omega)).trans h1.geo, k2, h1.ri.only k3 (by omega) (fun k _ _ => by omega), h1.rd.only k3 (by omega) (fun k _ _ => by omega), o1, o2, o3, o4, o5, by omega⟩, fun j hj => ?_⟩
  have hj4 : j ≠ g4 ∧ j < W.heap.size := by omega
  have e1 := hB.block j hj4.2
  exact ⟨e1, (k3.block j (by omega) hj4.1).trans e1⟩
end Mk
end Go.Proofs.YtejnmpnioeamhaaGreat
