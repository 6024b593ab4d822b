/-
  The reference's Paths: its opening.
-/
import Derived.Test.YtbahbhaoimabdaaWkRPaths
namespace Go.Proofs.Ytbahbhaoimabdaa
open Go Go.Proofs Go.RowKit Go.Shelf

set_option maxRecDepth 100000 in
set_option maxHeartbeats 4000000 in
theorem rpaths_any (w : World) (ao : Option Addr) (m cc : Nat) (Nd : Nat → NoV) (hN : NoAt w ao m Nd) (hnm : ∀ d j, d < m → j < (Nd d).sn → ((Nd d).E j).nm.size ≤ 1000) (hm : m ≤ 16777216) (hl : (pathsS m Nd).length < 10000) : Calls Try.prog 15 #[.slice ao m cc] w fun e w' => ∃ v, e = .returned v ∧ w'.ownsRow w.heap.size 9 1 v (pathsS m Nd).length (Sb (pathsS m Nd)) ∧ Below w.heap.size w w' := by
  have HAT := Hid.mk (at_any w ao m cc Nd 1 hN hm)
  have HM := Hid.mk hm
  cases hq : firstN m Nd 1 with
  | none =>
    have hp : pathsS m Nd = [] := by unfold pathsS; rw [hq]
    have hat : atS m Nd 1 = -1 := by unfold atS; rw [hq]
    rw [hat] at HAT
    have HP := Hid.mk hp
    clear hN hnm hm hl hq hp hat
    go_enter Try.func15, Try.ntmps15
    go_wp2_with (go_at_call 20; refine HAT.out.mono ?_; rintro e w2 ⟨rfl, hw2⟩; subst hw2)
    refine bodyPost_ret (results_tmp rfl _ _ _) rfl ?_
    exact ⟨_, rfl, by rw [HP.out]; exact World.ownsRow_nil _ _ _ _, Below.refl _ _⟩
  | some t =>
    have hat : atS m Nd 1 = (t : Int) := by unfold atS; rw [hq]
    rw [hat] at HAT
    have htm := (firstN_some hq).1
    obtain ⟨f1, o1, rfl, -, ⟨-, z1, -, -, -, -⟩, -, -, -⟩ := no_at hN htm
    have htn : (0 : Int) ≤ (t : Int) := by omega
    have htm2 : (t : Int) < (m : Int) := by omega
    by_cases hk : (Nd t).kind = 2
    · have hkb : ((Nd t).kind == 2) = true := by simpa using hk
      have hkc : ((Nd t).kind != 2) = false := by simpa using hk
      have hp : pathsS m Nd = (intoS m Nd 501 noG t ⟨#[]⟩).1 := by unfold pathsS; rw [hq]; simp only [hk, if_true]
      have HP := Hid.mk hp
      have HRD := Hid.mk (fun (pb gb gc : Nat) (W : World) (h : RpI w (some ⟨f1, o1, none⟩) m cc pb gb gc noG [] W) => rdown_any hN hnm hm 501 t ⟨#[]⟩ noG [] W htm (by decide) (Nat.le_add_left _ _) h (by rw [← hp]; simpa using hl))
      clear hN hnm hm hl hq hp hat htm
      go_enter Try.func15, Try.ntmps15
      go_upto_region 5 with (first
        | (go_at_call 20; refine HAT.out.mono ?_; rintro e w2 ⟨rfl, hw2⟩; subst hw2)
        | (with_reducible refine wpList_it ?_; refine wpList_knownS (by kernel_rfl) _ _ (execG_make (l := .tmp 19) (c := .tmp 19) rfl (by kernel_rfl) (by kernel_rfl) (makeG_run _ m HM.out)) ?_))
      obtain ⟨X, hX⟩ : ∃ X, X = ((w2.alloc (.cells (boG m noG) 4)).alloc (.cells #[.slice (some ⟨f1, o1, none⟩) m cc, .slice (some ⟨w2.heap.size, 0, none⟩) m m, .slice none 0 0] 63)) := ⟨_, rfl⟩
      have hR0 : RpI w2 (some ⟨f1, o1, none⟩) m cc (w2.heap.size + 1) w2.heap.size m noG [] X := by
        rw [hX]
        refine ⟨⟨.slice none 0 0, two_new w2 _ _, World.ownsRow_nil _ _ _ _, (fun e => by cases e), (fun e => by cases e)⟩, ⟨_, _, (Below.heap_alloc _ _ _ (by simp)).trans (blk_new w2 _), boG_size _ _, fun _ hj => boG_get hj⟩, ((Below.refl _ w2).alloc (Nat.le_refl _) _).alloc (by simp) _, by omega, by omega, by omega⟩
      have HC := Hid.mk (HRD.out _ _ _ X hR0)
      rw [← hX]
      clear hX hR0 HRD HAT z1
      go_upto_region 6 with (go_at_call 26; refine HC.out.mono ?_; rintro e w6 ⟨⟨v6, rfl⟩, h6⟩)
      obtain ⟨v, h1, h2, -, -⟩ := h6.row
      rw [List.nil_append, ← HP.out] at h2
      obtain ⟨va, vc, rfl⟩ := owns_slice h2
      have c2 := blk_cell h1 2
      simp at c2
      have HO := Hid.mk (And.intro h2 h6.below)
      clear h1 h2 h6 HC
      go_wp2
      refine bodyPost_ret (results_tmp rfl _ _ _) rfl ?_
      exact ⟨_, rfl, HO.out.1, HO.out.2⟩
    · have hkb : ((Nd t).kind == 2) = false := by simpa using hk
      have hkc : ((Nd t).kind != 2) = true := by simpa using hk
      have hp : pathsS m Nd = [] := by unfold pathsS; rw [hq]; simp only [hk, if_false]
      have HP := Hid.mk hp
      clear hN hnm hm hl hq hp hat htm
      go_enter Try.func15, Try.ntmps15
      go_wp2_with (go_at_call 20; refine HAT.out.mono ?_; rintro e w2 ⟨rfl, hw2⟩; subst hw2)
      refine bodyPost_ret (results_tmp rfl _ _ _) rfl ?_
      exact ⟨_, rfl, by rw [HP.out]; exact World.ownsRow_nil _ _ _ _, Below.refl _ _⟩
end Go.Proofs.Ytbahbhaoimabdaa
