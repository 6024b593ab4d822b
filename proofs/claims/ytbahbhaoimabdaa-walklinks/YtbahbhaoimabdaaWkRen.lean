/-
  walk.Renumber.
-/
import Derived.Test.YtbahbhaoimabdaaLayNu
namespace Go.Proofs.Ytbahbhaoimabdaa
open Go Go.Proofs Go.RowKit Go.Shelf

theorem find_congr {α : Type} {p q : α → Bool} : ∀ l : List α, (∀ x, x ∈ l → p x = q x) → l.find? p = l.find? q := by
  intro l
  induction l with
  | nil => intro _; rfl
  | cons x l ih =>
    intro h
    rw [List.find?_cons, List.find?_cons, h x (by simp), ih (fun y hy => h y (by simp [hy]))]
theorem first_same {m : Nat} {N M : Nat → NoV} (h : ∀ i, i < m → (N i).ino = (M i).ino) (ino : Int) : firstN m N ino = firstN m M ino := by
  unfold firstN
  exact find_congr _ (fun j hj => by rw [h j (List.mem_range.1 hj)])
theorem CpI.nus {w0 : World} {ao : Option Addr} {m : Nat} {Nd : Nat → NoV} {v : Value} {L : List NoV} {W : World} (h : CpI w0 m Nd v L m W) (hN : NoAt w0 ao m Nd) (hm : m ≤ 16777216) (hs : ∀ i, i < m → (Nd i).sn ≤ 16777216 ∧ (Nd i).bn ≤ 16777216 ∧ ∀ k, k < (Nd i).bn → ((Nd i).P k).m ≤ 16777216) : NuS m L := by
  refine ⟨h.len, hm, h.apart, fun i hi => ?_, fun i hi => ?_, fun i hi k hk x hx => ?_⟩
  · rw [(h.val i hi).sn]; exact (hs i hi).1
  · obtain ⟨-, -, -, -, -, -, -, w1, w2, w3, w4⟩ := no_at hN hi
    have hv := h.val i hi
    refine ⟨by rw [hv.bn]; exact w1, by rw [hv.sn]; exact w2, by rw [hv.ino]; exact w3, fun j hj => ?_⟩
    rw [hv.E j hj]
    exact w4 j (by rw [← hv.sn]; exact hj)
  · obtain ⟨-, -, -, -, -, hp, -, -⟩ := no_at hN hi
    have hv := h.val i hi
    have hk' : k < (Nd i).bn := by rw [← hv.bn]; exact hk
    obtain ⟨b, o, -, -, hc⟩ := hp (by omega)
    rw [(hv.P k hk).2.2] at hx
    exact (hc k hk').2.2.2.2.2 x hx
theorem CpI.num {w0 : World} {m : Nat} {Nd : Nat → NoV} {v : Value} {L : List NoV} {W : World} (h : CpI w0 m Nd v L m W) : NuM w0.heap.size m v L (fun i => (L.getD i noZ).E) W := ⟨h.row, h.own⟩
set_option maxRecDepth 100000 in
set_option maxHeartbeats 4000000 in
theorem renumber_any (w0 : World) (ao : Option Addr) (m cc : Nat) (Nd : Nat → NoV) (hN : NoAt w0 ao m Nd) (hm : m ≤ 16777216) (hs : ∀ i, i < m → (Nd i).sn ≤ 16777216 ∧ (Nd i).bn ≤ 16777216 ∧ ∀ k, k < (Nd i).bn → ((Nd i).P k).m ≤ 16777216) :
    Calls Try.prog 16 #[.slice ao m cc] w0 fun e w' => ∃ v, e = .returned v ∧ Below w0.heap.size w0 w' ∧ (firstN m Nd 1 = none → v = .slice none 0 0) ∧ ∀ r, firstN m Nd 1 = some r → ∃ L W1 v1 k X pb nb rv, (∀ i, i < m → SameV (L.getD i noZ) (Nd i)) ∧ NuS m L ∧ k = (rowN m (atN L) r k).length ∧ NuO W1 w0.heap.size m v1 L pb nb r k X rv v w' := by
  have HC := Hid.mk (copied_any w0 ao m cc Nd hN hm hs)
  have HNU : Hid (∀ (L : List NoV) (W : World) (v : Value), CpI w0 m Nd v L m W → NuS m L) := Hid.mk (fun L W v h => h.nus hN hm hs)
  clear hN hm hs
  cases hq : firstN m Nd 1 with
  | none =>
    have HQ := Hid.mk hq
    clear hq
    go_enter Try.func16, Try.ntmps16
    go_wp2_with (first
      | (go_at_call 28; refine HC.out.mono ?_; rintro e w1 ⟨v1, L, rfl, hc⟩; obtain ⟨va, vc, rfl, -, -⟩ := owns_val hc.row; have HCC := Hid.mk hc; clear hc)
      | (go_at_call 27; refine (number_none w1 w0.heap.size m va vc L HCC.out.num (HNU.out _ _ _ HCC.out) ((first_same (fun i hi => (HCC.out.val i hi).ino) 1).trans HQ.out)).mono ?_; rintro e w2 ⟨rfl, hB2⟩; have HB2 := Hid.mk hB2; clear hB2))
    refine bodyPost_ret (results_tmp rfl _ _ _) rfl ?_
    exact ⟨_, rfl, HCC.out.below.trans (HB2.out.mono HCC.out.below.size), fun _ => rfl, fun r h => by cases h⟩
  | some r =>
    have HQ := Hid.mk hq
    clear hq
    go_enter Try.func16, Try.ntmps16
    go_wp2_with (first
      | (go_at_call 28; refine HC.out.mono ?_; rintro e w1 ⟨v1, L, rfl, hc⟩; obtain ⟨va, vc, rfl, -, -⟩ := owns_val hc.row; have HCC := Hid.mk hc; clear hc)
      | (go_at_call 27; refine (number_some w1 w0.heap.size m va vc L HCC.out.num (HNU.out _ _ _ HCC.out) HCC.out.below.size r ((first_same (fun i hi => (HCC.out.val i hi).ino) 1).trans HQ.out)).mono ?_; rintro e w2 ⟨v2, k, X, pb, nb, rv, rfl, hk, ho⟩; have HO := Hid.mk (And.intro hk ho); clear hk ho))
    refine bodyPost_ret (results_tmp rfl _ _ _) rfl ?_
    exact ⟨_, rfl, HCC.out.below.trans HO.out.2.j.bel, fun h => (by cases h), fun r' h => (by cases h; exact ⟨L, w1, _, k, X, pb, nb, rv, HCC.out.val, HNU.out _ _ _ HCC.out, HO.out.1, HO.out.2⟩)⟩
end Go.Proofs.Ytbahbhaoimabdaa
