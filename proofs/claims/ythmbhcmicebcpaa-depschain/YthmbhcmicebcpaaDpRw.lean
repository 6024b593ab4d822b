/-
  The reference's Written.
-/
import Derived.Test.YthmbhcmicebcpaaDpRn
namespace Go.Proofs.Ythmbhcmicebcpaa
open Go Go.Proofs Go.RowKit Go.Shelf
attribute [local go_sem] Oper.semAt_some
theorem drew_below (w : World) : Below w.heap.size w w.drew := ⟨rfl, rfl, rfl, Nat.le_refl _, fun _ _ => rfl⟩
theorem Ry_set (L : List Rc) {j : Nat} (hj : j < L.length) (d : Bool) : Ry (L.set j { L.getD j Rc.zero with dn := d }) = (Ry L).set (j * 3 + 2) (.bool d) := by
  induction L generalizing j with
  | nil => simp at hj
  | cons c r ih =>
    cases j with
    | zero => rfl
    | succ j =>
      have := ih (j := j) (by simpa using hj)
      show Ry (c :: r.set j { r.getD j Rc.zero with dn := d }) = (rcC c ++ Ry r).set ((j + 1) * 3 + 2) (.bool d)
      have hl : (rcC c).length = 3 := rfl
      rw [List.set_append_right _ _ (by omega), hl, show (j + 1) * 3 + 2 - 3 = j * 3 + 2 by omega, ← this]
      rfl
theorem own_set {W : World} {B g n cap i z : Nat} {e : TypeId} {xs : List Value} (h : W.ownsRow B e z (.slice (some ⟨g, 0, none⟩) n cap) n xs) (u : Value) : (W.setCell ⟨g, i, none⟩ u).ownsRow B e z (.slice (some ⟨g, 0, none⟩) n cap) n (xs.set i u) := by
  refine ⟨by rw [List.length_set]; exact h.1, ?_⟩
  rcases h.2 with ⟨q, _⟩ | ⟨g', cap', cur, q, h1, hg, h2, h3, h4, h5⟩
  · cases q
  · cases q
    refine .inr ⟨g, cap, _, rfl, h1, blk_set hg, h2, h3, by rw [Array.size_setIfInBounds]; exact h4, ?_⟩
    rw [Array.toList_setIfInBounds, List.take_set, h5]
section
variable {F : Nat → Prop} {W w : World} {r : Nat} {v : Value} {G : Gp}
theorem RgAt.done {gb cap : Nat} (h : RgAt F W r (.slice (some ⟨gb, 0, none⟩) G.n cap) G) {j : Nat} (hj : j < G.n) : RgAt F (W.setCell ⟨gb, j * 3 + 2, none⟩ (.bool true)) r (.slice (some ⟨gb, 0, none⟩) G.n cap) (G.fin j) := by
  obtain ⟨L, h1, h2, h3⟩ := h.row
  have hne := (h.fv gb rfl).2
  have hs : W.heap.size ≤ (W.setCell ⟨gb, j * 3 + 2, none⟩ (.bool true)).heap.size := by simp
  refine ⟨(Below.heap_setCell _ _ _ _ (fun e => hne e.symm)).trans h.top, h.fr, h.fv, L.set j { L.getD j Rc.zero with dn := true }, by rw [List.length_set]; exact h1, ?_, fun i hi => ?_⟩
  · rw [Ry_set L (by omega), List.length_set, ← h1]
    rw [← h1] at h2
    exact own_set h2 _
  · rw [List.length_set] at hi
    obtain ⟨a1, a2, a3⟩ := h3 i hi
    have a3' := a3.keep hs (fun k q1 q2 q3 q4 => Below.heap_setCell _ _ _ _ (fun e => q4 (by rw [e]; rfl)))
    have eg : ∀ x, (L.set j { L.getD j Rc.zero with dn := true }).getD i x = if i = j then { L.getD j Rc.zero with dn := true } else L.getD i x := fun x => by
      rw [List.getD, List.getElem?_set]
      by_cases e : j = i
      · subst e
        simp [hi]
      · rw [if_neg e, if_neg (fun q => e q.symm)]
        rfl
    rw [eg]
    by_cases e : i = j
    · subst e
      rw [if_pos rfl]
      exact ⟨a1, if_pos rfl, a3'⟩
    · rw [if_neg e]
      refine ⟨a1, ?_, a3'⟩
      rw [← a2]
      exact if_neg (by omega)
theorem fins_snoc (G : Gp) (S : List Int) (x : Int) : G.fins (S ++ [x]) = (G.fins S).fin x := by unfold Gp.fins; rw [List.foldl_append]; rfl
theorem take_snocG {S : List Int} {k : Nat} (hk : k < S.length) : S.take (k + 1) = S.take k ++ [S.getD k 0] := by
  rw [List.take_add_one, List.getElem?_eq_getElem hk]
  simp [List.getD, List.getElem?_eq_getElem hk]
set_option maxRecDepth 100000 in
set_option maxHeartbeats 4000000 in
theorem rwritten_any (h : RgAt F w r v G) (hG : G.Ok) (hn : G.n ≤ 1000000) (hF : ∀ k, F k → k < w.heap.size) (b : Int) : Calls Try.prog 31 #[ptV r, .int .i64 b] w fun e w' => ∃ u, e = .returned u ∧ Hid (w'.ownsRow w.heap.size 3 1 u (pick (nxB G b) G.n).length (Iy (pick (nxB G b) G.n)) ∧ RgAt F w' r v (G.fins (pick (nxB G b) G.n)) ∧ Only F w w') := by
  have HNX := Hid.mk (rnext_any h hG hn b)
  obtain ⟨S, hS⟩ : ∃ S, S = pick (nxB G b) G.n := ⟨_, rfl⟩
  obtain ⟨m, hm⟩ : ∃ m, m = S.length := ⟨_, rfl⟩
  have HSM : Hid (∀ x ∈ S, ∃ j : Nat, x = (j : Int) ∧ j < G.n) := Hid.mk (fun x hx => by
    rw [hS] at hx
    obtain ⟨j, e, hj, _⟩ := pick_mem.1 hx
    exact ⟨j, e, hj⟩)
  have HSL : Hid (m ≤ G.n) := Hid.mk (by rw [hm, hS]; exact pick_len _ _)
  rw [← hS, ← hm] at HNX
  rw [← hS, ← hm]
  have HM := Hid.mk hm
  have HN := Hid.mk hn
  have HH := Hid.mk h
  clear hS hm hn h hG
  go_enter Try.func31, Try.ntmps31
  go_wp2_with (first
    | (go_at_call 17; refine HNX.out.mono ?_; rintro e w1 ⟨u, rfl, H1⟩; clear HNX)
    | go_in)
  obtain ⟨au, cu, rfl, _⟩ := owns_lat H1.out.1
  go_loopw [6] (fun kv wr => ∃ k : Nat, kv = .int .i64 k ∧ Hid (k ≤ m ∧ wr.ownsRow w.heap.size 3 1 (.slice au m cu) m (Iy S) ∧ RgAt F wr r v (G.fins (S.take k)) ∧ Only F w wr)) (fun kv _ => m - (Go.RowKit.intOf kv).toNat)
  case atStart => exact ⟨0, rfl, Hid.mk ⟨Nat.zero_le _, H1.out.1, HH.out.below H1.out.2, Only.of_new F H1.out.2⟩⟩
  case round =>
    obtain ⟨k, rfl, HK⟩ := hrel
    clear H1
    by_cases hkl : (k : Int) < (m : Int)
    · have v1 : IntKind.i64.wrap ((k : Int) + 1) = ((k + 1 : Nat) : Int) := by have := HN.out; have := HSL.out; rw [IntKind.wrap_i64]; omega
      have HKL : Hid (k < m ∧ k < S.length) := Hid.mk (by have := HM.out; omega)
      obtain ⟨gu, cu', e, hcap, hgu, hgl, hla, hcu⟩ := owns_ints HK.out.2.1 (by omega)
      cases e
      obtain ⟨y, hy, hyn⟩ := HSM.out (S.getD k 0) (by rw [List.getD, List.getElem?_eq_getElem HKL.out.2]; exact List.getElem_mem _)
      obtain ⟨e1, _, _⟩ := fins_same (S.take k) (G := G)
      obtain ⟨n, hnn⟩ : ∃ n, n = (G.fins (S.take k)).n := ⟨_, rfl⟩
      have hyn' : y < n := by rw [hnn, e1]; exact hyn
      obtain ⟨gb, cap, rfl, hne, hFb, hgbl, hfz, hcc⟩ := HK.out.2.2.1.at' (by omega)
      rw [← hnn] at HK
      have hgg : gb ≠ gu := fun e => by have := hF gb hFb; have := HK.out.2.1; omega
      have q1 := hcu k HKL.out.1
      rw [hy] at q1
      have c0 := HK.out.2.2.1.cell
      have d3 := (hcc y (by omega)).2.2
      have HTK := Hid.mk (take_snocG HKL.out.2)
      rw [hy] at HTK
      have y1 : ((y : Nat) : Int) < (n : Int) := by omega
      have y0 : (0 : Int) ≤ ((y : Nat) : Int) := by omega
      have k0 : (0 : Int) ≤ ((k : Nat) : Int) := by omega
      have e8 : (⟨gu, 0, none⟩ : Addr).add (k * 1) = ⟨gu, k, none⟩ := by rw [add_at]; simp
      have e8' : (⟨gu, 0, none⟩ : Addr).add k = ⟨gu, k, none⟩ := by rw [add_at]; simp
      have e9 : (⟨gb, 0, none⟩ : Addr).add (y * 3) = ⟨gb, y * 3, none⟩ := by rw [add_at]; simp
      have hrg : RgAt F wr.drew r (.slice (some ⟨gb, 0, none⟩) n cap) (G.fins (S.take k)) := HK.out.2.2.1.below (drew_below wr)
      have hH : (fun W : World => W.cell? ⟨r, 0, none⟩ = some (.slice (some ⟨gb, 0, none⟩) n cap) ∧ W.cell? ⟨gu, k, none⟩ = some (.int .i64 (y : Nat))) wr.drew := ⟨c0, q1⟩
      have HS1 : Hid ((fun W : World => W.cell? ⟨r, 0, none⟩ = some (.slice (some ⟨gb, 0, none⟩) n cap) ∧ W.cell? ⟨gu, k, none⟩ = some (.int .i64 (y : Nat))) (wr.drew.setCell ⟨gb, y * 3 + 2, none⟩ (.bool true))) := Hid.mk ⟨by
          rw [World.cell?_of_block (w := wr.drew) (Below.heap_setCell _ _ _ _ (fun e => hne e.symm))]
          exact c0, by
          rw [World.cell?_of_block (w := wr.drew) (Below.heap_setCell _ _ _ _ (fun e => hgg e.symm))]
          exact q1⟩
      have d3' : wr.drew.cell? ⟨gb, y * 3 + 2, none⟩ = some (.bool ((G.fins (S.take k)).dn y)) := d3
      have f3 : wr.drew.frozen? ⟨gb, y * 3 + 2, none⟩ = false := hfz _
      have HNX : Hid ((wr.drew.setCell ⟨gb, y * 3 + 2, none⟩ (.bool true)).ownsRow w.heap.size 3 1 (.slice (some ⟨gu, 0, none⟩) m cu) m (Iy S) ∧ RgAt F (wr.drew.setCell ⟨gb, y * 3 + 2, none⟩ (.bool true)) r (.slice (some ⟨gb, 0, none⟩) n cap) (G.fins (S.take (k + 1))) ∧ Only F w (wr.drew.setCell ⟨gb, y * 3 + 2, none⟩ (.bool true))) := Hid.mk ⟨own_same HK.out.2.1 (fun g hg => by cases hg; exact Below.heap_setCell _ _ _ _ (fun e => hgg e.symm)), by
          rw [HTK.out, fins_snoc]
          have := RgAt.done (gb := gb) (cap := cap) (j := y) (by rw [← hnn]; exact hrg) (by omega)
          rw [← hnn] at this
          exact this, (HK.out.2.2.2.drew).setCell (p := ⟨gb, y * 3 + 2, none⟩) (.inl hFb) _⟩
      have HNN := Hid.mk hnn
      clear hcu hla hcc hrg HK HTK hnn hyn hy e1 c0 d3 hfz hgl q1 hcap hgu
      go_wp2
      refine wp_region_held_drew (S := fun W : World => W.cell? ⟨r, 0, none⟩ = some (.slice (some ⟨gb, 0, none⟩) n cap) ∧ W.cell? ⟨gu, k, none⟩ = some (.int .i64 (y : Nat))) (by kernel_rfl) hH (fun hH => ?_)
      change wpAnyH Try.prog Region.Mode.any _ _ _ 11 _ _ _
      refine takeH 0 16 (.pointer (some ⟨r, 0, none⟩)) rfl (by kernel_rfl) (by kernel_rfl) (by kernel_rfl) (by kernel_rfl) (fun _ _ _ h => h) (by kernel_rfl) (fun w hw => by kernel_rfl) hH ?_
      simp only [List.setIfInBounds_toArray, List.set_cons_zero, List.set_cons_succ]
      refine takeH 1 17 (.pointer (some ⟨r, 0, none⟩)) rfl (by kernel_rfl) (by kernel_rfl) (by kernel_rfl) (by kernel_rfl) (fun _ _ _ h => h) (by kernel_rfl) (fun w hw => by go_simp) hH ?_
      simp only [List.setIfInBounds_toArray, List.set_cons_zero, List.set_cons_succ]
      refine takeH 2 18 (.pointer (some ⟨r, 0, none⟩)) rfl (by kernel_rfl) (by kernel_rfl) (by kernel_rfl) (by kernel_rfl) (fun _ _ _ h => h) (by kernel_rfl) (fun w hw => by go_simp) hH ?_
      simp only [List.setIfInBounds_toArray, List.set_cons_zero, List.set_cons_succ]
      refine takeH 3 19 (.slice (some ⟨gb, 0, none⟩) n cap) rfl (by kernel_rfl) (by kernel_rfl) (by kernel_rfl) (by kernel_rfl) (fun _ _ _ h => h) (by kernel_rfl) (fun w hw => by (try dsimp only at hw); obtain ⟨hw1, hw2⟩ := hw; go_simp) hH ?_
      simp only [List.setIfInBounds_toArray, List.set_cons_zero, List.set_cons_succ]
      refine takeH 4 20 (.slice (some ⟨gu, 0, none⟩) m cu) rfl (by kernel_rfl) (by kernel_rfl) (by kernel_rfl) (by kernel_rfl) (fun _ _ _ h => h) (by kernel_rfl) (fun w hw => by kernel_rfl) hH ?_
      simp only [List.setIfInBounds_toArray, List.set_cons_zero, List.set_cons_succ]
      refine takeH 5 21 (.int .i64 k) rfl (by kernel_rfl) (by kernel_rfl) (by kernel_rfl) (by kernel_rfl) (fun _ _ _ h => h) (by kernel_rfl) (fun w hw => by kernel_rfl) hH ?_
      simp only [List.setIfInBounds_toArray, List.set_cons_zero, List.set_cons_succ]
      refine takeH 6 22 (.pointer (some ⟨gu, k, none⟩)) rfl (by kernel_rfl) (by kernel_rfl) (by kernel_rfl) (by kernel_rfl) (fun _ _ _ h => h) (by kernel_rfl) (fun w hw => by go_simp) hH ?_
      simp only [List.setIfInBounds_toArray, List.set_cons_zero, List.set_cons_succ]
      refine takeH 7 23 (.int .i64 (y : Nat)) rfl (by kernel_rfl) (by kernel_rfl) (by kernel_rfl) (by kernel_rfl) (fun _ _ _ h => h) (by kernel_rfl) (fun w hw => by (try dsimp only at hw); obtain ⟨hw1, hw2⟩ := hw; go_simp) hH ?_
      simp only [List.setIfInBounds_toArray, List.set_cons_zero, List.set_cons_succ]
      refine takeH 8 24 (.pointer (some ⟨gb, y * 3, none⟩)) rfl (by kernel_rfl) (by kernel_rfl) (by kernel_rfl) (by kernel_rfl) (fun _ _ _ h => h) (by kernel_rfl) (fun w hw => by go_simp) hH ?_
      simp only [List.setIfInBounds_toArray, List.set_cons_zero, List.set_cons_succ]
      refine takeH 9 25 (.pointer (some ⟨gb, y * 3 + 2, none⟩)) rfl (by kernel_rfl) (by kernel_rfl) (by kernel_rfl) (by kernel_rfl) (fun _ _ _ h => h) (by kernel_rfl) (fun w hw => by go_simp) hH ?_
      simp only [List.setIfInBounds_toArray, List.set_cons_zero, List.set_cons_succ]
      refine stepH_one 10 (by kernel_rfl) ?_
      refine opH_store 10 (wr.drew.setCell ⟨gb, y * 3 + 2, none⟩ (.bool true)) rfl (by kernel_rfl) (by kernel_rfl) (by go_simp) HS1.out ?_
      refine wpAnyH_done (by kernel_rfl) ?_ _
      go_wp2
      go_roundw
      case rel => exact ⟨k + 1, rfl, Hid.mk ⟨HKL.out.1, by rw [← HNN.out]; exact HNX.out⟩⟩
      case measure => (have := HKL.out.1; simp [Go.RowKit.intOf]; omega)
    · have HE : Hid (wr.ownsRow w.heap.size 3 1 (.slice au m cu) m (Iy S) ∧ RgAt F wr r v (G.fins S) ∧ Only F w wr) := Hid.mk (by
        have := HK.out
        rw [List.take_of_length_le (by have := HM.out; omega)] at this
        exact this.2)
      clear HK
      go_wp2
      go_ret
      exact ⟨_, rfl, HE⟩
end
end Go.Proofs.Ythmbhcmicebcpaa
