/-
  The list's own calls: remove, link, toEnd, add.
-/
import Derived.Test.YtmbhjheoomlggaaCaList
namespace Go.Proofs.Ytmbhjheoomlggaa
open Go Go.Proofs Go.RowKit Go.Shelf

theorem dr_heap (w : World) : w.drew.heap = w.heap := rfl
theorem set_other (w : World) (b i : Nat) (u : Value) {k : Nat} (h : k ≠ b) : (w.setCell ⟨b, i, none⟩ u).heap[k]? = w.heap[k]? := Below.heap_setCell _ _ _ _ h
theorem set_size (w : World) (p : Addr) (u : Value) : (w.setCell p u).heap.size = w.heap.size := by simp [World.setCell]
theorem set_mid {V : World} {p h : Nat} {u v e : Value} (hb : V.heap[p]? = some (.cells #[ptV h, u, v] 67 (0, 0))) : (V.setCell ⟨p, 1, none⟩ e).heap[p]? = some (.cells #[ptV h, e, v] 67 (0, 0)) := by simpa using blk_set (i := 1) (u := e) hb
theorem set_end {V : World} {p h : Nat} {u v e : Value} (hb : V.heap[p]? = some (.cells #[ptV h, u, v] 67 (0, 0))) : (V.setCell ⟨p, 2, none⟩ e).heap[p]? = some (.cells #[ptV h, u, e] 67 (0, 0)) := by simpa using blk_set (i := 2) (u := e) hb
theorem set_c3 {V : World} {c : Nat} {v0 v1 v2 u v4 v5 v6 e : Value} (hb : V.heap[c]? = some (.cells #[v0, v1, v2, u, v4, v5, v6] 61 (0, 0))) : (V.setCell ⟨c, 3, none⟩ e).heap[c]? = some (.cells #[v0, v1, v2, e, v4, v5, v6] 61 (0, 0)) := by simpa using blk_set (i := 3) (u := e) hb
theorem set_c4 {V : World} {c : Nat} {v0 v1 v2 v3 u v5 v6 e : Value} (hb : V.heap[c]? = some (.cells #[v0, v1, v2, v3, u, v5, v6] 61 (0, 0))) : (V.setCell ⟨c, 4, none⟩ e).heap[c]? = some (.cells #[v0, v1, v2, v3, e, v5, v6] 61 (0, 0)) := by simpa using blk_set (i := 4) (u := e) hb
theorem pl_c1 {w : World} {p h : Nat} {u v : Value} (hb : w.heap[p]? = some (.cells #[ptV h, u, v] 67 (0, 0))) : w.cell? ⟨p, 0, none⟩ = some (ptV h) ∧ w.cell? ⟨p, 1, none⟩ = some u ∧ w.cell? ⟨p, 2, none⟩ = some v ∧ w.frozen? ⟨p, 1, none⟩ = false ∧ w.frozen? ⟨p, 2, none⟩ = false :=
  ⟨by rw [blk_cell hb]; rfl, by rw [blk_cell hb]; rfl, by rw [blk_cell hb]; rfl, blk_free hb 1, blk_free hb 2⟩
theorem ca_c {w : World} {c : Nat} {v0 v1 v2 v3 v4 v5 v6 : Value} (hb : w.heap[c]? = some (.cells #[v0, v1, v2, v3, v4, v5, v6] 61 (0, 0))) : w.cell? ⟨c, 3, none⟩ = some v3 ∧ w.cell? ⟨c, 4, none⟩ = some v4 ∧ w.frozen? ⟨c, 3, none⟩ = false ∧ w.frozen? ⟨c, 4, none⟩ = false :=
  ⟨by rw [blk_cell hb]; rfl, by rw [blk_cell hb]; rfl, blk_free hb 3, blk_free hb 4⟩
theorem two_nil {V : World} {p h : Nat} {u v : Value} (hb : V.heap[p]? = some (.cells #[ptV h, u, v] 67 (0, 0))) : ((V.setCell ⟨p, 1, none⟩ (.pointer none)).setCell ⟨p, 2, none⟩ (.pointer none)).heap[p]? = some (.cells #[ptV h, niV, niV] 67 (0, 0)) := by
  simpa using blk_set (i := 2) (u := niV) (blk_set (i := 1) (u := niV) hb)
theorem nxtV_nil (e : Value) : nxtV [] e = e := rfl
theorem nxtV_cons (x : Pl) (r : List Pl) (e : Value) : nxtV (x :: r) e = ptV x.p := rfl
theorem lstV_nil (a : Value) : lstV a [] = a := rfl
theorem lstV_cons (a : Value) (x : Pl) (r : List Pl) : lstV a (x :: r) = lstV (ptV x.p) r := rfl
theorem nxtV_app {A B : List Pl} {a : Pl} (e : Value) : nxtV (A ++ [a] ++ B) e = nxtV (A ++ [a]) niV := by cases A <;> rfl
section
variable {w : World} {c : Nat} {v0 v1 v2 v5 v6 : Value}
/-- What is asked of remove. -/
def RemP (w : World) (c : Nat) (v0 v1 v2 v5 v6 : Value) (A B : List Pl) (x : Pl) (e : Ending) (w' : World) : Prop :=
  e = .returned (.tuple #[]) ∧ LsAt w' c v0 v1 v2 v5 v6 (A ++ B) ∧ w'.heap[x.p]? = some (.cells #[ptV x.h, niV, niV] 67 (0, 0)) ∧ Only (Tn c (A ++ x :: B)) w w'
theorem RemP.of {w w' : World} {A B : List Pl} {x : Pl} (hx : w'.heap[x.p]? = some (.cells #[ptV x.h, niV, niV] 67 (0, 0))) (h : LsAt w' c v0 v1 v2 v5 v6 (A ++ B) ∧ Only (Tn c (A ++ x :: B)) w w') : RemP w c v0 v1 v2 v5 v6 A B x (.returned (.tuple #[])) w' := ⟨rfl, h.1, hx, h.2⟩
set_option maxRecDepth 100000 in
set_option maxHeartbeats 4000000 in
theorem remove_any (A B : List Pl) (x : Pl) (h : LsAt w c v0 v1 v2 v5 v6 (A ++ x :: B)) :
    Calls Try.prog 41 #[.pointer (some ⟨c, 3, none⟩), ptV x.p] w (RemP w c v0 v1 v2 v5 v6 A B x) := by
  obtain ⟨n1, n2, n3⟩ := nd_split h.nd
  obtain ⟨s1, s2, s3⟩ := h.seg.at
  obtain ⟨k0, k1, k2, k3, k4⟩ := pl_c1 s2
  obtain ⟨c3, c4, f3, f4⟩ := ca_c h.blk
  have hxc : x.p ≠ c := h.ne (by simp)
  have hcx : c ≠ x.p := fun e => hxc e.symm
  have HH := Hid.mk h
  rcases snoc_cases A with rfl | ⟨A', a, rfl⟩
  · cases B with
    | nil =>
      have HS2 := Hid.mk s2
      clear h n1 n2 n3 s1 s2 s3
      simp only [nxtV_nil, nxtV_cons, lstV_nil, lstV_cons, List.nil_append] at *
      go_enter Try.func41, Try.ntmps41
      go_wp2
      go_end0
      refine RemP.of ?_ (rem_fin HH.out ?_ (fun A' a e => ?_) (fun b B' e => ?_) (fun k h1 h2 _ _ => ?_) (by simp) rfl rfl rfl)
      · refine two_nil (u := niV) (v := niV) ?_
        rw [set_other _ _ _ _ hxc, set_other _ _ _ _ hxc]; exact HS2.out
      · rw [set_other _ _ _ _ hcx, set_other _ _ _ _ hcx]; exact blk_set (blk_set HH.out.blk)
      · simp at e
      · cases e
      · rw [set_other _ _ _ _ h2, set_other _ _ _ _ h2, set_other _ _ _ _ h1, set_other _ _ _ _ h1]
    | cons b B' =>
      obtain ⟨j0, j1, j2, j3, j4⟩ := pl_c1 s3.1
      have hbx : b.p ≠ x.p := n2 b (by simp)
      have hxb : x.p ≠ b.p := fun e => hbx e.symm
      have hbc : b.p ≠ c := h.ne (x := b) (by simp)
      have hcb : c ≠ b.p := fun e => hbc e.symm
      have HS2 := Hid.mk s2
      have HS3 := Hid.mk s3.1
      clear h n1 n2 n3 s1 s2 s3
      simp only [nxtV_cons, lstV_nil, lstV_cons, List.nil_append] at *
      go_enter Try.func41, Try.ntmps41
      go_wp2
      go_region
      go_wp2
      go_end0
      refine RemP.of ?_ (rem_fin HH.out ?_ (fun A' a e => ?_) (fun b2 B2 e => ?_) (fun k h1 h2 _ h4 => ?_) (by simp) rfl rfl rfl)
      · refine two_nil (u := niV) (v := ptV b.p) ?_
        rw [set_other _ _ _ _ hxb, set_other _ _ _ _ hxc]; exact HS2.out
      · rw [dr_heap, set_other _ _ _ _ hcx, set_other _ _ _ _ hcx, set_other _ _ _ _ hcb]; exact blk_set HH.out.blk
      · simp at e
      · cases e
        rw [dr_heap, set_other _ _ _ _ hbx, set_other _ _ _ _ hbx]
        refine set_mid (u := ptV x.p) ?_
        rw [set_other _ _ _ _ hbc]; exact HS3.out
      · rw [dr_heap, set_other _ _ _ _ h2, set_other _ _ _ _ h2, set_other _ _ _ _ (h4 b B' rfl), set_other _ _ _ _ h1]
  · have sa := (Seg.at (B := []) s1).2.1
    obtain ⟨i0, i1, i2, i3, i4⟩ := pl_c1 sa
    have hax : a.p ≠ x.p := n2 a (by simp)
    have hxa : x.p ≠ a.p := fun e => hax e.symm
    have hac : a.p ≠ c := h.ne (x := a) (by simp)
    have hca : c ≠ a.p := fun e => hac e.symm
    have HSA := Hid.mk sa
    cases B with
    | nil =>
      have HS2 := Hid.mk s2
      clear h n1 n2 n3 s1 s2 s3 sa
      simp only [nxtV_nil, lstV_snoc] at *
      go_enter Try.func41, Try.ntmps41
      go_wp2
      go_region
      go_wp2
      go_end0
      refine RemP.of ?_ (rem_fin HH.out ?_ (fun A2 a2 e => ?_) (fun b2 B2 e => ?_) (fun k h1 h2 h3 _ => ?_) (by simp) rfl rfl rfl)
      · refine two_nil (u := ptV a.p) (v := niV) ?_
        rw [set_other _ _ _ _ hxc, set_other _ _ _ _ hxa]; exact HS2.out
      · simp only [dr_heap]
        rw [set_other _ _ _ _ hcx, set_other _ _ _ _ hcx]
        rw [lstV_append, lstV_nil, lstV_snoc]
        refine set_c4 (u := ptV x.p) ?_
        rw [set_other _ _ _ _ hca, HH.out.blk, nxtV_app, nxtV_app, lstV_append]
        rfl
      · obtain ⟨rfl, e2⟩ := List.append_inj' e rfl
        cases e2
        simp only [dr_heap]
        rw [set_other _ _ _ _ hax, set_other _ _ _ _ hax, set_other _ _ _ _ hac]
        exact blk_set HSA.out
      · cases e
      · simp only [dr_heap]
        rw [set_other _ _ _ _ h2, set_other _ _ _ _ h2, set_other _ _ _ _ h1, set_other _ _ _ _ (h3 A' a rfl)]
    | cons b B' =>
      obtain ⟨j0, j1, j2, j3, j4⟩ := pl_c1 s3.1
      have hbx : b.p ≠ x.p := n2 b (by simp)
      have hxb : x.p ≠ b.p := fun e => hbx e.symm
      have hbc : b.p ≠ c := h.ne (x := b) (by simp)
      have hcb : c ≠ b.p := fun e => hbc e.symm
      have hab : a.p ≠ b.p := n3 a (by simp) b (by simp)
      have hba : b.p ≠ a.p := fun e => hab e.symm
      have HS2 := Hid.mk s2
      have HS3 := Hid.mk s3.1
      clear h n1 n2 n3 s1 s2 s3 sa
      simp only [nxtV_cons, lstV_snoc] at *
      go_enter Try.func41, Try.ntmps41
      go_wp2
      go_region
      go_wp2
      go_region
      go_wp2
      go_end0
      refine RemP.of ?_ (rem_fin HH.out ?_ (fun A2 a2 e => ?_) (fun b2 B2 e => ?_) (fun k h1 h2 h3 h4 => ?_) (by simp) rfl rfl rfl)
      · refine two_nil (u := ptV a.p) (v := ptV b.p) ?_
        rw [set_other _ _ _ _ hxb, set_other _ _ _ _ hxa]; exact HS2.out
      · simp only [dr_heap]
        rw [set_other _ _ _ _ hcx, set_other _ _ _ _ hcx, set_other _ _ _ _ hcb]
        rw [set_other _ _ _ _ hca, HH.out.blk, nxtV_app, nxtV_app (B := b :: B')]
        simp only [lstV_append, lstV_cons]
      · obtain ⟨rfl, e2⟩ := List.append_inj' e rfl
        cases e2
        simp only [dr_heap]
        rw [set_other _ _ _ _ hax, set_other _ _ _ _ hax, set_other _ _ _ _ hab]
        exact blk_set HSA.out
      · cases e
        simp only [dr_heap]
        rw [set_other _ _ _ _ hbx, set_other _ _ _ _ hbx, lstV_snoc]
        refine set_mid (u := ptV x.p) ?_
        rw [set_other _ _ _ _ hba]; exact HS3.out
      · simp only [dr_heap]
        rw [set_other _ _ _ _ h2, set_other _ _ _ _ h2, set_other _ _ _ _ (h4 b B' rfl)]
        rw [set_other _ _ _ _ (h3 A' a rfl)]
end
end Go.Proofs.Ytmbhjheoomlggaa
