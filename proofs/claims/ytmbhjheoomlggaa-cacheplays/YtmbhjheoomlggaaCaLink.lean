/-
  The list's own calls: link, toEnd, add, all.
-/
import Derived.Test.YtmbhjheoomlggaaCaRem
namespace Go.Proofs.Ytmbhjheoomlggaa
open Go Go.Proofs Go.RowKit Go.Shelf
section
variable {w : World} {c : Nat} {v0 v1 v2 v5 v6 : Value}
/-- What is asked of link. -/
def LinkP (w : World) (c : Nat) (v0 v1 v2 v5 v6 : Value) (L : List Pl) (x : Pl) (e : Ending) (w' : World) : Prop :=
  e = .returned (.tuple #[]) ∧ LsAt w' c v0 v1 v2 v5 v6 (L ++ [x]) ∧ Only (Tn c (L ++ [x])) w w'
theorem link_fin {w w' : World} {L : List Pl} {x : Pl} (h : LsAt w c v0 v1 v2 v5 v6 L) (hn : ∀ y ∈ L, y.p ≠ x.p)
    (hc : w'.heap[c]? = some (.cells #[v0, v1, v2, nxtV (L ++ [x]) niV, ptV x.p, v5, v6] 61 (0, 0)))
    (hx : w'.heap[x.p]? = some (.cells #[ptV x.h, lstV niV L, niV] 67 (0, 0)))
    (hA : ∀ A' a, L = A' ++ [a] → w'.heap[a.p]? = some (.cells #[ptV a.h, lstV niV A', ptV x.p] 67 (0, 0)))
    (ho : ∀ k, k ≠ c → k ≠ x.p → (∀ A' a, L = A' ++ [a] → k ≠ a.p) → w'.heap[k]? = w.heap[k]?)
    (hs : w.heap.size ≤ w'.heap.size) (e1 : w'.os = w.os) (e2 : w'.tape = w.tape) (e3 : w'.output = w.output) :
    LinkP w c v0 v1 v2 v5 v6 L x (.returned (.tuple #[])) w' := by
  have n1 := h.nd
  refine ⟨rfl, ⟨by rw [lstV_snoc]; exact hc, Seg.app.2 ⟨?_, hx, trivial⟩, ?_⟩, e1, e2, e3, hs, fun k _ hk => ?_⟩
  · rcases snoc_cases L with rfl | ⟨A', a, rfl⟩
    · trivial
    · refine h.seg.relast (hA A' a rfl) (fun y hy => ?_)
      refine ho y.p (h.ne (x := y) (by simp [hy])) (hn y (by simp [hy])) (fun A2 a2 e => ?_)
      obtain ⟨rfl, e2⟩ := List.append_inj' e rfl
      cases e2
      simp only [List.map_append, List.nodup_append] at n1
      exact n1.2.2 y.p (List.mem_map.2 ⟨y, hy, rfl⟩) a.p (by simp)
  · rw [List.map_append, List.nodup_append]
    refine ⟨n1, by simp, fun a ha b hb => ?_⟩
    obtain ⟨y, hy, rfl⟩ := List.mem_map.1 ha
    simp at hb
    rw [hb]
    exact hn y hy
  · exact ho k (fun e => hk (.inl e)) (fun e => hk (.inr ⟨x, by simp, e⟩)) (fun A' a e e' => hk (.inr ⟨a, by simp [e], e'⟩))
set_option maxRecDepth 100000 in
set_option maxHeartbeats 4000000 in
theorem link_any (L : List Pl) (x : Pl) (u : Value) (h : LsAt w c v0 v1 v2 v5 v6 L) (hx : w.heap[x.p]? = some (.cells #[ptV x.h, u, niV] 67 (0, 0))) (hn : ∀ y ∈ L, y.p ≠ x.p) (hu : u = niV) :
    Calls Try.prog 42 #[.pointer (some ⟨c, 3, none⟩), ptV x.p] w (LinkP w c v0 v1 v2 v5 v6 L x) := by
  obtain ⟨k0, k1, k2, k3, k4⟩ := pl_c1 hx
  obtain ⟨c3, c4, f3, f4⟩ := ca_c h.blk
  have hxc : x.p ≠ c := fun e => by
    rw [e, h.blk] at hx
    simp at hx
  have hcx : c ≠ x.p := fun e => hxc e.symm
  have HH := Hid.mk h
  have HX := Hid.mk hx
  have HN := Hid.mk hn
  subst hu
  rcases snoc_cases L with rfl | ⟨A', a, rfl⟩
  · clear h hx hn
    simp only [nxtV_nil, lstV_nil] at *
    go_enter Try.func42, Try.ntmps42
    go_wp2
    go_end0
    refine link_fin HH.out HN.out ?_ ?_ (fun A' a e => ?_) (fun k h1 h2 _ => ?_) (by simp) rfl rfl rfl
    · refine set_c4 (u := niV) (set_c3 (u := niV) ?_)
      rw [set_other _ _ _ _ hcx]; exact HH.out.blk
    · rw [set_other _ _ _ _ hxc, set_other _ _ _ _ hxc]; exact set_mid HX.out
    · simp at e
    · rw [set_other _ _ _ _ h1, set_other _ _ _ _ h1, set_other _ _ _ _ h2]
  · have sa := (Seg.at (B := []) h.seg).2.1
    obtain ⟨i0, i1, i2, i3, i4⟩ := pl_c1 sa
    have hax : a.p ≠ x.p := hn a (by simp)
    have hxa : x.p ≠ a.p := fun e => hax e.symm
    have hac : a.p ≠ c := h.ne (x := a) (by simp)
    have hca : c ≠ a.p := fun e => hac e.symm
    have HSA := Hid.mk sa
    clear h hx hn sa
    simp only [nxtV_nil, lstV_snoc] at *
    go_enter Try.func42, Try.ntmps42
    go_wp2
    go_end0
    refine link_fin HH.out HN.out ?_ ?_ (fun A2 a2 e => ?_) (fun k h1 h2 h3 => ?_) (by simp) rfl rfl rfl
    · have hb : ((w.setCell ⟨x.p, 1, none⟩ (ptV a.p)).setCell ⟨a.p, 2, none⟩ (ptV x.p)).heap[c]? = some (.cells #[v0, v1, v2, nxtV (A' ++ [a] ++ [x]) niV, ptV a.p, v5, v6] 61 (0, 0)) := by
        rw [set_other _ _ _ _ hca, set_other _ _ _ _ hcx, HH.out.blk, lstV_snoc, nxtV_app (B := [x])]
      exact set_c4 hb
    · rw [set_other _ _ _ _ hxc, set_other _ _ _ _ hxa, lstV_snoc]; exact set_mid HX.out
    · obtain ⟨rfl, e2⟩ := List.append_inj' e rfl
      cases e2
      rw [set_other _ _ _ _ hac]
      refine set_end (v := niV) ?_
      rw [set_other _ _ _ _ hax]; exact HSA.out
    · rw [set_other _ _ _ _ h1, set_other _ _ _ _ (h3 A' a rfl), set_other _ _ _ _ h2]
/-- What is asked of toEnd. -/
def EndP (w : World) (c : Nat) (v0 v1 v2 v5 v6 : Value) (A B : List Pl) (x : Pl) (e : Ending) (w' : World) : Prop :=
  e = .returned (.tuple #[]) ∧ LsAt w' c v0 v1 v2 v5 v6 (A ++ B ++ [x]) ∧ Only (Tn c (A ++ x :: B)) w w'
set_option maxRecDepth 100000 in
set_option maxHeartbeats 4000000 in
theorem toend_any (A B : List Pl) (x : Pl) (h : LsAt w c v0 v1 v2 v5 v6 (A ++ x :: B)) :
    Calls Try.prog 29 #[.pointer (some ⟨c, 3, none⟩), ptV x.p] w (EndP w c v0 v1 v2 v5 v6 A B x) := by
  have HR := Hid.mk (remove_any A B x h)
  have HN := Hid.mk (nd_split h.nd).2.1
  clear h
  go_enter Try.func29, Try.ntmps29
  go_wp2_with (first
    | (go_at_call 41; refine HR.out.mono ?_; rintro e w1 ⟨rfl, hl1, hx1, ho1⟩; have HL := Hid.mk (link_any (A ++ B) x niV hl1 hx1 HN.out rfl); have HO1 := Hid.mk ho1; clear hl1 hx1 ho1)
    | (go_at_call 42; refine HL.out.mono ?_; rintro e w2 ⟨rfl, hl2, ho2⟩; have HL2 := Hid.mk hl2; have HO2 := Hid.mk ho2; clear hl2 ho2))
  go_end0
  refine ⟨rfl, HL2.out, HO1.out.trans HO2.out (fun k hk => .inl ?_)⟩
  rcases hk with rfl | ⟨y, hy, rfl⟩
  · exact .inl rfl
  · refine .inr ⟨y, ?_, rfl⟩
    simp at hy ⊢
    rcases hy with h | h | h
    · exact .inl h
    · exact .inr (.inr h)
    · exact .inr (.inl h)
end
end Go.Proofs.Ytmbhjheoomlggaa
