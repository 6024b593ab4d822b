/-
  find, within: where parts lead.
-/
import Derived.Test.YtehaoeclnmelhacGreatLayWa
import Derived.LaidEqlPtr
namespace Go.Proofs.YtehaoeclnmelhacGreat
open Go Go.Proofs Go.RowKit Go.Shelf
attribute [local go_sem] Oper.semAt_some

def lastW (f : Nat → Option Nat × Int) (pre : List Nat) : Option Nat × Int := (pre.getLast?.map f).getD (none, 0)
theorem lastW_snoc (f : Nat → Option Nat × Int) (pre : List Nat) (x : Nat) : lastW f (pre ++ [x]) = f x := by simp [lastW]
structure FI (w : World) (loc : Nat → Nat) (f : Nat → Option Nat × Int) (pre : List Nat) (W : World) : Prop where
  r0 : W.heap[w.heap.size]? = some (.cells #[optV loc (lastW f pre).1] 49 (0, 0))
  r1 : W.heap[w.heap.size + 1]? = some (.cells #[.int .i64 (lastW f pre).2] 27 (0, 0))
  below : Below w.heap.size w W
  size : w.heap.size + 4 ≤ W.heap.size
theorem FI_own (w : World) (loc : Nat → Nat) (f : Nat → Option Nat × Int) : OwnFrom (w.heap.size + 4) (FI w loc f) := by
  intro pre W W' row h hg hr
  exact ⟨keep_cells h.r0 hg (fun r e => (hr r e).2), keep_cells h.r1 hg (fun r e => (hr r e).2), h.below.grown hg h.below.size (fun k e => by have := (hr k e).1; omega), Nat.le_trans h.size hg.size⟩
theorem last_way (N : List Nd) (L : List (List UInt8)) : lastW (wayG N L) (List.range' 0 (wayL N 0 L).length) = wayE N 0 L := by
  have hl := wayL_last N 0 L
  have hp := wayL_pos N 0 L
  obtain ⟨n, hn⟩ : ∃ n, (wayL N 0 L).length = n + 1 := ⟨_, (Nat.succ_pred_eq_of_pos hp).symm⟩
  rw [hn, ← range'_snoc, lastW_snoc, Nat.zero_add]
  rw [List.getLast?_eq_getElem?, hn, Nat.add_sub_cancel] at hl
  unfold wayG
  rw [List.getD, hl]
  rfl
set_option maxRecDepth 100000 in
set_option maxHeartbeats 4000000 in
theorem find_any (w : World) (t : Nat) (σ : Tr) (Ls : List Lay) (hT : TrAt w t σ Ls) (ao : Option Addr) (c : Nat) (L : List (List UInt8)) (hS : SAt w ao L.length L) (hL : ∀ p ∈ L, p.length ≤ 1000) (hll : L.length ≤ 16777216) :
    Calls Tryz.prog 36 #[ptrV t, .slice ao L.length c] w fun e w' => e = .returned (.tuple #[optV (locL Ls) (wayE σ.nodes 0 L).1, .int .i64 (wayE σ.nodes 0 L).2]) ∧ Below w.heap.size w w' := by
  have mixed : Tryz.prog.follows Departure.mixedOrders = true := by kernel_rfl
  refine (callsIn_wide (n := 5)).1 ?_
  refine callsIn_of_wp_marks Tryz.func36 rfl trivial ?_ rfl
  simp only [Tryz.ntmps36, List.size_toArray, List.length_cons, List.length_nil, Nat.reduceAdd, Nat.reduceSub, Array.replicate_succ, Array.replicate_zero, List.push_toArray, List.append_toArray, List.nil_append, List.cons_append]
  generalize hlen : L.length = m at *
  have HWA := Hid.mk (fun W => way_any W t ao m c)
  have HSQ : Hid (∀ (W0 : World) (B : Nat), Below w.heap.size w W0 → W0.heap[B]? = some (.cells #[ptrV t] 23 (0, 0)) → W0.heap[B + 1]? = some (.cells #[.slice ao m c] 29 (0, 0)) → _) := Hid.mk (fun W0 B (hB : Below w.heap.size w W0) h1 h2 => way_stops 4 (by omega) B t σ Ls ao c L hL (by omega) w W0 hB h1 (by rw [hlen]; exact h2) hT (by rw [hlen]; exact hS))
  clear hS hL hll hT
  unfold ptrV at HWA
  unfold ptrV
  gi_wp2_with (refine ⟨trivial, ?_⟩; gi_at_call 55; refine (callsIn_wide.2 (HWA.out _)).mono ?_; rintro e w' ⟨rfl, hw⟩; subst w')
  have q0 := blk_new w (.cells #[.pointer none] 49)
  have q1 := blk_new (w.alloc (.cells #[.pointer none] 49)) (.cells #[.int .i64 0] 27)
  have q2 := blk_new ((w.alloc (.cells #[.pointer none] 49)).alloc (.cells #[.int .i64 0] 27)) (.cells #[.pointer (some ⟨t, 0, none⟩)] 23)
  have q3 := blk_new (((w.alloc (.cells #[.pointer none] 49)).alloc (.cells #[.int .i64 0] 27)).alloc (.cells #[.pointer (some ⟨t, 0, none⟩)] 23)) (.cells #[.slice ao m c] 29)
  simp only [World.size_alloc] at q1 q2 q3
  obtain ⟨W0, hW0⟩ : ∃ W0, W0 = (((w.alloc (.cells #[.pointer none] 49)).alloc (.cells #[.int .i64 0] 27)).alloc (.cells #[.pointer (some ⟨t, 0, none⟩)] 23)).alloc (.cells #[.slice ao m c] 29) := ⟨_, rfl⟩
  have z0 : W0.heap[w.heap.size]? = some (.cells #[.pointer none] 49 (0, 0)) := by
    rw [hW0, Below.heap_alloc _ _ _ (by simp; omega), Below.heap_alloc _ _ _ (by simp; omega), Below.heap_alloc _ _ _ (by simp)]; exact q0
  have z1 : W0.heap[w.heap.size + 1]? = some (.cells #[.int .i64 0] 27 (0, 0)) := by
    rw [hW0, Below.heap_alloc _ _ _ (by simp [World.size_alloc] <;> omega), Below.heap_alloc _ _ _ (by simp)]; exact q1
  have z2 : W0.heap[w.heap.size + 1 + 1]? = some (.cells #[.pointer (some ⟨t, 0, none⟩)] 23 (0, 0)) := by
    rw [hW0, Below.heap_alloc _ _ _ (by simp)]; exact q2
  have z3 : W0.heap[w.heap.size + 1 + 1 + 1]? = some (.cells #[.slice ao m c] 29 (0, 0)) := by rw [hW0]; exact q3
  have zs : W0.heap.size = w.heap.size + 4 := by rw [hW0]; simp
  have zb : Below w.heap.size w W0 := by
    rw [hW0]
    exact ((((Below.refl _ w).alloc (Nat.le_refl _) _).alloc (by simp) _).alloc (by simp; omega) _).alloc (by simp; omega) _
  rw [← hW0]
  clear q0 q1 q2 q3 hW0
  have hseq := HSQ.out W0 (w.heap.size + 1 + 1) zb z2 z3
  refine range_assigned rfl (by omega) (gf := 69) (lb := #[.pointer (some ⟨w.heap.size + 1 + 1, 0, none⟩), .pointer (some ⟨w.heap.size + 1 + 1 + 1, 0, none⟩)]) rfl trivial (enters_of Tryz.func69 (by kernel_rfl) rfl)
    hseq belowK_t (belowK_b zb.size) (Below.refl _ _) (fun _ => rfl) (FI w (locL Ls) (wayG σ.nodes L)) (by rw [zs]; exact FI_own w (locL Ls) _) ⟨z0, z1, zb, by omega⟩ ?round ?skip ?done
  case round =>
    intro l pre x W K hI hlen hK
    have c0 := blk_cell hI.r0 0
    have f0 := blk_free hI.r0 0
    have c1 := blk_cell hI.r1 0
    have f1 := blk_free hI.r1 0
    simp at c0 c1
    have HI := Hid.mk hI
    have HK := Hid.mk hK
    have hne : ¬ w.heap.size = w.heap.size + 1 := by omega
    clear hI hK hlen hseq z0 z1 z2 z3 HSQ HWA
    have fin : ∀ v, v = optV (locL Ls) (wayG σ.nodes L x).1 → KeepsFrom W0.heap.size W ((W.setCell ⟨w.heap.size, 0, none⟩ v).setCell ⟨w.heap.size + 1, 0, none⟩ (.int .i64 (wayG σ.nodes L x).2)) ∧ Below w.heap.size W ((W.setCell ⟨w.heap.size, 0, none⟩ v).setCell ⟨w.heap.size + 1, 0, none⟩ (.int .i64 (wayG σ.nodes L x).2)) ∧ FI w (locL Ls) (wayG σ.nodes L) (pre ++ [x]) ((W.setCell ⟨w.heap.size, 0, none⟩ v).setCell ⟨w.heap.size + 1, 0, none⟩ (.int .i64 (wayG σ.nodes L x).2)) := by
      intro v hv
      have hI := HI.out
      refine ⟨((KeepsOthers.setCell _ _ _).trans (KeepsOthers.setCell _ _ _)).from _, ((Below.refl _ W).setCell (p := ⟨w.heap.size, 0, none⟩) (Nat.le_refl _) _).setCell (p := ⟨w.heap.size + 1, 0, none⟩) (Nat.le_succ _) _, ?_, ?_, (hI.below.setCell (p := ⟨w.heap.size, 0, none⟩) (Nat.le_refl _) _).setCell (p := ⟨w.heap.size + 1, 0, none⟩) (Nat.le_succ _) _, by simpa [World.setCell] using hI.size⟩
      · rw [Below.heap_setCell _ _ _ _ (by simp), blk_set hI.r0, lastW_snoc, hv]
        simp
      · rw [blk_set (c := #[.int .i64 (lastW (wayG σ.nodes L) pre).2]) (by rw [Below.heap_setCell _ _ _ _ (by simp)]; exact hI.r1), lastW_snoc]
        simp
    have FIN := Hid.mk fin
    clear fin
    generalize wayG σ.nodes L x = y at *
    obtain ⟨xo, xe⟩ := y
    dsimp only [wayV]
    cases xo with
    | none =>
      unfold optV
      gi_wp2
      obtain ⟨g1, g2, g3⟩ := FIN.out _ rfl
      exact HK.out _ _ g1 g2 g3
    | some q =>
      unfold optV ptrV
      gi_wp2
      obtain ⟨g1, g2, g3⟩ := FIN.out _ rfl
      exact HK.out _ _ g1 g2 g3
  case skip =>
    intro F' m' R b W h
    gi_wp2
    exact h
  case done =>
    rintro D xs W hD rfl hI hK
    have hDw : w.heap.size ≤ D := by omega
    have e1 := last_way σ.nodes L
    have r0 := hI.r0
    have r1 := hI.r1
    rw [e1] at r0 r1
    have m0 := blk_cell r0 0
    have m1 := blk_cell r1 0
    simp at m0 m1
    have HB := Hid.mk hI.below
    clear hI hseq z0 z1 z2 z3 HSQ HWA e1 zb r0 r1
    gi_wp2
    gi_region
    gi_wp2
    have hK' : W.drew.heap[D]? = some (.deferred (some [])) := hK
    refine ⟨by simp, .inl ⟨_, _, rfl, run_takeDeferred hK', ?_⟩⟩
    refine ⟨.tuple #[optV (locL Ls) (wayE σ.nodes 0 L).1, .int .i64 (wayE σ.nodes 0 L).2], ?_, rfl, ?_⟩
    · simp [results, Tryz.f36, go_sem]
    · exact HB.out.drew.trans (belowK_b (w := w) (Nat.le_refl _) W.drew D _ _ hDw hK' rfl rfl)
/-- Is a node among those on the way? -/
def onWay (N : List Nd) (L : List (List UInt8)) (j : Nat) : Bool := (wayL N 0 L).any (fun x => x.1 = some j)
structure NI (w : World) (loc : Nat → Nat) (f : Nat → Option Nat × Int) (r : Nat) (pre : List Nat) (W : World) : Prop where
  no : ∀ x ∈ pre, optV loc (f x).1 ≠ ptrV r
  r0 : W.heap[w.heap.size]? = some (.cells #[ptrV r] 49 (0, 0))
  r1 : W.heap[w.heap.size + 1]? = some (.cells #[.bool false] 4 (0, 0))
  below : Below w.heap.size w W
  size : w.heap.size + 4 ≤ W.heap.size
structure NX (w : World) (loc : Nat → Nat) (f : Nat → Option Nat × Int) (r : Nat) (c : Code) (pre : List Nat) (W : World) : Prop where
  ret : c = .ret
  yes : ∃ x ∈ pre, optV loc (f x).1 = ptrV r
  r1 : W.heap[w.heap.size + 1]? = some (.cells #[.bool true] 4 (0, 0))
  below : Below w.heap.size w W
  size : w.heap.size + 4 ≤ W.heap.size
theorem NI_own (w : World) (loc : Nat → Nat) (f : Nat → Option Nat × Int) (r : Nat) : OwnFrom (w.heap.size + 4) (NI w loc f r) := by
  intro pre W W' row h hg hr
  exact ⟨h.no, keep_cells h.r0 hg (fun r e => (hr r e).2), keep_cells h.r1 hg (fun r e => (hr r e).2), h.below.grown hg h.below.size (fun k e => by have := (hr k e).1; omega), Nat.le_trans h.size hg.size⟩
theorem NX_own (w : World) (loc : Nat → Nat) (f : Nat → Option Nat × Int) (r : Nat) (c : Code) : OwnFrom (w.heap.size + 4) (NX w loc f r c) := by
  intro pre W W' row h hg hr
  exact ⟨h.ret, h.yes, keep_cells h.r1 hg (fun r e => (hr r e).2), h.below.grown hg h.below.size (fun k e => by have := (hr k e).1; omega), Nat.le_trans h.size hg.size⟩
theorem foot_apart {Ls : List Lay} (h : (Ls.flatMap Lay.foot).Nodup) {i j : Nat} {A B : Lay} (hi : Ls[i]? = some A) (hj : Ls[j]? = some B) {k : Nat} (h1 : k ∈ A.foot) (h2 : k ∈ B.foot) : i = j := by
  induction Ls generalizing i j with
  | nil => simp at hi
  | cons L Ls ih =>
    rw [List.flatMap_cons, List.nodup_append] at h
    obtain ⟨_, ha, hd⟩ := h
    cases i with
    | zero =>
      cases j with
      | zero => rfl
      | succ j =>
        simp at hi hj
        subst hi
        exact absurd rfl (hd k h1 k (List.mem_flatMap.2 ⟨B, List.mem_of_getElem? hj, h2⟩))
    | succ i =>
      cases j with
      | zero =>
        simp at hi hj
        subst hj
        exact absurd rfl (hd k h2 k (List.mem_flatMap.2 ⟨A, List.mem_of_getElem? hi, h1⟩))
      | succ j =>
        simp at hi hj
        rw [ih ha hi hj]
theorem TrAt.inj {W : World} {t : Nat} {σ : Tr} {Ls : List Lay} (h : TrAt W t σ Ls) {i j : Nat} (hi : i < σ.nodes.length) (hj : j < σ.nodes.length) (e : locL Ls i = locL Ls j) : i = j := by
  obtain ⟨A, _, a1, _, _, a2⟩ := h.get hi
  obtain ⟨B, _, b1, _, _, b2⟩ := h.get hj
  refine foot_apart (List.nodup_cons.1 h.apart).2 a1 b1 (k := A.b) A.b_foot ?_
  rw [← a2, e, b2]
  exact B.b_foot
theorem TrAt.eqv {W : World} {t : Nat} {σ : Tr} {Ls : List Lay} (h : TrAt W t σ Ls) {o : Option Nat} (ho : ∀ i, o = some i → i < σ.nodes.length) {j : Nat} (hj : j < σ.nodes.length) : optV (locL Ls) o = ptrV (locL Ls j) ↔ o = some j := by
  cases o with
  | none => simp [optV, ptrV]
  | some i =>
    simp only [optV, ptrV, Value.pointer.injEq, Option.some.injEq, Addr.mk.injEq, and_true]
    exact ⟨fun e => h.inj (ho i rfl) hj e, fun e => by rw [e]⟩
theorem way_lt {W : World} {t : Nat} {σ : Tr} {Ls : List Lay} (h : TrAt W t σ Ls) (L : List (List UInt8)) {i : Nat} (hi : i < σ.nodes.length) : ∀ x ∈ wayL σ.nodes i L, ∀ q, x.1 = some q → q < σ.nodes.length := by
  induction L generalizing i with
  | nil =>
    intro x hx q hq
    simp [wayL] at hx
    subst hx
    cases hq
    exact hi
  | cons p r ih =>
    intro x hx q hq
    obtain ⟨d, hd⟩ : ∃ d, σ.nodes[i]? = some d := ⟨_, List.getElem?_eq_getElem hi⟩
    have base : ∀ e, x ∈ [(some i, (0 : Int)), (none, e)] → q < σ.nodes.length := by
      intro e hm
      simp at hm
      rcases hm with rfl | rfl
      · cases hq; exact hi
      · cases hq
    cases d with
    | file l z b => rw [(way_file r hd).1] at hx; exact base _ hx
    | dir l z s =>
      cases hl : lookS s p with
      | none => rw [(way_none r hd hl).1] at hx; exact base _ hx
      | some j =>
        rw [(way_dir r hd hl).1] at hx
        rcases List.mem_cons.1 hx with rfl | hx
        · cases hq; exact hi
        · exact ih (look_ref h hd hl) x hx q hq
theorem way_valid {W : World} {t : Nat} {σ : Tr} {Ls : List Lay} (h : TrAt W t σ Ls) (L : List (List UInt8)) (k : Nat) : ∀ q, (wayG σ.nodes L k).1 = some q → q < σ.nodes.length := by
  intro q hq
  rcases Nat.lt_or_ge k (wayL σ.nodes 0 L).length with hk | hk
  · have hg : wayG σ.nodes L k = (wayL σ.nodes 0 L)[k] := by unfold wayG; rw [List.getD, List.getElem?_eq_getElem hk]; rfl
    rw [hg] at hq
    refine way_lt h L ?_ _ (List.getElem_mem hk) q hq
    obtain ⟨_, _, _, h0⟩ := h.root
    exact (List.getElem?_eq_some_iff.1 h0).1
  · have hg : wayG σ.nodes L k = (none, 0) := by unfold wayG; rw [List.getD, List.getElem?_eq_none hk]; rfl
    rw [hg] at hq
    cases hq
theorem infoNode3 : (Tryz.prog.info? 62).map (fun i => i.size) = some 6 := by kernel_rfl
theorem infoNode2 : ∃ j, Tryz.prog.info? 62 = some j ∧ j.size ≠ 0 := by
  cases h : Tryz.prog.info? 62 with
  | none => have := infoNode3; rw [h] at this; cases this
  | some j => have := infoNode3; rw [h] at this; simp at this; exact ⟨j, rfl, by omega⟩
theorem run_eql_self (W : World) (a : Addr) : (binOp .eql 49 (.pointer (some a)) (.pointer (some a))).run Tryz.prog W = .ok (.bool true) W := by
  obtain ⟨j, hj, _⟩ := infoNode2
  exact run_eql_ptr_same W a Tryz.underlying49 hj
theorem run_eql_nil (W : World) (a : Addr) : (binOp .eql 49 (.pointer none) (.pointer (some a))).run Tryz.prog W = .ok (.bool false) W := by kernel_rfl
set_option maxRecDepth 100000 in
set_option maxHeartbeats 4000000 in
theorem within_any2 (w : World) (t : Nat) (σ : Tr) (Ls : List Lay) (hT : TrAt w t σ Ls) (ao : Option Addr) (c : Nat) (L : List (List UInt8)) (hS : SAt w ao L.length L) (hL : ∀ p ∈ L, p.length ≤ 1000) (hll : L.length ≤ 16777216) (j : Nat) (hj : j < σ.nodes.length) :
    Calls Tryz.prog 45 #[ptrV t, .slice ao L.length c, ptrV (locL Ls j)] w fun e w' => e = .returned (.bool (onWay σ.nodes L j)) ∧ Below w.heap.size w w' := by
  refine (callsIn_wide (n := 5)).1 ?_
  refine callsIn_of_wp_marks Tryz.func45 rfl trivial ?_ rfl
  simp only [Tryz.ntmps45, List.size_toArray, List.length_cons, List.length_nil, Nat.reduceAdd, Nat.reduceSub, Array.replicate_succ, Array.replicate_zero, List.push_toArray, List.append_toArray, List.nil_append, List.cons_append]
  generalize hlen : L.length = m at *
  have HWA := Hid.mk (fun W => way_any W t ao m c)
  have HSQ : Hid (∀ (W0 : World) (B : Nat), Below w.heap.size w W0 → W0.heap[B]? = some (.cells #[ptrV t] 23 (0, 0)) → W0.heap[B + 1]? = some (.cells #[.slice ao m c] 29 (0, 0)) → _) := Hid.mk (fun W0 B (hB : Below w.heap.size w W0) h1 h2 => way_stops 4 (by omega) B t σ Ls ao c L hL (by omega) w W0 hB h1 (by rw [hlen]; exact h2) hT (by rw [hlen]; exact hS))
  have HT := Hid.mk hT
  clear hS hL hll hT
  unfold ptrV at HWA
  unfold ptrV
  gi_wp2_with (refine ⟨trivial, ?_⟩; gi_at_call 55; refine (callsIn_wide.2 (HWA.out _)).mono ?_; rintro e w' ⟨rfl, hw⟩; subst w')
  obtain ⟨r, hr⟩ : ∃ r, locL Ls j = r := ⟨_, rfl⟩
  rw [hr]
  have q0 := blk_new w (.cells #[.pointer (some ⟨r, 0, none⟩)] 49)
  have q1 := blk_new (w.alloc (.cells #[.pointer (some ⟨r, 0, none⟩)] 49)) (.cells #[.bool false] 4)
  have q2 := blk_new ((w.alloc (.cells #[.pointer (some ⟨r, 0, none⟩)] 49)).alloc (.cells #[.bool false] 4)) (.cells #[.pointer (some ⟨t, 0, none⟩)] 23)
  have q3 := blk_new (((w.alloc (.cells #[.pointer (some ⟨r, 0, none⟩)] 49)).alloc (.cells #[.bool false] 4)).alloc (.cells #[.pointer (some ⟨t, 0, none⟩)] 23)) (.cells #[.slice ao m c] 29)
  simp only [World.size_alloc] at q1 q2 q3
  obtain ⟨W0, hW0⟩ : ∃ W0, W0 = (((w.alloc (.cells #[.pointer (some ⟨r, 0, none⟩)] 49)).alloc (.cells #[.bool false] 4)).alloc (.cells #[.pointer (some ⟨t, 0, none⟩)] 23)).alloc (.cells #[.slice ao m c] 29) := ⟨_, rfl⟩
  have z0 : W0.heap[w.heap.size]? = some (.cells #[.pointer (some ⟨r, 0, none⟩)] 49 (0, 0)) := by
    rw [hW0, Below.heap_alloc _ _ _ (by simp; omega), Below.heap_alloc _ _ _ (by simp; omega), Below.heap_alloc _ _ _ (by simp)]; exact q0
  have z1 : W0.heap[w.heap.size + 1]? = some (.cells #[.bool false] 4 (0, 0)) := by
    rw [hW0, Below.heap_alloc _ _ _ (by simp [World.size_alloc] <;> omega), Below.heap_alloc _ _ _ (by simp)]; exact q1
  have z2 : W0.heap[w.heap.size + 1 + 1]? = some (.cells #[.pointer (some ⟨t, 0, none⟩)] 23 (0, 0)) := by
    rw [hW0, Below.heap_alloc _ _ _ (by simp)]; exact q2
  have z3 : W0.heap[w.heap.size + 1 + 1 + 1]? = some (.cells #[.slice ao m c] 29 (0, 0)) := by rw [hW0]; exact q3
  have zs : W0.heap.size = w.heap.size + 4 := by rw [hW0]; simp
  have zb : Below w.heap.size w W0 := by
    rw [hW0]
    exact ((((Below.refl _ w).alloc (Nat.le_refl _) _).alloc (by simp) _).alloc (by simp; omega) _).alloc (by simp; omega) _
  rw [← hW0]
  clear q0 q1 q2 q3 hW0
  have hseq := HSQ.out W0 (w.heap.size + 1 + 1) zb z2 z3
  have HR := Hid.mk hr
  clear hr
  refine wpIn_rangeFunc_ownF rfl (by omega) (gf := 69) (lb := #[.pointer (some ⟨w.heap.size + 1 + 1, 0, none⟩), .pointer (some ⟨w.heap.size + 1 + 1 + 1, 0, none⟩)]) rfl trivial (enters_of Tryz.func69 (by kernel_rfl) rfl)
    hseq belowK_t (belowK_b zb.size) (Below.refl _ _) (fun _ => rfl) (NI w (locL Ls) (wayG σ.nodes L) r) (NX w (locL Ls) (wayG σ.nodes L) r) (by rw [zs]; exact NI_own w (locL Ls) _ r) (by rw [zs]; exact NX_own w (locL Ls) _ r) ⟨fun x hx => (by cases hx), z0, z1, zb, by omega⟩
    (fun x => { tmps := #[.pointer (some ⟨t, 0, none⟩), .slice ao m c, .pointer (some ⟨r, 0, none⟩), undef, undef, .pointer (some ⟨w.heap.size, 0, none⟩), .pointer (some ⟨w.heap.size + 1, 0, none⟩), optV (locL Ls) (wayG σ.nodes L x).1, .pointer (some ⟨t, 0, none⟩), .slice ao m c,
      .func (.func 69) #[] #[.pointer (some ⟨w.heap.size + 1 + 1, 0, none⟩), .pointer (some ⟨w.heap.size + 1 + 1 + 1, 0, none⟩)], optV (locL Ls) (wayG σ.nodes L x).1, .int .i64 (wayG σ.nodes L x).2, undef, undef, undef], defers := [] }) ?assign ?body ?done ?stop
  case assign =>
    intro l x W K hK
    dsimp only [wayV]
    gi_wp2
    exact hK
  case body =>
    rintro lp pre x W hI hlen
    have c0 := blk_cell hI.r0 0
    have c1 := blk_cell hI.r1 0
    have f1 := blk_free hI.r1 0
    simp at c0 c1
    unfold ptrV at c0
    have HI := Hid.mk hI
    have HXV : Hid (∀ q, (wayG σ.nodes L x).1 = some q → q < σ.nodes.length) := Hid.mk (way_valid HT.out L x)
    have HT1 := Hid.mk (HT.out.below rfl hI.below)
    clear hI hlen hseq z0 z1 z2 z3 HSQ HWA
    by_cases he : optV (locL Ls) (wayG σ.nodes L x).1 = ptrV r
    · have HE := Hid.mk he
      have hcmp := run_eql_self W ⟨r, 0, none⟩
      skip
      rw [he]
      unfold ptrV
      clear he
      gi_wp2
      have hI := HI.out
      refine ⟨KeepsOthers.setCell _ _ _, rfl, ⟨x, by simp, HE.out⟩, ?_, hI.below.setCell (p := ⟨w.heap.size + 1, 0, none⟩) (Nat.le_succ _) _, by simpa [World.setCell] using hI.size⟩
      rw [blk_set hI.r1]
      simp
    · have HE := Hid.mk he
      have FIN : Hid (KeepsOthers W W ∧ Below w.heap.size W W ∧ NI w (locL Ls) (wayG σ.nodes L) r (pre ++ [x]) W) := Hid.mk ⟨KeepsOthers.refl _, Below.refl _ _, ⟨fun y hy => by
        rcases List.mem_append.1 hy with hy | hy
        · exact HI.out.no y hy
        · rw [List.mem_singleton.1 hy]; exact HE.out, HI.out.r0, HI.out.r1, HI.out.below, HI.out.size⟩⟩
      skip
      generalize wayG σ.nodes L x = y at *
      obtain ⟨xo, xe⟩ := y
      cases xo with
      | none =>
        unfold optV
        clear he
        have hcmp := run_eql_nil W ⟨r, 0, none⟩
        gi_wp2
        exact FIN.out
      | some q =>
        have hq : ¬ locL Ls q = r := fun e => he (by simp [optV, ptrV, e])
        obtain ⟨A, da, a1, a2, a3, a4⟩ := HT1.out.get (HXV.out q rfl)
        obtain ⟨B, db, b1, b2, b3, b4⟩ := HT1.out.get hj
        obtain ⟨_, _, _, ha⟩ := a3.head
        obtain ⟨_, _, _, hb⟩ := b3.head
        rw [← a4] at ha
        rw [← b4, HR.out] at hb
        obtain ⟨jn, hjn, hsz⟩ := infoNode2
        have hcmp := run_eql_ptr_other (P := Tryz.prog) (tp := 49) W (a := ⟨locL Ls q, 0, none⟩) (b := ⟨r, 0, none⟩) Tryz.underlying49 hjn hsz (fun e => hq (congrArg Addr.block e)) ha hb
        unfold optV ptrV
        clear he a1 a2 a3 a4 b1 b2 b3 b4 ha hb hq hjn hsz
        gi_wp2
        exact FIN.out
  case done =>
    rintro D xs W hD rfl hI hK
    have hDw : w.heap.size ≤ D := by omega
    have e1 : onWay σ.nodes L j = false := by
      unfold onWay
      rw [List.any_eq_false]
      intro x hx h
      have h2 := of_decide_eq_true h
      obtain ⟨k, hk, ek⟩ := List.getElem_of_mem hx
      have hg : wayG σ.nodes L k = x := by unfold wayG; rw [List.getD, List.getElem?_eq_getElem hk, ek]; rfl
      refine hI.no k (by simp [List.mem_range']; exact hk) ?_
      rw [hg, h2, ← HR.out]
      rfl
    have HV := Hid.mk e1
    have m1 := blk_cell hI.r1 0
    have f1 := blk_free hI.r1 0
    simp at m1
    have HI := Hid.mk hI
    clear hI hseq z0 z1 z2 z3 HSQ HWA e1 zb
    gi_wp2
    have hI := HI.out
    have hb1 : (W.setCell ⟨w.heap.size + 1, 0, none⟩ (.bool false)).heap[w.heap.size + 1]? = some (.cells #[.bool false] 4 (0, 0)) := by rw [blk_set hI.r1]; rfl
    have hK' : (W.setCell ⟨w.heap.size + 1, 0, none⟩ (.bool false)).heap[D]? = some (.deferred (some [])) := (KeepsOthers.setCell _ _ _).same D _ hK rfl
    have hBl : Below w.heap.size w (W.setCell ⟨w.heap.size + 1, 0, none⟩ (.bool false)) := hI.below.setCell (p := ⟨w.heap.size + 1, 0, none⟩) (Nat.le_succ _) _
    generalize W.setCell ⟨w.heap.size + 1, 0, none⟩ (.bool false) = Y at *
    have m2 : Y.cell? ⟨w.heap.size + 1, 0, none⟩ = some (.bool false) := by rw [blk_cell hb1]; rfl
    have hnc : ∀ r, some D = some r → ∃ o : Obj, Y.heap[r]? = some o ∧ o.isCells = false := fun r e => by cases e; exact ⟨_, hK', rfl⟩
    have c1 := cell_kept m2 (grownBy_putObj' _ D (.deferred none)) hnc
    refine ⟨by simp, .inl ⟨_, _, rfl, run_takeDeferred hK', ?_⟩⟩
    refine ⟨.bool false, ?_, by rw [HV.out], hBl.trans (belowK_b (w := w) (Nat.le_refl _) Y D _ _ hDw hK' rfl rfl)⟩
    simp [results, Tryz.f45, go_sem, c1]
  case stop =>
    rintro D c' pre W hD ⟨k, hk, hpre⟩ hX hK
    have hDw : w.heap.size ≤ D := by omega
    have hret := hX.ret
    subst hret
    have e1 : onWay σ.nodes L j = true := by
      unfold onWay
      rw [List.any_eq_true]
      obtain ⟨x, hx, h⟩ := hX.yes
      have hxl : x < (wayL σ.nodes 0 L).length := by
        rw [hpre] at hx
        simp [List.mem_range'] at hx
        omega
      rw [← HR.out] at h
      have h2 := (HT.out.eqv (way_valid HT.out L x) hj).1 h
      refine ⟨(wayL σ.nodes 0 L)[x], List.getElem_mem hxl, decide_eq_true ?_⟩
      have hg : wayG σ.nodes L x = (wayL σ.nodes 0 L)[x] := by unfold wayG; rw [List.getD, List.getElem?_eq_getElem hxl]; rfl
      rw [← hg]
      exact h2
    have HV := Hid.mk e1
    have m1 : W.cell? ⟨w.heap.size + 1, 0, none⟩ = some (.bool true) := by rw [blk_cell hX.r1]; rfl
    have HX := Hid.mk hX
    clear hX hseq z0 z1 z2 z3 HSQ HWA e1 zb hpre
    gi_wp2
    have hnc : ∀ r, some D = some r → ∃ o : Obj, W.heap[r]? = some o ∧ o.isCells = false := fun r e => by cases e; exact ⟨_, hK, rfl⟩
    have c1 := cell_kept m1 (grownBy_putObj' _ D (.deferred none)) hnc
    refine ⟨by simp, .inl ⟨_, _, rfl, run_takeDeferred hK, ?_⟩⟩
    refine ⟨.bool true, ?_, by rw [HV.out], HX.out.below.trans (belowK_b (w := w) (Nat.le_refl _) W D _ _ hDw hK rfl rfl)⟩
    simp [results, Tryz.f45, go_sem, c1]
end Go.Proofs.YtehaoeclnmelhacGreat
namespace Go.Proofs.YtehaoeclnmelhacGreat
open Go Go.Proofs Go.RowKit Go.Shelf

theorem split_bounds {l : List UInt8} {L : List (List UInt8)} (h : splitL l = some L) : (∀ p ∈ L, p.length ≤ 1000) ∧ L.length ≤ 501 := by
  cases l with
  | nil => cases h
  | cons c r =>
    simp only [splitL] at h
    split at h
    · rename_i hc
      cases h
      exact ⟨fun p hp => by have := parts_short hp; omega, by have := parts_count r; omega⟩
    · cases h
/-- What Split's outcome is: an error, or parts that lie somewhere. -/
theorem split_two (w : World) (s : ByteArray) (hs : s.size ≤ 16777216) :
    Calls Tryz.prog 54 #[.string s] w fun e w' => Below w.heap.size w w' ∧ ((splitL (ofS s) = none ∧ ∃ ao n c, e = .returned (.tuple #[.slice ao n c, .int .i64 15])) ∨ ∃ L ao c, splitL (ofS s) = some L ∧ e = .returned (.tuple #[.slice ao L.length c, .int .i64 0]) ∧ SAt w' ao L.length L ∧ L.length ≤ c ∧ c ≤ 9223372036854775807) := by
  refine (split_any w s hs).mono ?_
  rintro e w' ⟨v, rfl, hown, hB⟩
  obtain ⟨ao, c, rfl, hS, _, h1, h2⟩ := owns_SAt hown
  refine ⟨hB, ?_⟩
  cases hl : splitL (ofS s) with
  | none => exact .inl ⟨rfl, _, _, _, rfl⟩
  | some L => rw [hl] at hS h1; exact .inr ⟨L, ao, c, rfl, rfl, hS, h1, h2⟩
def nodeE (N : List Nd) (s : List UInt8) : Option Nat × Int :=
  match splitL s with
  | none => (none, 15)
  | some L => wayE N 0 L
theorem wayE_or (N : List Nd) (i : Nat) (L : List (List UInt8)) : (∃ j, wayE N i L = (some j, 0)) ∨ ∃ e, wayE N i L = (none, e) ∧ e ≠ 0 := by
  unfold wayE
  split
  · exact .inl ⟨_, rfl⟩
  · rename_i h
    exact .inr ⟨_, rfl, h⟩
theorem wayE_lt {W : World} {t : Nat} {σ : Tr} {Ls : List Lay} (h : TrAt W t σ Ls) (L : List (List UInt8)) {j : Nat} (e : wayE σ.nodes 0 L = (some j, 0)) : j < σ.nodes.length := by
  have h1 := wayL_last σ.nodes 0 L
  rw [e] at h1
  obtain ⟨_, _, _, h0⟩ := h.root
  exact way_lt h L (List.getElem?_eq_some_iff.1 h0).1 _ (List.mem_of_getLast? h1) j rfl
theorem nodeE_or (N : List Nd) (s : List UInt8) : (∃ j, nodeE N s = (some j, 0)) ∨ ∃ e, nodeE N s = (none, e) ∧ e ≠ 0 := by
  unfold nodeE
  split
  · exact .inr ⟨15, rfl, by decide⟩
  · exact wayE_or _ _ _
theorem nodeE_lt {W : World} {t : Nat} {σ : Tr} {Ls : List Lay} (h : TrAt W t σ Ls) (s : List UInt8) {j : Nat} (e : nodeE σ.nodes s = (some j, 0)) : j < σ.nodes.length := by
  unfold nodeE at e
  split at e
  · cases e
  · exact wayE_lt h _ e
set_option maxRecDepth 100000 in
set_option maxHeartbeats 2000000 in
theorem node_any (w : World) (t : Nat) (σ : Tr) (Ls : List Lay) (hT : TrAt w t σ Ls) (s : ByteArray) (hs : s.size ≤ 16777216) :
    Calls Tryz.prog 53 #[ptrV t, .string s] w fun e w' => e = .returned (.tuple #[optV (locL Ls) (nodeE σ.nodes (ofS s)).1, .int .i64 (nodeE σ.nodes (ofS s)).2]) ∧ Below w.heap.size w w' := by
  have HS := Hid.mk (split_two w s hs)
  have HT := Hid.mk hT
  clear hT hs
  unfold ptrV
  go_enter Tryz.func53, Tryz.ntmps53
  go_wp2_with fail
  refine HS.out.mono ?_
  rintro e W1 ⟨hB, (⟨hn, ao, n, c, rfl⟩ | ⟨L, ao, c, hn, rfl, hSA, h1, h2⟩)⟩
  · have HB := Hid.mk hB
    have HN := Hid.mk hn
    clear hB hn HS
    go_wp2
    refine bodyPost_ret (results_tmp2 rfl _ _ _) rfl ⟨?_, HB.out⟩
    unfold nodeE
    rw [HN.out]
    rfl
  · obtain ⟨b1, b2⟩ := split_bounds hn
    have HF := Hid.mk (find_any W1 t σ Ls (HT.out.below rfl hB) ao c L hSA b1 (by omega))
    unfold ptrV at HF
    have HB := Hid.mk hB
    have HN := Hid.mk hn
    clear hB hn HS hSA h1 h2 b1 b2
    go_wp2_with (go_at_call 36; refine HF.out.mono ?_; rintro e W2 ⟨rfl, hB2⟩; have HB2 := Hid.mk hB2; clear hB2)
    refine bodyPost_ret (results_tmp2 rfl _ _ _) rfl ⟨?_, HB.out.trans (HB2.out.mono HB.out.size)⟩
    unfold nodeE
    rw [HN.out]
    rfl
def fileE (N : List Nd) (s : List UInt8) : Option Nat × Int :=
  match nodeE N s with
  | (some j, _) => if (nodeAt N j).isDir = true then (none, 13) else (some j, 0)
  | (none, e) => (none, e)
theorem TrAt.kindAt {W : World} {t : Nat} {σ : Tr} {Ls : List Lay} (h : TrAt W t σ Ls) {j : Nat} (hj : j < σ.nodes.length) : W.cell? ⟨locL Ls j, 0, none⟩ = some (.int .i64 (nodeAt σ.nodes j).kind) ∧ W.cell? ⟨locL Ls j, 1, none⟩ = some (.int .i64 (nodeAt σ.nodes j).links) ∧ W.cell? ⟨locL Ls j, 2, none⟩ = some (.int .i64 (nodeAt σ.nodes j).size) := by
  obtain ⟨L, d, h1, h2, h3, h4⟩ := h.get hj
  obtain ⟨_, _, _, hh⟩ := h3.head
  have e : nodeAt σ.nodes j = d := by unfold nodeAt; rw [List.getD, h2]; rfl
  rw [e, h4]
  exact ⟨by rw [blk_cell hh]; rfl, by rw [blk_cell hh]; rfl, by rw [blk_cell hh]; rfl⟩
theorem kind_two (d : Nd) : (d.isDir = true ∧ d.kind = 2) ∨ (d.isDir = false ∧ d.kind = 1) := by cases d <;> simp [Nd.isDir, Nd.kind]
set_option maxRecDepth 100000 in
set_option maxHeartbeats 2000000 in
theorem file_any (w : World) (t : Nat) (σ : Tr) (Ls : List Lay) (hT : TrAt w t σ Ls) (s : ByteArray) (hs : s.size ≤ 16777216) :
    Calls Tryz.prog 48 #[ptrV t, .string s] w fun e w' => e = .returned (.tuple #[optV (locL Ls) (fileE σ.nodes (ofS s)).1, .int .i64 (fileE σ.nodes (ofS s)).2]) ∧ Below w.heap.size w w' := by
  have HN := Hid.mk (node_any w t σ Ls hT s hs)
  have HT := Hid.mk hT
  clear hs
  rcases nodeE_or σ.nodes (ofS s) with ⟨j, hj⟩ | ⟨e, he, hne⟩
  · have hjl := nodeE_lt hT _ hj
    rw [hj] at HN
    have HV : Hid (fileE σ.nodes (ofS s) = if (nodeAt σ.nodes j).isDir = true then (none, 13) else (some j, 0)) := Hid.mk (by unfold fileE; rw [hj])
    clear hT
    unfold optV ptrV at HN
    unfold ptrV
    rcases kind_two (nodeAt σ.nodes j) with ⟨k1, k2⟩ | ⟨k1, k2⟩
    · rw [if_pos k1] at HV
      go_enter Tryz.func48, Tryz.ntmps48
      go_wp2_with (go_at_call 53; refine HN.out.mono ?_; rintro e W1 ⟨rfl, hB⟩; obtain ⟨g0, -, -⟩ := (HT.out.below rfl hB).kindAt hjl; rw [k2] at g0; have HB := Hid.mk hB; clear hB)
      refine bodyPost_ret (results_tmp2 rfl _ _ _) rfl ⟨?_, HB.out⟩
      rw [HV.out]
      rfl
    · rw [if_neg (by rw [k1]; decide)] at HV
      go_enter Tryz.func48, Tryz.ntmps48
      go_wp2_with (go_at_call 53; refine HN.out.mono ?_; rintro e W1 ⟨rfl, hB⟩; obtain ⟨g0, -, -⟩ := (HT.out.below rfl hB).kindAt hjl; rw [k2] at g0; have HB := Hid.mk hB; clear hB)
      refine bodyPost_ret (results_tmp2 rfl _ _ _) rfl ⟨?_, HB.out⟩
      rw [HV.out]
      rfl
  · rw [he] at HN
    have HV : Hid (fileE σ.nodes (ofS s) = (none, e)) := Hid.mk (by unfold fileE; rw [he])
    clear hT
    unfold optV at HN
    unfold ptrV at *
    go_enter Tryz.func48, Tryz.ntmps48
    go_wp2_with (go_at_call 53; refine HN.out.mono ?_; rintro e' W1 ⟨rfl, hB⟩; have HB := Hid.mk hB; clear hB)
    refine bodyPost_ret (results_tmp2 rfl _ _ _) rfl ⟨?_, HB.out⟩
    rw [HV.out]
    rfl
/-- A place, as a value; none: the zero value. -/
def spotV (loc : Nat → Nat) : Option Sp → Value
  | none => .agg #[.pointer none, .string ⟨#[]⟩, .pointer none]
  | some sp => .agg #[ptrV (loc sp.dir), strV sp.name, optV loc sp.named]
def spotE (N : List Nd) (L : List (List UInt8)) (p : List UInt8) : Int × Option Sp :=
  match wayE N 0 L with
  | (some d, _) => if (nodeAt N d).isDir = true then (0, some ⟨d, p, lookS (nodeAt N d).slots p⟩) else (12, none)
  | (none, e) => (e, none)
theorem SAt.front {W : World} {ao : Option Addr} {L : List (List UInt8)} {p : List UInt8} (h : SAt W ao (L.length + 1) (L ++ [p])) : SAt W ao L.length L := by
  refine ⟨rfl, fun hn => ?_⟩
  obtain ⟨a, ea, hlt, hc⟩ := h.2 (by omega)
  refine ⟨a, ea, hlt, fun k hk => ?_⟩
  rw [hc k (by omega)]
  congr 2
  simp [List.getD, List.getElem?_append_left hk]
theorem TrAt.dirAt {W : World} {t : Nat} {σ : Tr} {Ls : List Lay} (h : TrAt W t σ Ls) {d : Nat} (hd : d < σ.nodes.length) (hk : (nodeAt σ.nodes d).isDir = true) : ∃ b m r c l z s, Ls[d]? = some (.dir b m r c) ∧ σ.nodes[d]? = some (.dir l z s) ∧ DrAt W (locL Ls) b m r c l z s ∧ locL Ls d = b ∧ nodeAt σ.nodes d = .dir l z s := by
  obtain ⟨L, n, h1, h2, h3, h4⟩ := h.get hd
  have e : nodeAt σ.nodes d = n := by unfold nodeAt; rw [List.getD, h2]; rfl
  rw [e] at hk ⊢
  cases n with
  | file => cases hk
  | dir l z s =>
    obtain ⟨b, m, r, c, rfl, hdr⟩ := h3.kind_dir
    exact ⟨b, m, r, c, l, z, s, h1, h2, hdr, h4, rfl⟩
set_option maxRecDepth 100000 in
set_option maxHeartbeats 4000000 in
theorem spot_any (w : World) (t : Nat) (σ : Tr) (Ls : List Lay) (hT : TrAt w t σ Ls) (ao : Option Addr) (c : Nat) (L : List (List UInt8)) (p : List UInt8) (hS : SAt w ao (L.length + 1) (L ++ [p])) (hL : ∀ q ∈ L ++ [p], q.length ≤ 1000) (hll : L.length + 1 ≤ 16777216) (hc : L.length + 1 ≤ c) (hc2 : c ≤ 9223372036854775807) :
    Calls Tryz.prog 44 #[ptrV t, .slice ao (L.length + 1) c] w fun e w' => e = .returned (.tuple #[spotV (locL Ls) (spotE σ.nodes L p).2, .int .i64 (spotE σ.nodes L p).1]) ∧ Below w.heap.size w w' := by
  have HF : Hid (∀ W, Below w.heap.size w W → _) := Hid.mk (fun W (hB : Below w.heap.size w W) => find_any W t σ Ls (hT.below rfl hB) ao c L (hS.front.below hB) (fun q hq => hL q (by simp [hq])) (by omega))
  have HT := Hid.mk hT
  have HSA := Hid.mk hS
  have HP : Hid (p.length ≤ 1000) := Hid.mk (hL p (by simp))
  obtain ⟨a, ea, _, hca⟩ := hS.2 (by omega)
  subst ea
  have HCA : Hid (∀ W, Below w.heap.size w W → W.cell? (a.add L.length) = some (.string (mkS p))) := Hid.mk (fun W hB => by
    obtain ⟨a', ea, _, h⟩ := (hS.below hB).2 (by omega)
    cases ea
    rw [h L.length (by omega)]
    simp [strV, List.getD])
  have hw2 : wrap64 (L.length : Int) = (L.length : Int) := by unfold wrap64; omega
  have hb1 : (L.length : Int) ≤ (c : Int) := by omega
  have hb2 : (L.length : Int) < ((L.length + 1 : Nat) : Int) := by omega
  have hb3 : L.length ≤ c := by omega
  generalize hm : L.length = m at *
  clear hT hS hL hll hc hc2 hca
  unfold ptrV
  go_enter Tryz.func44, Tryz.ntmps44
  go_wp2_with fail
  obtain ⟨X, hX⟩ : ∃ X, X = w.alloc (.cells #[.pointer none, .string ⟨#[]⟩, .pointer none] 69) := ⟨_, rfl⟩
  have hXB : Below w.heap.size w X := by rw [hX]; exact (Below.refl _ w).alloc (Nat.le_refl _) _
  have hXn : X.heap[w.heap.size]? = some (.cells #[.pointer none, .string ⟨#[]⟩, .pointer none] 69 (0, 0)) := by rw [hX]; exact blk_new w _
  have hXs : X.heap.size = w.heap.size + 1 := by rw [hX]; simp
  rw [← hX]
  refine (HF.out X hXB).mono ?_
  rintro e W1 ⟨rfl, hB1⟩
  have hB : Below w.heap.size w W1 := hXB.trans (hB1.mono (by omega))
  have hbox := (hB1.block w.heap.size (by omega)).trans hXn
  have x0 := blk_cell hbox 0
  have x1 := blk_cell hbox 1
  have x2 := blk_cell hbox 2
  have y0 := blk_free hbox 0
  have y1 := blk_free hbox 1
  have y2 := blk_free hbox 2
  simp at x0 x1 x2
  have HBX := Hid.mk hbox
  have HB := Hid.mk hB
  clear hX hXB hXn hXs hB1 hbox HF
  rcases wayE_or σ.nodes 0 L with ⟨d, hd⟩ | ⟨e, he, hne⟩
  · have hdl := wayE_lt HT.out L hd
    obtain ⟨g0, -, -⟩ := (HT.out.below rfl hB).kindAt hdl
    rw [hd]
    rcases kind_two (nodeAt σ.nodes d) with ⟨k1, k2⟩ | ⟨k1, k2⟩
    · obtain ⟨b, m', r, cc, l, z, s, q1, q2, q3, q4, q5⟩ := (HT.out.below rfl hB).dirAt hdl k1
      have HLK := Hid.mk (look_any W1 (locL Ls) b m' r cc l z s q3 p HP.out)
      rw [← q4] at HLK
      have HV : Hid (spotE σ.nodes L p = (0, some ⟨d, p, lookS s p⟩)) := Hid.mk (by unfold spotE; rw [hd]; simp only; rw [if_pos k1, q5]; rfl)
      have hca := HCA.out W1 hB
      rw [k2] at g0
      unfold ptrV strV at HLK
      unfold optV ptrV
      have hov : ∃ o, optV (locL Ls) (lookS s p) = .pointer o := by cases lookS s p <;> exact ⟨_, rfl⟩
      obtain ⟨o, hov⟩ := hov
      rw [hov] at HLK
      have HOV := Hid.mk hov
      clear hB q1 q2 q3 q4 q5 hd hdl k1 k2 hov
      go_wp2_with (go_at_call 58; refine HLK.out.mono ?_; rintro e W2 ⟨rfl, hw⟩; subst W2)
      refine bodyPost_ret (v := .tuple #[.agg #[.pointer (some ⟨locL Ls d, 0, none⟩), .string (mkS p), .pointer o], .int .i64 0]) ?_ rfl ⟨?_, ?_⟩
      · simp [results, Tryz.results44, go_sem, x0, x1, x2]
      · rw [HV.out]
        simp only [spotV, HOV.out]
        rfl
      · exact ((HB.out.setCell (p := ⟨w.heap.size, 0, none⟩) (Nat.le_refl _) _).setCell (p := ⟨w.heap.size, 1, none⟩) (Nat.le_refl _) _).setCell (p := ⟨w.heap.size, 2, none⟩) (Nat.le_refl _) _
    · rw [k2] at g0
      have HV : Hid (spotE σ.nodes L p = (12, none)) := Hid.mk (by unfold spotE; rw [hd]; simp only; rw [if_neg (by rw [k1]; decide)])
      unfold optV ptrV
      clear hB hd hdl k1 k2
      go_wp2
      refine bodyPost_ret (v := .tuple #[.agg #[.pointer none, .string ⟨#[]⟩, .pointer none], .int .i64 12]) ?_ rfl ⟨?_, ?_⟩
      · simp [results, Tryz.results44, go_sem, x0, x1, x2]
      · rw [HV.out]; rfl
      · exact ((HB.out.setCell (p := ⟨w.heap.size, 0, none⟩) (Nat.le_refl _) _).setCell (p := ⟨w.heap.size, 1, none⟩) (Nat.le_refl _) _).setCell (p := ⟨w.heap.size, 2, none⟩) (Nat.le_refl _) _
  · rw [he]
    have HV : Hid (spotE σ.nodes L p = (e, none)) := Hid.mk (by unfold spotE; rw [he])
    unfold optV
    clear hB he
    go_wp2
    refine bodyPost_ret (v := .tuple #[.agg #[.pointer none, .string ⟨#[]⟩, .pointer none], .int .i64 e]) ?_ rfl ⟨?_, ?_⟩
    · simp [results, Tryz.results44, go_sem, x0, x1, x2]
    · rw [HV.out]; rfl
    · exact ((HB.out.setCell (p := ⟨w.heap.size, 0, none⟩) (Nat.le_refl _) _).setCell (p := ⟨w.heap.size, 1, none⟩) (Nat.le_refl _) _).setCell (p := ⟨w.heap.size, 2, none⟩) (Nat.le_refl _) _
end Go.Proofs.YtehaoeclnmelhacGreat
namespace Go.Proofs.YtehaoeclnmelhacGreat
open Go Go.Proofs Go.RowKit Go.Shelf

def unE : Int × Option Sp → Int
  | (0, some sp) => if sp.named = none then 0 else 11
  | (e, _) => e
def nmE : Int × Option Sp → Int
  | (0, some sp) => if sp.named = none then 10 else 0
  | (e, _) => e
theorem spotE_or (N : List Nd) (L : List (List UInt8)) (p : List UInt8) : (∃ d o, spotE N L p = (0, some ⟨d, p, o⟩) ∧ wayE N 0 L = (some d, 0) ∧ (nodeAt N d).isDir = true ∧ o = lookS (nodeAt N d).slots p) ∨ ∃ e, spotE N L p = (e, none) ∧ e ≠ 0 := by
  rcases wayE_or N 0 L with ⟨d, hd⟩ | ⟨e, he, hne⟩
  · rcases kind_two (nodeAt N d) with ⟨k1, _⟩ | ⟨k1, _⟩
    · exact .inl ⟨d, _, by unfold spotE; rw [hd]; simp only; rw [if_pos k1], hd, k1, rfl⟩
    · exact .inr ⟨12, by unfold spotE; rw [hd]; simp only; rw [if_neg (by rw [k1]; decide)], by decide⟩
  · exact .inr ⟨e, by unfold spotE; rw [he], hne⟩
/-- What a box of three has behind a store of three. -/
theorem box3_below {B : Nat} {w W : World} (h : Below B w W) {q : Nat} (hq : B ≤ q) (u v x : Value) : Below B w (((W.setCell ⟨q, 0, none⟩ u).setCell ⟨q, 1, none⟩ v).setCell ⟨q, 2, none⟩ x) :=
  ((h.setCell (p := ⟨q, 0, none⟩) hq _).setCell (p := ⟨q, 1, none⟩) hq _).setCell (p := ⟨q, 2, none⟩) hq _
theorem box3_cells {W : World} {B : Nat} {a b c : Value} {T : TypeId} (h : W.heap[B]? = some (.cells #[a, b, c] T (0, 0))) (u v x : Value) (o : Obj) :
    ((((W.setCell ⟨B, 0, none⟩ u).setCell ⟨B, 1, none⟩ v).setCell ⟨B, 2, none⟩ x).alloc o).cell? ⟨B, 0, none⟩ = some u ∧ ((((W.setCell ⟨B, 0, none⟩ u).setCell ⟨B, 1, none⟩ v).setCell ⟨B, 2, none⟩ x).alloc o).cell? ⟨B, 1, none⟩ = some v ∧ ((((W.setCell ⟨B, 0, none⟩ u).setCell ⟨B, 1, none⟩ v).setCell ⟨B, 2, none⟩ x).alloc o).cell? ⟨B, 2, none⟩ = some x := by
  have e : ((((W.setCell ⟨B, 0, none⟩ u).setCell ⟨B, 1, none⟩ v).setCell ⟨B, 2, none⟩ x).alloc o).heap[B]? = some (.cells #[u, v, x] T (0, 0)) := by
    rw [Below.heap_alloc _ _ _ (by simp [World.setCell]; exact lt_of_block h), blk_set (blk_set (blk_set h))]
    rfl
  exact ⟨by rw [blk_cell e]; rfl, by rw [blk_cell e]; rfl, by rw [blk_cell e]; rfl⟩
theorem opt_ptr (loc : Nat → Nat) (o : Option Nat) : ∃ x, optV loc o = .pointer x ∧ x.isNone = o.isNone := by
  cases o with
  | none => exact ⟨none, rfl, rfl⟩
  | some j => exact ⟨some ⟨loc j, 0, none⟩, rfl, rfl⟩
set_option maxRecDepth 100000 in
set_option maxHeartbeats 4000000 in
theorem unnamed_nil (w : World) (t : Nat) (ao : Option Addr) (c : Nat) :
    Calls Tryz.prog 37 #[ptrV t, .slice ao 0 c] w fun e w' => e = .returned (.tuple #[.agg #[.pointer none, .string ⟨#[]⟩, .pointer none], .int .i64 11]) ∧ Below w.heap.size w w' := by
  unfold ptrV
  go_enter Tryz.func37, Tryz.ntmps37
  go_wp2
  refine bodyPost_ret (v := .tuple #[.agg #[.pointer none, .string ⟨#[]⟩, .pointer none], .int .i64 11]) ?_ rfl ⟨rfl, ?_⟩
  · simp [results, Tryz.results37, go_sem]
  · exact (Below.refl _ w).alloc (Nat.le_refl _) _
set_option maxRecDepth 100000 in
set_option maxHeartbeats 4000000 in
theorem unnamed_any (w : World) (t : Nat) (σ : Tr) (Ls : List Lay) (hT : TrAt w t σ Ls) (ao : Option Addr) (c : Nat) (L : List (List UInt8)) (p : List UInt8) (hS : SAt w ao (L.length + 1) (L ++ [p])) (hL : ∀ q ∈ L ++ [p], q.length ≤ 1000) (hll : L.length + 1 ≤ 16777216) (hc : L.length + 1 ≤ c) (hc2 : c ≤ 9223372036854775807) :
    Calls Tryz.prog 37 #[ptrV t, .slice ao (L.length + 1) c] w fun e w' => e = .returned (.tuple #[spotV (locL Ls) (spotE σ.nodes L p).2, .int .i64 (unE (spotE σ.nodes L p))]) ∧ Below w.heap.size w w' := by
  have HSP : Hid (∀ W, Below w.heap.size w W → _) := Hid.mk (fun W (hB : Below w.heap.size w W) => spot_any W t σ Ls (hT.below rfl hB) ao c L p (hS.below hB) hL hll hc hc2)
  have hne : ¬ ((L.length : Int) + 1 = 0) := by omega
  generalize hm : L.length = m at *
  clear hT hS hL hll hc hc2 hm
  unfold ptrV at HSP
  rcases spotE_or σ.nodes L p with ⟨d, o, hs, -, -, -⟩ | ⟨e, hs, he⟩
  · rw [hs] at HSP ⊢
    obtain ⟨q, hq, hqn⟩ := opt_ptr (locL Ls) o
    have HV : Hid (unE (0, some ⟨d, p, o⟩) = if o.isNone = true then 0 else 11) := Hid.mk (by cases o <;> rfl)
    have HV2 : Hid (spotV (locL Ls) (some ⟨d, p, o⟩) = .agg #[.pointer (some ⟨locL Ls d, 0, none⟩), .string (mkS p), .pointer q]) := Hid.mk (by simp only [spotV, hq]; rfl)
    simp only at HSP ⊢
    rw [HV2.out] at HSP
    rw [HV2.out, HV.out, ← hqn]
    clear hq hqn hs HV HV2
    unfold ptrV
    cases q with
    | none =>
      simp only [Option.isNone_none, if_true]
      go_enter Tryz.func37, Tryz.ntmps37
      go_wp2_with fail
      obtain ⟨X, hX⟩ : ∃ X, X = w.alloc (.cells #[.pointer none, .string ⟨#[]⟩, .pointer none] 69) := ⟨_, rfl⟩
      have hXB : Below w.heap.size w X := by rw [hX]; exact (Below.refl _ w).alloc (Nat.le_refl _) _
      have hXn : X.heap[w.heap.size]? = some (.cells #[.pointer none, .string ⟨#[]⟩, .pointer none] 69 (0, 0)) := by rw [hX]; exact blk_new w _
      have hXs : X.heap.size = w.heap.size + 1 := by rw [hX]; simp
      rw [← hX]
      refine (HSP.out X hXB).mono ?_
      rintro e' W1 ⟨rfl, hB1⟩
      have hB : Below w.heap.size w W1 := hXB.trans (hB1.mono (by omega))
      have hbox := (hB1.block w.heap.size (by omega)).trans hXn
      have hlt := lt_of_block hbox
      have hsz : w.heap.size ≠ W1.heap.size := by omega
      have HB := Hid.mk hB
      have HBX := Hid.mk hbox
      have x0 := blk_cell hbox 0
      have x1 := blk_cell hbox 1
      have x2 := blk_cell hbox 2
      have y0 := blk_free hbox 0
      have y1 := blk_free hbox 1
      have y2 := blk_free hbox 2
      simp at x0 x1 x2
      clear hX hXB hXn hXs hB1 hbox HSP hB
      go_wp2
      refine bodyPost_ret (v := .tuple #[.agg #[.pointer (some ⟨locL Ls d, 0, none⟩), .string (mkS p), .pointer none], .int .i64 0]) ?_ rfl ⟨rfl, ?_⟩
      · obtain ⟨z0, z1, z2⟩ := box3_cells HBX.out (.pointer (some ⟨locL Ls d, 0, none⟩)) (.string (mkS p)) (.pointer none) (.cells #[.pointer (some ⟨locL Ls d, 0, none⟩), .string (mkS p), .pointer none] 69)
        simp [results, Tryz.results37, go_sem, z0, z1, z2]
      · exact (box3_below HB.out (Nat.le_refl _) _ _ _).alloc (by have := HB.out.size; simp [World.setCell]; omega) _
    | some q =>
      simp only [Option.isNone_some, Bool.false_eq_true, if_false]
      go_enter Tryz.func37, Tryz.ntmps37
      go_wp2_with fail
      obtain ⟨X, hX⟩ : ∃ X, X = w.alloc (.cells #[.pointer none, .string ⟨#[]⟩, .pointer none] 69) := ⟨_, rfl⟩
      have hXB : Below w.heap.size w X := by rw [hX]; exact (Below.refl _ w).alloc (Nat.le_refl _) _
      have hXn : X.heap[w.heap.size]? = some (.cells #[.pointer none, .string ⟨#[]⟩, .pointer none] 69 (0, 0)) := by rw [hX]; exact blk_new w _
      have hXs : X.heap.size = w.heap.size + 1 := by rw [hX]; simp
      rw [← hX]
      refine (HSP.out X hXB).mono ?_
      rintro e' W1 ⟨rfl, hB1⟩
      have hB : Below w.heap.size w W1 := hXB.trans (hB1.mono (by omega))
      have hbox := (hB1.block w.heap.size (by omega)).trans hXn
      have hlt := lt_of_block hbox
      have hsz : w.heap.size ≠ W1.heap.size := by omega
      have HB := Hid.mk hB
      have HBX := Hid.mk hbox
      have x0 := blk_cell hbox 0
      have x1 := blk_cell hbox 1
      have x2 := blk_cell hbox 2
      have y0 := blk_free hbox 0
      have y1 := blk_free hbox 1
      have y2 := blk_free hbox 2
      simp at x0 x1 x2
      clear hX hXB hXn hXs hB1 hbox HSP hB
      go_wp2
      refine bodyPost_ret (v := .tuple #[.agg #[.pointer (some ⟨locL Ls d, 0, none⟩), .string (mkS p), .pointer (some q)], .int .i64 11]) ?_ rfl ⟨rfl, ?_⟩
      · obtain ⟨z0, z1, z2⟩ := box3_cells HBX.out (.pointer (some ⟨locL Ls d, 0, none⟩)) (.string (mkS p)) (.pointer (some q)) (.cells #[.pointer (some ⟨locL Ls d, 0, none⟩), .string (mkS p), .pointer (some q)] 69)
        simp [results, Tryz.results37, go_sem, z0, z1, z2]
      · exact (box3_below HB.out (Nat.le_refl _) _ _ _).alloc (by have := HB.out.size; simp [World.setCell]; omega) _
  · rw [hs] at HSP ⊢
    have HV : Hid (unE (e, none) = e) := Hid.mk (by unfold unE; split <;> simp_all)
    simp only [spotV] at HSP ⊢
    rw [HV.out]
    clear hs HV
    unfold ptrV
    go_enter Tryz.func37, Tryz.ntmps37
    go_wp2_with fail
    obtain ⟨X, hX⟩ : ∃ X, X = w.alloc (.cells #[.pointer none, .string ⟨#[]⟩, .pointer none] 69) := ⟨_, rfl⟩
    have hXB : Below w.heap.size w X := by rw [hX]; exact (Below.refl _ w).alloc (Nat.le_refl _) _
    have hXn : X.heap[w.heap.size]? = some (.cells #[.pointer none, .string ⟨#[]⟩, .pointer none] 69 (0, 0)) := by rw [hX]; exact blk_new w _
    have hXs : X.heap.size = w.heap.size + 1 := by rw [hX]; simp
    rw [← hX]
    refine (HSP.out X hXB).mono ?_
    rintro e' W1 ⟨rfl, hB1⟩
    have hB : Below w.heap.size w W1 := hXB.trans (hB1.mono (by omega))
    have hbox := (hB1.block w.heap.size (by omega)).trans hXn
    have hlt := lt_of_block hbox
    have hsz : w.heap.size ≠ W1.heap.size := by omega
    have HB := Hid.mk hB
    have HBX := Hid.mk hbox
    have x0 := blk_cell hbox 0
    have x1 := blk_cell hbox 1
    have x2 := blk_cell hbox 2
    have y0 := blk_free hbox 0
    have y1 := blk_free hbox 1
    have y2 := blk_free hbox 2
    simp at x0 x1 x2
    clear hX hXB hXn hXs hB1 hbox HSP hB
    go_wp2
    refine bodyPost_ret (v := .tuple #[.agg #[.pointer none, .string ⟨#[]⟩, .pointer none], .int .i64 e]) ?_ rfl ⟨rfl, ?_⟩
    · obtain ⟨z0, z1, z2⟩ := box3_cells HBX.out (.pointer none) (.string ⟨#[]⟩) (.pointer none) (.cells #[.pointer none, .string ⟨#[]⟩, .pointer none] 69)
      simp [results, Tryz.results37, go_sem, z0, z1, z2]
    · exact (box3_below HB.out (Nat.le_refl _) _ _ _).alloc (by have := HB.out.size; simp [World.setCell]; omega) _
end Go.Proofs.YtehaoeclnmelhacGreat
namespace Go.Proofs.YtehaoeclnmelhacGreat
open Go Go.Proofs Go.RowKit Go.Shelf

def namedE (N : List Nd) (s : List UInt8) : Int × Option Sp :=
  match splitL s with
  | none => (15, none)
  | some L => if L = [] then (18, none) else (nmE (spotE N L.dropLast (L.getLastD [])), (spotE N L.dropLast (L.getLastD [])).2)
theorem split_no (w : World) (s : ByteArray) (hs : s.size ≤ 16777216) (h : splitL (ofS s) = none) : Calls Tryz.prog 54 #[.string s] w fun e w' => ∃ ao n c, e = .returned (.tuple #[.slice ao n c, .int .i64 15]) ∧ Below w.heap.size w w' := by
  refine (split_two w s hs).mono ?_
  rintro e w' ⟨hB, (⟨_, ao, n, c, rfl⟩ | ⟨L, ao, c, hn, _⟩)⟩
  · exact ⟨ao, n, c, rfl, hB⟩
  · rw [h] at hn; cases hn
theorem split_yes (w : World) (s : ByteArray) (hs : s.size ≤ 16777216) {L : List (List UInt8)} (h : splitL (ofS s) = some L) : Calls Tryz.prog 54 #[.string s] w fun e w' => ∃ ao c, e = .returned (.tuple #[.slice ao L.length c, .int .i64 0]) ∧ SAt w' ao L.length L ∧ L.length ≤ c ∧ c ≤ 9223372036854775807 ∧ Below w.heap.size w w' := by
  refine (split_two w s hs).mono ?_
  rintro e w' ⟨hB, (⟨hn, _⟩ | ⟨L', ao, c, hn, rfl, h1, h2, h3⟩)⟩
  · rw [h] at hn; cases hn
  · rw [h] at hn; cases hn; exact ⟨ao, c, rfl, h1, h2, h3, hB⟩
theorem list_two {α : Type} (L : List α) : L = [] ∨ ∃ L0 p, L = L0 ++ [p] := by
  rcases List.eq_nil_or_concat L with h | ⟨L0, p, h⟩
  · exact .inl h
  · exact .inr ⟨L0, p, by simpa using h⟩
set_option maxRecDepth 100000 in
set_option maxHeartbeats 4000000 in
theorem named_any (w : World) (t : Nat) (σ : Tr) (Ls : List Lay) (hT : TrAt w t σ Ls) (s : ByteArray) (hs : s.size ≤ 16777216) :
    Calls Tryz.prog 41 #[ptrV t, .string s] w fun e w' => e = .returned (.tuple #[spotV (locL Ls) (namedE σ.nodes (ofS s)).2, .int .i64 (namedE σ.nodes (ofS s)).1]) ∧ Below w.heap.size w w' := by
  cases hsp : splitL (ofS s) with
  | none =>
    have HS := Hid.mk (fun W => split_no W s hs hsp)
    have e : namedE σ.nodes (ofS s) = (15, none) := by unfold namedE; rw [hsp]
    rw [e]
    simp only [spotV]
    clear e hsp hs hT
    unfold ptrV
    go_enter Tryz.func41, Tryz.ntmps41
    go_wp2_with fail
    obtain ⟨X, hX⟩ : ∃ X, X = w.alloc (.cells #[.pointer none, .string ⟨#[]⟩, .pointer none] 69) := ⟨_, rfl⟩
    have hXB : Below w.heap.size w X := by rw [hX]; exact (Below.refl _ w).alloc (Nat.le_refl _) _
    have hXn : X.heap[w.heap.size]? = some (.cells #[.pointer none, .string ⟨#[]⟩, .pointer none] 69 (0, 0)) := by rw [hX]; exact blk_new w _
    have hXs : X.heap.size = w.heap.size + 1 := by rw [hX]; simp
    rw [← hX]
    refine (HS.out X).mono ?_
    rintro e' W1 ⟨ao, n, c, rfl, hB1⟩
    have hB : Below w.heap.size w W1 := hXB.trans (hB1.mono (by omega))
    have hbox := (hB1.block w.heap.size (by omega)).trans hXn
    have hlt := lt_of_block hbox
    have x0 := blk_cell hbox 0
    have x1 := blk_cell hbox 1
    have x2 := blk_cell hbox 2
    have y0 := blk_free hbox 0
    have y1 := blk_free hbox 1
    have y2 := blk_free hbox 2
    simp at x0 x1 x2
    have HB := Hid.mk hB
    have HBX := Hid.mk hbox
    clear hX hXB hXn hXs hB1 hbox HS hB
    go_wp2
    refine bodyPost_ret (v := .tuple #[.agg #[.pointer none, .string ⟨#[]⟩, .pointer none], .int .i64 15]) ?_ rfl ⟨rfl, ?_⟩
    · simp [results, Tryz.results41, go_sem, x0, x1, x2]
    · exact box3_below HB.out (Nat.le_refl _) _ _ _
  | some M =>
    have HS := Hid.mk (fun W => split_yes W s hs hsp)
    rcases list_two M with rfl | ⟨L, p, rfl⟩
    · have e : namedE σ.nodes (ofS s) = (18, none) := by unfold namedE; rw [hsp]; rfl
      rw [e]
      simp only [spotV]
      clear e hsp hs hT
      unfold ptrV
      go_enter Tryz.func41, Tryz.ntmps41
      go_wp2_with fail
      obtain ⟨X, hX⟩ : ∃ X, X = w.alloc (.cells #[.pointer none, .string ⟨#[]⟩, .pointer none] 69) := ⟨_, rfl⟩
      have hXB : Below w.heap.size w X := by rw [hX]; exact (Below.refl _ w).alloc (Nat.le_refl _) _
      have hXn : X.heap[w.heap.size]? = some (.cells #[.pointer none, .string ⟨#[]⟩, .pointer none] 69 (0, 0)) := by rw [hX]; exact blk_new w _
      have hXs : X.heap.size = w.heap.size + 1 := by rw [hX]; simp
      rw [← hX]
      refine (HS.out X).mono ?_
      rintro e' W1 ⟨ao, c, rfl, hSA, hc1, hc2, hB1⟩
      have hB : Below w.heap.size w W1 := hXB.trans (hB1.mono (by omega))
      have hbox := (hB1.block w.heap.size (by omega)).trans hXn
      have hlt := lt_of_block hbox
      simp only [List.length_nil]
      have x0 := blk_cell hbox 0
      have x1 := blk_cell hbox 1
      have x2 := blk_cell hbox 2
      have y0 := blk_free hbox 0
      have y1 := blk_free hbox 1
      have y2 := blk_free hbox 2
      simp at x0 x1 x2
      have HB := Hid.mk hB
      have HBX := Hid.mk hbox
      clear hX hXB hXn hXs hB1 hbox HS hB hSA hc1 hc2
      go_wp2
      refine bodyPost_ret (v := .tuple #[.agg #[.pointer none, .string ⟨#[]⟩, .pointer none], .int .i64 18]) ?_ rfl ⟨rfl, ?_⟩
      · simp [results, Tryz.results41, go_sem, x0, x1, x2]
      · exact box3_below HB.out (Nat.le_refl _) _ _ _
    · obtain ⟨hL, hll⟩ := split_bounds hsp
      have HL := Hid.mk hL
      have HLL : Hid (L.length + 1 ≤ 501) := Hid.mk (by simpa using hll)
      have HT := Hid.mk hT
      have e : namedE σ.nodes (ofS s) = (nmE (spotE σ.nodes L p), (spotE σ.nodes L p).2) := by
        unfold namedE
        rw [hsp]
        simp [List.getLastD_eq_getLast?]
      rw [e]
      clear e hsp hs hT hL hll
      rcases spotE_or σ.nodes L p with ⟨d, o, hse, -, -, -⟩ | ⟨er, hse, he⟩
      · have HSE := Hid.mk hse
        obtain ⟨q, hq, hqn⟩ := opt_ptr (locL Ls) o
        have HV : Hid (nmE (0, some ⟨d, p, o⟩) = if o.isNone = true then 10 else 0) := Hid.mk (by cases o <;> rfl)
        have HV2 : Hid (spotV (locL Ls) (some ⟨d, p, o⟩) = .agg #[.pointer (some ⟨locL Ls d, 0, none⟩), .string (mkS p), .pointer q]) := Hid.mk (by simp only [spotV, hq]; rfl)
        rw [hse]
        simp only
        rw [HV2.out, HV.out, ← hqn]
        clear hq hqn hse HV
        unfold ptrV
        cases q with
        | none =>
          simp only [Option.isNone_none, if_true]
          go_enter Tryz.func41, Tryz.ntmps41
          go_wp2_with fail
          obtain ⟨X, hX⟩ : ∃ X, X = w.alloc (.cells #[.pointer none, .string ⟨#[]⟩, .pointer none] 69) := ⟨_, rfl⟩
          have hXB : Below w.heap.size w X := by rw [hX]; exact (Below.refl _ w).alloc (Nat.le_refl _) _
          have hXn : X.heap[w.heap.size]? = some (.cells #[.pointer none, .string ⟨#[]⟩, .pointer none] 69 (0, 0)) := by rw [hX]; exact blk_new w _
          have hXs : X.heap.size = w.heap.size + 1 := by rw [hX]; simp
          rw [← hX]
          refine (HS.out X).mono ?_
          rintro e' W1 ⟨ao, c, rfl, hSA, hc1, hc2, hB1⟩
          have hBa : Below w.heap.size w W1 := hXB.trans (hB1.mono (by omega))
          have hboxa := (hB1.block w.heap.size (by omega)).trans hXn
          have hlta := lt_of_block hboxa
          have hln : (L ++ [p]).length = L.length + 1 := by simp
          rw [hln] at hSA hc1 ⊢
          have HSP := Hid.mk (spot_any W1 t σ Ls (HT.out.below rfl hBa) ao c L p hSA HL.out (by have := HLL.out; omega) hc1 hc2)
          rw [HSE.out] at HSP
          simp only at HSP
          rw [HV2.out] at HSP
          have hne : ¬ ((L.length : Int) + 1 = 0) := by omega
          unfold ptrV at HSP
          clear hX hXB hXn hXs hB1 HS hSA hc1 hc2 hln
          go_wp2_with fail
          refine HSP.out.mono ?_
          rintro e' W2 ⟨rfl, hB2⟩
          have hB : Below w.heap.size w W2 := hBa.trans (hB2.mono hBa.size)
          have hbox := (hB2.block w.heap.size (by omega)).trans hboxa
          have hlt := lt_of_block hbox
          have x0 := blk_cell hbox 0
          have x1 := blk_cell hbox 1
          have x2 := blk_cell hbox 2
          have y0 := blk_free hbox 0
          have y1 := blk_free hbox 1
          have y2 := blk_free hbox 2
          simp at x0 x1 x2
          have HB := Hid.mk hB
          have HBX := Hid.mk hbox
          clear hbox hboxa hBa hB2 hB HSP hlta
          go_wp2
          refine bodyPost_ret (v := .tuple #[.agg #[.pointer (some ⟨locL Ls d, 0, none⟩), .string (mkS p), .pointer none], .int .i64 10]) ?_ rfl ⟨rfl, ?_⟩
          · obtain ⟨z0, z1, z2⟩ := box3_cells HBX.out (.pointer (some ⟨locL Ls d, 0, none⟩)) (.string (mkS p)) (.pointer none) (.cells #[.pointer (some ⟨locL Ls d, 0, none⟩), .string (mkS p), .pointer none] 69)
            simp [results, Tryz.results41, go_sem, z0, z1, z2]
          · exact (box3_below HB.out (Nat.le_refl _) _ _ _).alloc (by have := HB.out.size; simp [World.setCell]; omega) _
        | some q =>
          simp only [Option.isNone_some, Bool.false_eq_true, if_false]
          go_enter Tryz.func41, Tryz.ntmps41
          go_wp2_with fail
          obtain ⟨X, hX⟩ : ∃ X, X = w.alloc (.cells #[.pointer none, .string ⟨#[]⟩, .pointer none] 69) := ⟨_, rfl⟩
          have hXB : Below w.heap.size w X := by rw [hX]; exact (Below.refl _ w).alloc (Nat.le_refl _) _
          have hXn : X.heap[w.heap.size]? = some (.cells #[.pointer none, .string ⟨#[]⟩, .pointer none] 69 (0, 0)) := by rw [hX]; exact blk_new w _
          have hXs : X.heap.size = w.heap.size + 1 := by rw [hX]; simp
          rw [← hX]
          refine (HS.out X).mono ?_
          rintro e' W1 ⟨ao, c, rfl, hSA, hc1, hc2, hB1⟩
          have hBa : Below w.heap.size w W1 := hXB.trans (hB1.mono (by omega))
          have hboxa := (hB1.block w.heap.size (by omega)).trans hXn
          have hlta := lt_of_block hboxa
          have hln : (L ++ [p]).length = L.length + 1 := by simp
          rw [hln] at hSA hc1 ⊢
          have HSP := Hid.mk (spot_any W1 t σ Ls (HT.out.below rfl hBa) ao c L p hSA HL.out (by have := HLL.out; omega) hc1 hc2)
          rw [HSE.out] at HSP
          simp only at HSP
          rw [HV2.out] at HSP
          have hne : ¬ ((L.length : Int) + 1 = 0) := by omega
          unfold ptrV at HSP
          clear hX hXB hXn hXs hB1 HS hSA hc1 hc2 hln
          go_wp2_with fail
          refine HSP.out.mono ?_
          rintro e' W2 ⟨rfl, hB2⟩
          have hB : Below w.heap.size w W2 := hBa.trans (hB2.mono hBa.size)
          have hbox := (hB2.block w.heap.size (by omega)).trans hboxa
          have hlt := lt_of_block hbox
          have x0 := blk_cell hbox 0
          have x1 := blk_cell hbox 1
          have x2 := blk_cell hbox 2
          have y0 := blk_free hbox 0
          have y1 := blk_free hbox 1
          have y2 := blk_free hbox 2
          simp at x0 x1 x2
          have HB := Hid.mk hB
          have HBX := Hid.mk hbox
          clear hbox hboxa hBa hB2 hB HSP hlta
          go_wp2
          refine bodyPost_ret (v := .tuple #[.agg #[.pointer (some ⟨locL Ls d, 0, none⟩), .string (mkS p), .pointer (some q)], .int .i64 0]) ?_ rfl ⟨rfl, ?_⟩
          · obtain ⟨z0, z1, z2⟩ := box3_cells HBX.out (.pointer (some ⟨locL Ls d, 0, none⟩)) (.string (mkS p)) (.pointer (some q)) (.cells #[.pointer (some ⟨locL Ls d, 0, none⟩), .string (mkS p), .pointer (some q)] 69)
            simp [results, Tryz.results41, go_sem, z0, z1, z2]
          · exact (box3_below HB.out (Nat.le_refl _) _ _ _).alloc (by have := HB.out.size; simp [World.setCell]; omega) _
      · have HSE := Hid.mk hse
        have HV : Hid (nmE (er, none) = er) := Hid.mk (by unfold nmE; split <;> simp_all)
        rw [hse]
        simp only [spotV]
        rw [HV.out]
        clear hse HV
        unfold ptrV
        go_enter Tryz.func41, Tryz.ntmps41
        go_wp2_with fail
        obtain ⟨X, hX⟩ : ∃ X, X = w.alloc (.cells #[.pointer none, .string ⟨#[]⟩, .pointer none] 69) := ⟨_, rfl⟩
        have hXB : Below w.heap.size w X := by rw [hX]; exact (Below.refl _ w).alloc (Nat.le_refl _) _
        have hXn : X.heap[w.heap.size]? = some (.cells #[.pointer none, .string ⟨#[]⟩, .pointer none] 69 (0, 0)) := by rw [hX]; exact blk_new w _
        have hXs : X.heap.size = w.heap.size + 1 := by rw [hX]; simp
        rw [← hX]
        refine (HS.out X).mono ?_
        rintro e' W1 ⟨ao, c, rfl, hSA, hc1, hc2, hB1⟩
        have hBa : Below w.heap.size w W1 := hXB.trans (hB1.mono (by omega))
        have hboxa := (hB1.block w.heap.size (by omega)).trans hXn
        have hlta := lt_of_block hboxa
        have hln : (L ++ [p]).length = L.length + 1 := by simp
        rw [hln] at hSA hc1 ⊢
        have HSP := Hid.mk (spot_any W1 t σ Ls (HT.out.below rfl hBa) ao c L p hSA HL.out (by have := HLL.out; omega) hc1 hc2)
        rw [HSE.out] at HSP
        simp only at HSP
        simp only [spotV] at HSP
        have hne : ¬ ((L.length : Int) + 1 = 0) := by omega
        unfold ptrV at HSP
        clear hX hXB hXn hXs hB1 HS hSA hc1 hc2 hln
        go_wp2_with fail
        refine HSP.out.mono ?_
        rintro e' W2 ⟨rfl, hB2⟩
        have hB : Below w.heap.size w W2 := hBa.trans (hB2.mono hBa.size)
        have hbox := (hB2.block w.heap.size (by omega)).trans hboxa
        have hlt := lt_of_block hbox
        have x0 := blk_cell hbox 0
        have x1 := blk_cell hbox 1
        have x2 := blk_cell hbox 2
        have y0 := blk_free hbox 0
        have y1 := blk_free hbox 1
        have y2 := blk_free hbox 2
        simp at x0 x1 x2
        have HB := Hid.mk hB
        have HBX := Hid.mk hbox
        clear hbox hboxa hBa hB2 hB HSP hlta
        go_wp2
        refine bodyPost_ret (v := .tuple #[.agg #[.pointer none, .string ⟨#[]⟩, .pointer none], .int .i64 er]) ?_ rfl ⟨rfl, ?_⟩
        · obtain ⟨z0, z1, z2⟩ := box3_cells HBX.out (.pointer none) (.string ⟨#[]⟩) (.pointer none) (.cells #[.pointer none, .string ⟨#[]⟩, .pointer none] 69)
          simp [results, Tryz.results41, go_sem, z0, z1, z2]
        · exact (box3_below HB.out (Nat.le_refl _) _ _ _).alloc (by have := HB.out.size; simp [World.setCell]; omega) _
end Go.Proofs.YtehaoeclnmelhacGreat
