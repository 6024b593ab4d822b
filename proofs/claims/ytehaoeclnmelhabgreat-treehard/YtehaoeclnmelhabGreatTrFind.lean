/-
  find, within: where parts lead.
-/
import Derived.Test.YtehaoeclnmelhabGreatTrRange
import Derived.LaidEqlPtr
namespace Go.Proofs.YtehaoeclnmelhabGreat
open Go Go.Proofs Go.RowKit Go.Shelf
attribute [local go_sem] Oper.semAt_some

def lastW (f : Nat → Option Nat × Int) (pre : List Nat) : Option Nat × Int := (pre.getLast?.map f).getD (none, 0)
theorem lastW_snoc (f : Nat → Option Nat × Int) (pre : List Nat) (x : Nat) : lastW f (pre ++ [x]) = f x := by simp [lastW]
structure FI (w : World) (loc : Nat → Nat) (f : Nat → Option Nat × Int) (pre : List Nat) (W : World) : Prop where
  r0 : W.heap[w.heap.size]? = some (.cells #[optV loc (lastW f pre).1] 52 (0, 0))
  r1 : W.heap[w.heap.size + 1]? = some (.cells #[.int .i64 (lastW f pre).2] 28 (0, 0))
  below : Below w.heap.size w W
  size : w.heap.size + 4 ≤ W.heap.size
theorem FI_own (w : World) (loc : Nat → Nat) (f : Nat → Option Nat × Int) : OwnFrom (w.heap.size + 4) (FI w loc f) := by
  intro pre W W' row h hg hr
  exact ⟨keep_cells h.r0 hg (fun r e => (hr r e).2), keep_cells h.r1 hg (fun r e => (hr r e).2), h.below.grown hg h.below.size (fun k e => by have := (hr k e).1; omega), Nat.le_trans h.size hg.size⟩
theorem last_way (N : List Nd) (L : List (List UInt8)) : lastW (wayG N L) (List.range' 0 (wayL N 0 L).length) = wayE N 0 L := by
  have hl := wayL_last N 0 L
  have hp := wayL_pos N 0 L
  obtain ⟨n, hn⟩ : ∃ n, (wayL N 0 L).length = n + 1 := ⟨_, (Nat.succ_pred_eq_of_pos hp).symm⟩
  rw [hn, ← range'_snoc, lastW_snoc, Nat.zero_add]
  rw [List.getLast?_eq_getElem?, hn, Nat.add_sub_cancel] at hl
  unfold wayG
  rw [List.getD, hl]
  rfl
set_option maxRecDepth 100000 in
set_option maxHeartbeats 4000000 in
theorem find_any (w : World) (t : Nat) (σ : Tr) (Ls : List Lay) (hT : TrAt w t σ Ls) (ao : Option Addr) (c : Nat) (L : List (List UInt8)) (hS : SAt w ao L.length L) (hL : ∀ p ∈ L, p.length ≤ 1000) (hll : L.length ≤ 16777216) :
    Calls Tryz.prog 41 #[ptrV t, .slice ao L.length c] w fun e w' => e = .returned (.tuple #[optV (locL Ls) (wayE σ.nodes 0 L).1, .int .i64 (wayE σ.nodes 0 L).2]) ∧ Below w.heap.size w w' := by
  have mixed : Tryz.prog.follows Departure.mixedOrders = true := by kernel_rfl
  refine (callsIn_wide (n := 5)).1 ?_
  refine callsIn_of_wp_marks Tryz.func41 rfl trivial ?_ rfl
  simp only [Tryz.ntmps41, List.size_toArray, List.length_cons, List.length_nil, Nat.reduceAdd, Nat.reduceSub, Array.replicate_succ, Array.replicate_zero, List.push_toArray, List.append_toArray, List.nil_append, List.cons_append]
  generalize hlen : L.length = m at *
  have HWA := Hid.mk (fun W => way_any W t ao m c)
  have HSQ : Hid (∀ (W0 : World) (B : Nat), Below w.heap.size w W0 → W0.heap[B]? = some (.cells #[ptrV t] 23 (0, 0)) → W0.heap[B + 1]? = some (.cells #[.slice ao m c] 30 (0, 0)) → _) := Hid.mk (fun W0 B (hB : Below w.heap.size w W0) h1 h2 => way_stops 4 (by omega) B t σ Ls ao c L hL (by omega) w W0 hB h1 (by rw [hlen]; exact h2) hT (by rw [hlen]; exact hS))
  clear hS hL hll hT
  unfold ptrV at HWA
  unfold ptrV
  gi_wp2_with (refine ⟨trivial, ?_⟩; gi_at_call 60; refine (callsIn_wide.2 (HWA.out _)).mono ?_; rintro e w' ⟨rfl, hw⟩; subst w')
  have q0 := blk_new w (.cells #[.pointer none] 52)
  have q1 := blk_new (w.alloc (.cells #[.pointer none] 52)) (.cells #[.int .i64 0] 28)
  have q2 := blk_new ((w.alloc (.cells #[.pointer none] 52)).alloc (.cells #[.int .i64 0] 28)) (.cells #[.pointer (some ⟨t, 0, none⟩)] 23)
  have q3 := blk_new (((w.alloc (.cells #[.pointer none] 52)).alloc (.cells #[.int .i64 0] 28)).alloc (.cells #[.pointer (some ⟨t, 0, none⟩)] 23)) (.cells #[.slice ao m c] 30)
  simp only [World.size_alloc] at q1 q2 q3
  obtain ⟨W0, hW0⟩ : ∃ W0, W0 = (((w.alloc (.cells #[.pointer none] 52)).alloc (.cells #[.int .i64 0] 28)).alloc (.cells #[.pointer (some ⟨t, 0, none⟩)] 23)).alloc (.cells #[.slice ao m c] 30) := ⟨_, rfl⟩
  have z0 : W0.heap[w.heap.size]? = some (.cells #[.pointer none] 52 (0, 0)) := by
    rw [hW0, Below.heap_alloc _ _ _ (by simp; omega), Below.heap_alloc _ _ _ (by simp; omega), Below.heap_alloc _ _ _ (by simp)]; exact q0
  have z1 : W0.heap[w.heap.size + 1]? = some (.cells #[.int .i64 0] 28 (0, 0)) := by
    rw [hW0, Below.heap_alloc _ _ _ (by simp [World.size_alloc] <;> omega), Below.heap_alloc _ _ _ (by simp)]; exact q1
  have z2 : W0.heap[w.heap.size + 1 + 1]? = some (.cells #[.pointer (some ⟨t, 0, none⟩)] 23 (0, 0)) := by
    rw [hW0, Below.heap_alloc _ _ _ (by simp)]; exact q2
  have z3 : W0.heap[w.heap.size + 1 + 1 + 1]? = some (.cells #[.slice ao m c] 30 (0, 0)) := by rw [hW0]; exact q3
  have zs : W0.heap.size = w.heap.size + 4 := by rw [hW0]; simp
  have zb : Below w.heap.size w W0 := by
    rw [hW0]
    exact ((((Below.refl _ w).alloc (Nat.le_refl _) _).alloc (by simp) _).alloc (by simp; omega) _).alloc (by simp; omega) _
  rw [← hW0]
  clear q0 q1 q2 q3 hW0
  have hseq := HSQ.out W0 (w.heap.size + 1 + 1) zb z2 z3
  refine range_assigned rfl (by omega) (gf := 74) (lb := #[.pointer (some ⟨w.heap.size + 1 + 1, 0, none⟩), .pointer (some ⟨w.heap.size + 1 + 1 + 1, 0, none⟩)]) rfl trivial (enters_of Tryz.func74 (by kernel_rfl) rfl)
    hseq belowK_t (belowK_b zb.size) (Below.refl _ _) (fun _ => rfl) (FI w (locL Ls) (wayG σ.nodes L)) (by rw [zs]; exact FI_own w (locL Ls) _) ⟨z0, z1, zb, by omega⟩ ?round ?skip ?done
  case round =>
    intro l pre x W K hI hlen hK
    have c0 := blk_cell hI.r0 0
    have f0 := blk_free hI.r0 0
    have c1 := blk_cell hI.r1 0
    have f1 := blk_free hI.r1 0
    simp at c0 c1
    have HI := Hid.mk hI
    have HK := Hid.mk hK
    have hne : ¬ w.heap.size = w.heap.size + 1 := by omega
    clear hI hK hlen hseq z0 z1 z2 z3 HSQ HWA
    have fin : ∀ v, v = optV (locL Ls) (wayG σ.nodes L x).1 → KeepsFrom W0.heap.size W ((W.setCell ⟨w.heap.size, 0, none⟩ v).setCell ⟨w.heap.size + 1, 0, none⟩ (.int .i64 (wayG σ.nodes L x).2)) ∧ Below w.heap.size W ((W.setCell ⟨w.heap.size, 0, none⟩ v).setCell ⟨w.heap.size + 1, 0, none⟩ (.int .i64 (wayG σ.nodes L x).2)) ∧ FI w (locL Ls) (wayG σ.nodes L) (pre ++ [x]) ((W.setCell ⟨w.heap.size, 0, none⟩ v).setCell ⟨w.heap.size + 1, 0, none⟩ (.int .i64 (wayG σ.nodes L x).2)) := by
      intro v hv
      have hI := HI.out
      refine ⟨((KeepsOthers.setCell _ _ _).trans (KeepsOthers.setCell _ _ _)).from _, ((Below.refl _ W).setCell (p := ⟨w.heap.size, 0, none⟩) (Nat.le_refl _) _).setCell (p := ⟨w.heap.size + 1, 0, none⟩) (Nat.le_succ _) _, ?_, ?_, (hI.below.setCell (p := ⟨w.heap.size, 0, none⟩) (Nat.le_refl _) _).setCell (p := ⟨w.heap.size + 1, 0, none⟩) (Nat.le_succ _) _, by simpa [World.setCell] using hI.size⟩
      · rw [Below.heap_setCell _ _ _ _ (by simp), blk_set hI.r0, lastW_snoc, hv]
        simp
      · rw [blk_set (c := #[.int .i64 (lastW (wayG σ.nodes L) pre).2]) (by rw [Below.heap_setCell _ _ _ _ (by simp)]; exact hI.r1), lastW_snoc]
        simp
    have FIN := Hid.mk fin
    clear fin
    generalize wayG σ.nodes L x = y at *
    obtain ⟨xo, xe⟩ := y
    dsimp only [wayV]
    cases xo with
    | none =>
      unfold optV
      gi_wp2
      obtain ⟨g1, g2, g3⟩ := FIN.out _ rfl
      exact HK.out _ _ g1 g2 g3
    | some q =>
      unfold optV ptrV
      gi_wp2
      obtain ⟨g1, g2, g3⟩ := FIN.out _ rfl
      exact HK.out _ _ g1 g2 g3
  case skip =>
    intro F' m' R b W h
    gi_wp2
    exact h
  case done =>
    rintro D xs W hD rfl hI hK
    have hDw : w.heap.size ≤ D := by omega
    have e1 := last_way σ.nodes L
    have r0 := hI.r0
    have r1 := hI.r1
    rw [e1] at r0 r1
    have m0 := blk_cell r0 0
    have m1 := blk_cell r1 0
    simp at m0 m1
    have HB := Hid.mk hI.below
    clear hI hseq z0 z1 z2 z3 HSQ HWA e1 zb r0 r1
    gi_wp2
    gi_region
    gi_wp2
    have hK' : W.drew.heap[D]? = some (.deferred (some [])) := hK
    refine ⟨by simp, .inl ⟨_, _, rfl, run_takeDeferred hK', ?_⟩⟩
    refine ⟨.tuple #[optV (locL Ls) (wayE σ.nodes 0 L).1, .int .i64 (wayE σ.nodes 0 L).2], ?_, rfl, ?_⟩
    · simp [results, Tryz.f41, go_sem]
    · exact HB.out.drew.trans (belowK_b (w := w) (Nat.le_refl _) W.drew D _ _ hDw hK' rfl rfl)
/-- Is a node among those on the way? -/
def onWay (N : List Nd) (L : List (List UInt8)) (j : Nat) : Bool := (wayL N 0 L).any (fun x => x.1 = some j)
structure NI (w : World) (loc : Nat → Nat) (f : Nat → Option Nat × Int) (r : Nat) (pre : List Nat) (W : World) : Prop where
  no : ∀ x ∈ pre, optV loc (f x).1 ≠ ptrV r
  r0 : W.heap[w.heap.size]? = some (.cells #[ptrV r] 52 (0, 0))
  r1 : W.heap[w.heap.size + 1]? = some (.cells #[.bool false] 4 (0, 0))
  below : Below w.heap.size w W
  size : w.heap.size + 4 ≤ W.heap.size
structure NX (w : World) (loc : Nat → Nat) (f : Nat → Option Nat × Int) (r : Nat) (c : Code) (pre : List Nat) (W : World) : Prop where
  ret : c = .ret
  yes : ∃ x ∈ pre, optV loc (f x).1 = ptrV r
  r1 : W.heap[w.heap.size + 1]? = some (.cells #[.bool true] 4 (0, 0))
  below : Below w.heap.size w W
  size : w.heap.size + 4 ≤ W.heap.size
theorem NI_own (w : World) (loc : Nat → Nat) (f : Nat → Option Nat × Int) (r : Nat) : OwnFrom (w.heap.size + 4) (NI w loc f r) := by
  intro pre W W' row h hg hr
  exact ⟨h.no, keep_cells h.r0 hg (fun r e => (hr r e).2), keep_cells h.r1 hg (fun r e => (hr r e).2), h.below.grown hg h.below.size (fun k e => by have := (hr k e).1; omega), Nat.le_trans h.size hg.size⟩
theorem NX_own (w : World) (loc : Nat → Nat) (f : Nat → Option Nat × Int) (r : Nat) (c : Code) : OwnFrom (w.heap.size + 4) (NX w loc f r c) := by
  intro pre W W' row h hg hr
  exact ⟨h.ret, h.yes, keep_cells h.r1 hg (fun r e => (hr r e).2), h.below.grown hg h.below.size (fun k e => by have := (hr k e).1; omega), Nat.le_trans h.size hg.size⟩
theorem foot_apart {Ls : List Lay} (h : (Ls.flatMap Lay.foot).Nodup) {i j : Nat} {A B : Lay} (hi : Ls[i]? = some A) (hj : Ls[j]? = some B) {k : Nat} (h1 : k ∈ A.foot) (h2 : k ∈ B.foot) : i = j := by
  induction Ls generalizing i j with
  | nil => simp at hi
  | cons L Ls ih =>
    rw [List.flatMap_cons, List.nodup_append] at h
    obtain ⟨_, ha, hd⟩ := h
    cases i with
    | zero =>
      cases j with
      | zero => rfl
      | succ j =>
        simp at hi hj
        subst hi
        exact absurd rfl (hd k h1 k (List.mem_flatMap.2 ⟨B, List.mem_of_getElem? hj, h2⟩))
    | succ i =>
      cases j with
      | zero =>
        simp at hi hj
        subst hj
        exact absurd rfl (hd k h2 k (List.mem_flatMap.2 ⟨A, List.mem_of_getElem? hi, h1⟩))
      | succ j =>
        simp at hi hj
        rw [ih ha hi hj]
theorem TrAt.inj {W : World} {t : Nat} {σ : Tr} {Ls : List Lay} (h : TrAt W t σ Ls) {i j : Nat} (hi : i < σ.nodes.length) (hj : j < σ.nodes.length) (e : locL Ls i = locL Ls j) : i = j := by
  obtain ⟨A, _, a1, _, _, a2⟩ := h.get hi
  obtain ⟨B, _, b1, _, _, b2⟩ := h.get hj
  refine foot_apart (List.nodup_cons.1 h.apart).2 a1 b1 (k := A.b) A.b_foot ?_
  rw [← a2, e, b2]
  exact B.b_foot
theorem TrAt.eqv {W : World} {t : Nat} {σ : Tr} {Ls : List Lay} (h : TrAt W t σ Ls) {o : Option Nat} (ho : ∀ i, o = some i → i < σ.nodes.length) {j : Nat} (hj : j < σ.nodes.length) : optV (locL Ls) o = ptrV (locL Ls j) ↔ o = some j := by
  cases o with
  | none => simp [optV, ptrV]
  | some i =>
    simp only [optV, ptrV, Value.pointer.injEq, Option.some.injEq, Addr.mk.injEq, and_true]
    exact ⟨fun e => h.inj (ho i rfl) hj e, fun e => by rw [e]⟩
theorem way_lt {W : World} {t : Nat} {σ : Tr} {Ls : List Lay} (h : TrAt W t σ Ls) (L : List (List UInt8)) {i : Nat} (hi : i < σ.nodes.length) : ∀ x ∈ wayL σ.nodes i L, ∀ q, x.1 = some q → q < σ.nodes.length := by
  induction L generalizing i with
  | nil =>
    intro x hx q hq
    simp [wayL] at hx
    subst hx
    cases hq
    exact hi
  | cons p r ih =>
    intro x hx q hq
    obtain ⟨d, hd⟩ : ∃ d, σ.nodes[i]? = some d := ⟨_, List.getElem?_eq_getElem hi⟩
    have base : ∀ e, x ∈ [(some i, (0 : Int)), (none, e)] → q < σ.nodes.length := by
      intro e hm
      simp at hm
      rcases hm with rfl | rfl
      · cases hq; exact hi
      · cases hq
    cases d with
    | file l z b => rw [(way_file r hd).1] at hx; exact base _ hx
    | dir l z s =>
      cases hl : lookS s p with
      | none => rw [(way_none r hd hl).1] at hx; exact base _ hx
      | some j =>
        rw [(way_dir r hd hl).1] at hx
        rcases List.mem_cons.1 hx with rfl | hx
        · cases hq; exact hi
        · exact ih (look_ref h hd hl) x hx q hq
theorem way_valid {W : World} {t : Nat} {σ : Tr} {Ls : List Lay} (h : TrAt W t σ Ls) (L : List (List UInt8)) (k : Nat) : ∀ q, (wayG σ.nodes L k).1 = some q → q < σ.nodes.length := by
  intro q hq
  rcases Nat.lt_or_ge k (wayL σ.nodes 0 L).length with hk | hk
  · have hg : wayG σ.nodes L k = (wayL σ.nodes 0 L)[k] := by unfold wayG; rw [List.getD, List.getElem?_eq_getElem hk]; rfl
    rw [hg] at hq
    refine way_lt h L ?_ _ (List.getElem_mem hk) q hq
    obtain ⟨_, _, _, h0⟩ := h.root
    exact (List.getElem?_eq_some_iff.1 h0).1
  · have hg : wayG σ.nodes L k = (none, 0) := by unfold wayG; rw [List.getD, List.getElem?_eq_none hk]; rfl
    rw [hg] at hq
    cases hq
theorem infoNode3 : (Tryz.prog.info? 66).map (fun i => i.size) = some 6 := by kernel_rfl
theorem infoNode2 : ∃ j, Tryz.prog.info? 66 = some j ∧ j.size ≠ 0 := by
  cases h : Tryz.prog.info? 66 with
  | none => have := infoNode3; rw [h] at this; cases this
  | some j => have := infoNode3; rw [h] at this; simp at this; exact ⟨j, rfl, by omega⟩
theorem run_eql_self (W : World) (a : Addr) : (binOp .eql 52 (.pointer (some a)) (.pointer (some a))).run Tryz.prog W = .ok (.bool true) W := by
  obtain ⟨j, hj, _⟩ := infoNode2
  exact run_eql_ptr_same W a Tryz.underlying52 hj
theorem run_eql_nil (W : World) (a : Addr) : (binOp .eql 52 (.pointer none) (.pointer (some a))).run Tryz.prog W = .ok (.bool false) W := by kernel_rfl
set_option maxRecDepth 100000 in
set_option maxHeartbeats 4000000 in
theorem within_any2 (w : World) (t : Nat) (σ : Tr) (Ls : List Lay) (hT : TrAt w t σ Ls) (ao : Option Addr) (c : Nat) (L : List (List UInt8)) (hS : SAt w ao L.length L) (hL : ∀ p ∈ L, p.length ≤ 1000) (hll : L.length ≤ 16777216) (j : Nat) (hj : j < σ.nodes.length) :
    Calls Tryz.prog 50 #[ptrV t, .slice ao L.length c, ptrV (locL Ls j)] w fun e w' => e = .returned (.bool (onWay σ.nodes L j)) ∧ Below w.heap.size w w' := by
  refine (callsIn_wide (n := 5)).1 ?_
  refine callsIn_of_wp_marks Tryz.func50 rfl trivial ?_ rfl
  simp only [Tryz.ntmps50, List.size_toArray, List.length_cons, List.length_nil, Nat.reduceAdd, Nat.reduceSub, Array.replicate_succ, Array.replicate_zero, List.push_toArray, List.append_toArray, List.nil_append, List.cons_append]
  generalize hlen : L.length = m at *
  have HWA := Hid.mk (fun W => way_any W t ao m c)
  have HSQ : Hid (∀ (W0 : World) (B : Nat), Below w.heap.size w W0 → W0.heap[B]? = some (.cells #[ptrV t] 23 (0, 0)) → W0.heap[B + 1]? = some (.cells #[.slice ao m c] 30 (0, 0)) → _) := Hid.mk (fun W0 B (hB : Below w.heap.size w W0) h1 h2 => way_stops 4 (by omega) B t σ Ls ao c L hL (by omega) w W0 hB h1 (by rw [hlen]; exact h2) hT (by rw [hlen]; exact hS))
  have HT := Hid.mk hT
  clear hS hL hll hT
  unfold ptrV at HWA
  unfold ptrV
  gi_wp2_with (refine ⟨trivial, ?_⟩; gi_at_call 60; refine (callsIn_wide.2 (HWA.out _)).mono ?_; rintro e w' ⟨rfl, hw⟩; subst w')
  obtain ⟨r, hr⟩ : ∃ r, locL Ls j = r := ⟨_, rfl⟩
  rw [hr]
  have q0 := blk_new w (.cells #[.pointer (some ⟨r, 0, none⟩)] 52)
  have q1 := blk_new (w.alloc (.cells #[.pointer (some ⟨r, 0, none⟩)] 52)) (.cells #[.bool false] 4)
  have q2 := blk_new ((w.alloc (.cells #[.pointer (some ⟨r, 0, none⟩)] 52)).alloc (.cells #[.bool false] 4)) (.cells #[.pointer (some ⟨t, 0, none⟩)] 23)
  have q3 := blk_new (((w.alloc (.cells #[.pointer (some ⟨r, 0, none⟩)] 52)).alloc (.cells #[.bool false] 4)).alloc (.cells #[.pointer (some ⟨t, 0, none⟩)] 23)) (.cells #[.slice ao m c] 30)
  simp only [World.size_alloc] at q1 q2 q3
  obtain ⟨W0, hW0⟩ : ∃ W0, W0 = (((w.alloc (.cells #[.pointer (some ⟨r, 0, none⟩)] 52)).alloc (.cells #[.bool false] 4)).alloc (.cells #[.pointer (some ⟨t, 0, none⟩)] 23)).alloc (.cells #[.slice ao m c] 30) := ⟨_, rfl⟩
  have z0 : W0.heap[w.heap.size]? = some (.cells #[.pointer (some ⟨r, 0, none⟩)] 52 (0, 0)) := by
    rw [hW0, Below.heap_alloc _ _ _ (by simp; omega), Below.heap_alloc _ _ _ (by simp; omega), Below.heap_alloc _ _ _ (by simp)]; exact q0
  have z1 : W0.heap[w.heap.size + 1]? = some (.cells #[.bool false] 4 (0, 0)) := by
    rw [hW0, Below.heap_alloc _ _ _ (by simp [World.size_alloc] <;> omega), Below.heap_alloc _ _ _ (by simp)]; exact q1
  have z2 : W0.heap[w.heap.size + 1 + 1]? = some (.cells #[.pointer (some ⟨t, 0, none⟩)] 23 (0, 0)) := by
    rw [hW0, Below.heap_alloc _ _ _ (by simp)]; exact q2
  have z3 : W0.heap[w.heap.size + 1 + 1 + 1]? = some (.cells #[.slice ao m c] 30 (0, 0)) := by rw [hW0]; exact q3
  have zs : W0.heap.size = w.heap.size + 4 := by rw [hW0]; simp
  have zb : Below w.heap.size w W0 := by
    rw [hW0]
    exact ((((Below.refl _ w).alloc (Nat.le_refl _) _).alloc (by simp) _).alloc (by simp; omega) _).alloc (by simp; omega) _
  rw [← hW0]
  clear q0 q1 q2 q3 hW0
  have hseq := HSQ.out W0 (w.heap.size + 1 + 1) zb z2 z3
  have HR := Hid.mk hr
  clear hr
  refine wpIn_rangeFunc_ownF rfl (by omega) (gf := 74) (lb := #[.pointer (some ⟨w.heap.size + 1 + 1, 0, none⟩), .pointer (some ⟨w.heap.size + 1 + 1 + 1, 0, none⟩)]) rfl trivial (enters_of Tryz.func74 (by kernel_rfl) rfl)
    hseq belowK_t (belowK_b zb.size) (Below.refl _ _) (fun _ => rfl) (NI w (locL Ls) (wayG σ.nodes L) r) (NX w (locL Ls) (wayG σ.nodes L) r) (by rw [zs]; exact NI_own w (locL Ls) _ r) (by rw [zs]; exact NX_own w (locL Ls) _ r) ⟨fun x hx => (by cases hx), z0, z1, zb, by omega⟩
    (fun x => { tmps := #[.pointer (some ⟨t, 0, none⟩), .slice ao m c, .pointer (some ⟨r, 0, none⟩), undef, undef, .pointer (some ⟨w.heap.size, 0, none⟩), .pointer (some ⟨w.heap.size + 1, 0, none⟩), optV (locL Ls) (wayG σ.nodes L x).1, .pointer (some ⟨t, 0, none⟩), .slice ao m c,
      .func (.func 74) #[] #[.pointer (some ⟨w.heap.size + 1 + 1, 0, none⟩), .pointer (some ⟨w.heap.size + 1 + 1 + 1, 0, none⟩)], optV (locL Ls) (wayG σ.nodes L x).1, .int .i64 (wayG σ.nodes L x).2, undef, undef, undef], defers := [] }) ?assign ?body ?done ?stop
  case assign =>
    intro l x W K hK
    dsimp only [wayV]
    gi_wp2
    exact hK
  case body =>
    rintro lp pre x W hI hlen
    have c0 := blk_cell hI.r0 0
    have c1 := blk_cell hI.r1 0
    have f1 := blk_free hI.r1 0
    simp at c0 c1
    unfold ptrV at c0
    have HI := Hid.mk hI
    have HXV : Hid (∀ q, (wayG σ.nodes L x).1 = some q → q < σ.nodes.length) := Hid.mk (way_valid HT.out L x)
    have HT1 := Hid.mk (HT.out.below rfl hI.below)
    clear hI hlen hseq z0 z1 z2 z3 HSQ HWA
    by_cases he : optV (locL Ls) (wayG σ.nodes L x).1 = ptrV r
    · have HE := Hid.mk he
      have hcmp := run_eql_self W ⟨r, 0, none⟩
      skip
      rw [he]
      unfold ptrV
      clear he
      gi_wp2
      have hI := HI.out
      refine ⟨KeepsOthers.setCell _ _ _, rfl, ⟨x, by simp, HE.out⟩, ?_, hI.below.setCell (p := ⟨w.heap.size + 1, 0, none⟩) (Nat.le_succ _) _, by simpa [World.setCell] using hI.size⟩
      rw [blk_set hI.r1]
      simp
    · have HE := Hid.mk he
      have FIN : Hid (KeepsOthers W W ∧ Below w.heap.size W W ∧ NI w (locL Ls) (wayG σ.nodes L) r (pre ++ [x]) W) := Hid.mk ⟨KeepsOthers.refl _, Below.refl _ _, ⟨fun y hy => by
        rcases List.mem_append.1 hy with hy | hy
        · exact HI.out.no y hy
        · rw [List.mem_singleton.1 hy]; exact HE.out, HI.out.r0, HI.out.r1, HI.out.below, HI.out.size⟩⟩
      skip
      generalize wayG σ.nodes L x = y at *
      obtain ⟨xo, xe⟩ := y
      cases xo with
      | none =>
        unfold optV
        clear he
        have hcmp := run_eql_nil W ⟨r, 0, none⟩
        gi_wp2
        exact FIN.out
      | some q =>
        have hq : ¬ locL Ls q = r := fun e => he (by simp [optV, ptrV, e])
        obtain ⟨A, da, a1, a2, a3, a4⟩ := HT1.out.get (HXV.out q rfl)
        obtain ⟨B, db, b1, b2, b3, b4⟩ := HT1.out.get hj
        obtain ⟨_, _, _, ha⟩ := a3.head
        obtain ⟨_, _, _, hb⟩ := b3.head
        rw [← a4] at ha
        rw [← b4, HR.out] at hb
        obtain ⟨jn, hjn, hsz⟩ := infoNode2
        have hcmp := run_eql_ptr_other (P := Tryz.prog) (tp := 52) W (a := ⟨locL Ls q, 0, none⟩) (b := ⟨r, 0, none⟩) Tryz.underlying52 hjn hsz (fun e => hq (congrArg Addr.block e)) ha hb
        unfold optV ptrV
        clear he a1 a2 a3 a4 b1 b2 b3 b4 ha hb hq hjn hsz
        gi_wp2
        exact FIN.out
  case done =>
    rintro D xs W hD rfl hI hK
    have hDw : w.heap.size ≤ D := by omega
    have e1 : onWay σ.nodes L j = false := by
      unfold onWay
      rw [List.any_eq_false]
      intro x hx h
      have h2 := of_decide_eq_true h
      obtain ⟨k, hk, ek⟩ := List.getElem_of_mem hx
      have hg : wayG σ.nodes L k = x := by unfold wayG; rw [List.getD, List.getElem?_eq_getElem hk, ek]; rfl
      refine hI.no k (by simp [List.mem_range']; exact hk) ?_
      rw [hg, h2, ← HR.out]
      rfl
    have HV := Hid.mk e1
    have m1 := blk_cell hI.r1 0
    have f1 := blk_free hI.r1 0
    simp at m1
    have HI := Hid.mk hI
    clear hI hseq z0 z1 z2 z3 HSQ HWA e1 zb
    gi_wp2
    have hI := HI.out
    have hb1 : (W.setCell ⟨w.heap.size + 1, 0, none⟩ (.bool false)).heap[w.heap.size + 1]? = some (.cells #[.bool false] 4 (0, 0)) := by rw [blk_set hI.r1]; rfl
    have hK' : (W.setCell ⟨w.heap.size + 1, 0, none⟩ (.bool false)).heap[D]? = some (.deferred (some [])) := (KeepsOthers.setCell _ _ _).same D _ hK rfl
    have hBl : Below w.heap.size w (W.setCell ⟨w.heap.size + 1, 0, none⟩ (.bool false)) := hI.below.setCell (p := ⟨w.heap.size + 1, 0, none⟩) (Nat.le_succ _) _
    generalize W.setCell ⟨w.heap.size + 1, 0, none⟩ (.bool false) = Y at *
    have m2 : Y.cell? ⟨w.heap.size + 1, 0, none⟩ = some (.bool false) := by rw [blk_cell hb1]; rfl
    have hnc : ∀ r, some D = some r → ∃ o : Obj, Y.heap[r]? = some o ∧ o.isCells = false := fun r e => by cases e; exact ⟨_, hK', rfl⟩
    have c1 := cell_kept m2 (grownBy_putObj' _ D (.deferred none)) hnc
    refine ⟨by simp, .inl ⟨_, _, rfl, run_takeDeferred hK', ?_⟩⟩
    refine ⟨.bool false, ?_, by rw [HV.out], hBl.trans (belowK_b (w := w) (Nat.le_refl _) Y D _ _ hDw hK' rfl rfl)⟩
    simp [results, Tryz.f50, go_sem, c1]
  case stop =>
    rintro D c' pre W hD ⟨k, hk, hpre⟩ hX hK
    have hDw : w.heap.size ≤ D := by omega
    have hret := hX.ret
    subst hret
    have e1 : onWay σ.nodes L j = true := by
      unfold onWay
      rw [List.any_eq_true]
      obtain ⟨x, hx, h⟩ := hX.yes
      have hxl : x < (wayL σ.nodes 0 L).length := by
        rw [hpre] at hx
        simp [List.mem_range'] at hx
        omega
      rw [← HR.out] at h
      have h2 := (HT.out.eqv (way_valid HT.out L x) hj).1 h
      refine ⟨(wayL σ.nodes 0 L)[x], List.getElem_mem hxl, decide_eq_true ?_⟩
      have hg : wayG σ.nodes L x = (wayL σ.nodes 0 L)[x] := by unfold wayG; rw [List.getD, List.getElem?_eq_getElem hxl]; rfl
      rw [← hg]
      exact h2
    have HV := Hid.mk e1
    have m1 : W.cell? ⟨w.heap.size + 1, 0, none⟩ = some (.bool true) := by rw [blk_cell hX.r1]; rfl
    have HX := Hid.mk hX
    clear hX hseq z0 z1 z2 z3 HSQ HWA e1 zb hpre
    gi_wp2
    have hnc : ∀ r, some D = some r → ∃ o : Obj, W.heap[r]? = some o ∧ o.isCells = false := fun r e => by cases e; exact ⟨_, hK, rfl⟩
    have c1 := cell_kept m1 (grownBy_putObj' _ D (.deferred none)) hnc
    refine ⟨by simp, .inl ⟨_, _, rfl, run_takeDeferred hK, ?_⟩⟩
    refine ⟨.bool true, ?_, by rw [HV.out], HX.out.below.trans (belowK_b (w := w) (Nat.le_refl _) W D _ _ hDw hK rfl rfl)⟩
    simp [results, Tryz.f50, go_sem, c1]
end Go.Proofs.YtehaoeclnmelhabGreat
