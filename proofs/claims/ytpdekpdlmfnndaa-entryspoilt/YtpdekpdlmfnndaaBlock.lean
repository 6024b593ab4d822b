/-
  Block of the program.
-/
import Derived.Test.YtpdekpdlmfnndaaEach
namespace Go.Proofs.Ytpdekpdlmfnndaa
open Go Go.Proofs Go.RowKit Go.Shelf
attribute [local go_sem] Oper.semAt_some

theorem make24_run (w : World) : ∃ W1, (Instr.makeSlice 24 (.int .i64 0) (.int .i64 32)).run Try.prog w = .ok (.slice (some ⟨w.heap.size, 0, none⟩) 0 32) W1 ∧ W1.ownsRow w.heap.size 26 2 (.slice (some ⟨w.heap.size, 0, none⟩) 0 32) 0 (Ey []) ∧ Below w.heap.size w W1 ∧ w.heap.size < W1.heap.size := by
  obtain ⟨i0, hi, hz0, hz1, hz2⟩ := info26p
  obtain ⟨W1, h1, h2, h3⟩ := run_make_own (P := Try.prog) w w.heap.size 24 26 i0 (entV 0 noS) 2 Try.underlying24 hi hz0 hz1 .i64 .i64 32 (by rw [hz2]; omega) (by unfold maxLen; omega) (Nat.le_refl _)
  exact ⟨W1, h1, h2, (Below.refl _ w).grown h3 (Nat.le_refl _) (by simp), (h2.lt _ rfl).2⟩
theorem exec_make {ev : Operand → Value} {oi : Oper} {l c : Operand} {t : TypeId} {vl vc v : Value} {W X : World} (ho : oi.op = .makeSlice t l c) (hl : ev l = vl) (hc : ev c = vc) (h : (Instr.makeSlice t vl vc).run Try.prog W = .ok v X) : (execOp ev oi).run Try.prog W = .ok (.value v) X := by
  unfold execOp
  rw [ho]
  simp only [Sem.run_bind, hl, hc, h, Result.andThen_ok]
  rfl
section
variable {F : Fence} {n : Nat} {w : World} {ops : Array Oper} {rest : List Oper} {o : Oper} {a : Act} {Q : Exit → Act → World → Prop}
theorem wpLIn_make (l c : Operand) (t : TypeId) (ho : o.op = .makeSlice t l c) (hw : Region.wanted o (yielded ops a.tmps) = true) (vl vc v : Value) (w' : World) (hl : a.eval l = vl) (hc : a.eval c = vc) (hr : (Instr.makeSlice t vl vc).run Try.prog w = .ok v w') (h : wpListIn F n Try.prog ops Q rest (a.put o.dst v) w') : wpListIn F n Try.prog ops Q (o :: rest) a w :=
  wpLIn_known (by rw [ho]; intro c hc; cases hc) (by simp [Oper.about, ho]) hw _ _ (exec_make ho hl hc hr) h
end

theorem block_short (w : World) (ao : Option Addr) (n c : Nat) (hn : n ≠ 1024) : Calls Try.prog 11 #[.slice ao n c] w fun e w' => e = .returned (.slice none 0 0) ∧ w' = w := by
  have h1 : ((n : Int) == 1024) = false := by simp; omega
  have h2 : ¬ ((n : Int) = 1024) := by omega
  go_enter Try.func11, Try.ntmps11
  go_wp2
  go_ret
  exact ⟨rfl, rfl⟩

/-- Between two rounds: the row, its variable, the iterator's box. -/
structure AI (w : World) (a : Addr) (c : Nat) (xs : List Int) (g B : Nat) (k : Nat) (A : World) : Prop where
  var : A.heap[B]? = some (.cells #[.slice (some ⟨g, 0, none⟩) k 32] 24 (0, 0))
  row : A.ownsRow g 26 2 (.slice (some ⟨g, 0, none⟩) k 32) k (Ey (entsL xs k))
  box : A.heap[B + 1]? = some (.cells #[.slice (some a) 1024 c] 27 (0, 0))
  below : Below g w A
theorem keep_cells {W W' : World} {row : Option Nat} {b : Nat} {c : Array Value} {t : TypeId} {fr : Nat × Nat} (h : W.heap[b]? = some (.cells c t fr)) (hg : W.grownBy W' row) (hr : ∀ r, row = some r → ∃ o : Obj, W.heap[r]? = some o ∧ o.isCells = false) : W'.heap[b]? = some (.cells c t fr) := by
  rw [hg.block b (lt_of_block h) (fun e => ?_), h]
  obtain ⟨o, ho, hc⟩ := hr b e.symm
  rw [h] at ho
  cases ho
  cases hc
theorem AI.at {w : World} {a : Addr} {c : Nat} {xs : List Int} {g B k : Nat} {A A' : World} (h : AI w a c xs g B k A) (hC : ∀ j, IsC A j → A'.heap[j]? = A.heap[j]?) (hB : Below g A A') : AI w a c xs g B k A' :=
  ⟨(hC _ ⟨_, _, _, h.var⟩).trans h.var, owns_at h.row (fun j e => hC j (owns_isC h.row j e)), (hC _ ⟨_, _, _, h.box⟩).trans h.box, h.below.trans hB⟩
theorem AI.grown {w : World} {a : Addr} {c : Nat} {xs : List Int} {g B k : Nat} {A A' : World} {row : Option Nat} (h : AI w a c xs g B k A) (hg : A.grownBy A' row) (hr : ∀ r, row = some r → g ≤ r ∧ ∃ o : Obj, A.heap[r]? = some o ∧ o.isCells = false) : AI w a c xs g B k A' := by
  refine h.at (fun j hj => ?_) ((Below.refl g A).grown hg (Nat.le_of_lt (h.row.lt g rfl).2) (fun r e => (hr r e).1))
  obtain ⟨cc, t, fr, hc⟩ := hj
  rw [keep_cells hc hg (fun r e => (hr r e).2), hc]
/-- append(l, e), where there is room. -/
theorem appende_fits (W : World) (B g n cap : Nat) (L : List (Int × ByteArray)) (i : Int) (s : ByteArray) (hown : W.ownsRow B 26 2 (.slice (some ⟨g, 0, none⟩) n cap) n (Ey L)) (hn : n + 1 ≤ cap) :
    ∃ W', (Builtin.append_ #[24, 24] 24 #[.slice (some ⟨g, 0, none⟩) n cap, .slice (some ⟨W.heap.size, 0, none⟩) 1 1]).run Try.prog (W.alloc (.cells (entC i s).toArray 26)) = .ok (.slice (some ⟨g, 0, none⟩) (n + 1) cap) W' ∧ W'.ownsRow B 26 2 (.slice (some ⟨g, 0, none⟩) (n + 1) cap) (n + 1) (Ey (L ++ [(i, s)])) ∧ Only (fun k => k = g) W W' := by
  obtain ⟨i0, hi, hz0, hz1, hz2⟩ := info26p
  have hnew := blk_new W (.cells (entC i s).toArray 26)
  obtain ⟨W3, hr, hown3, hg3⟩ := run_append_fits (P := Try.prog) (W.alloc (.cells (entC i s).toArray 26)) B 24 24 26 i0 2 Try.underlying24 hi hz1 g n cap (Ey L) (hown.alloc _) ⟨W.heap.size, 0, none⟩ 1 1 (entC i s) rfl (fun j u hj => by
    match j, hj with
    | 0, hj => cases hj; rw [add_at, blk_cell hnew]; rfl
    | 1, hj => cases hj; rw [add_at, blk_cell hnew]; rfl) (entC_one i s) hn
  have e : Ey L ++ entC i s = Ey (L ++ [(i, s)]) := by rw [Ey_append]; simp [Ey]
  rw [e] at hown3
  exact ⟨W3, hr, hown3, ((Only.refl _ W).alloc _).grown hg3 (fun k e => by cases e; exact .inl rfl)⟩
theorem keeps_of_only {S : Nat → Prop} {W W' : World} (h : Only S W W') (hS : ∀ j, S j → IsC W j) : KeepsOthers W W' := by
  refine ⟨h.size, fun k o hk ho => ?_⟩
  rw [h.block k (Array.getElem?_eq_some_iff.1 hk).1 (fun hs => ?_), hk]
  obtain ⟨c, t, fr, hc⟩ := hS k hs
  rw [hk] at hc
  cases hc
  cases ho
/-- A round's end. -/
theorem AI.step {w : World} {a : Addr} {c : Nat} {xs : List Int} {g B k : Nat} {W2 W3 : World} (h : AI w a c xs g B k W2) (hne : g < B) (ho : Only (fun j => j = g) W2 W3) (hown : W3.ownsRow g 26 2 (.slice (some ⟨g, 0, none⟩) (k + 1) 32) (k + 1) (Ey (entsL xs (k + 1)))) :
    KeepsOthers W2 (W3.setCell ⟨B, 0, none⟩ (.slice (some ⟨g, 0, none⟩) (k + 1) 32)) ∧ AI w a c xs g B (k + 1) (W3.setCell ⟨B, 0, none⟩ (.slice (some ⟨g, 0, none⟩) (k + 1) 32)) := by
  have hO : Only (fun j => j = g ∨ j = B) W2 (W3.setCell ⟨B, 0, none⟩ (.slice (some ⟨g, 0, none⟩) (k + 1) 32)) := (ho.mono (fun i _ e => .inl e)).setCell (.inl (.inr rfl)) _
  refine ⟨keeps_of_only hO (fun j e => ?_), ?_, ?_, ?_, ?_⟩
  · rcases e with rfl | rfl
    · exact owns_isC h.row _ rfl
    · exact ⟨_, _, _, h.var⟩
  · have hb : W3.heap[B]? = some (.cells #[.slice (some ⟨g, 0, none⟩) k 32] 24 (0, 0)) := (ho.block B (lt_of_block h.var) (by omega)).trans h.var
    rw [blk_set hb]
    rfl
  · refine owns_at hown (fun j e => ?_)
    have e2 : g = j := by simpa [Value.ownBlock] using e
    exact Below.heap_setCell _ _ _ _ (by show j ≠ B; omega)
  · rw [Below.heap_setCell _ _ _ _ (by show B + 1 ≠ B; omega), ho.block _ (lt_of_block h.box) (by omega)]
    exact h.box
  · exact h.below.trans (hO.below (Nat.le_of_lt (h.row.lt g rfl).2) (fun j e => by omega))

set_option maxRecDepth 100000 in
set_option maxHeartbeats 4000000 in
theorem block_full (w : World) (a : Addr) (c : Nat) (xs : List Int) (h : BAt w (some a) 1024 xs) (hx : ∀ x ∈ xs, 0 ≤ x ∧ x ≤ 255) (hc : 1024 ≤ c) (hc2 : c ≤ 9223372036854775807) : Calls Try.prog 11 #[.slice (some a) 1024 c] w fun e w' => ∃ v, e = .returned v ∧ w'.ownsRow w.heap.size 26 2 v 32 (Ey (entsL xs 32)) ∧ Below w.heap.size w w' := by
  obtain ⟨W1, hr1, ho1, hB1, hs1⟩ := make24_run w
  have HR1 := Hid.mk hr1
  refine (callsIn_wide (n := 5)).1 ?_
  refine callsIn_of_wp_marks Try.func11 rfl trivial ?_ rfl
  simp only [Try.ntmps11, List.size_toArray, List.length_cons, List.length_nil, Nat.reduceAdd, Nat.reduceSub, Array.replicate_succ, Array.replicate_zero, List.push_toArray, List.append_toArray, List.nil_append, List.cons_append]
  clear hr1
  gi_wp2_with (first
    | (refine wpLIn_make _ _ 24 rfl rfl _ _ _ W1 rfl rfl HR1.out ?_)
    | (refine ⟨trivial, ?_⟩; gi_at_call 20; refine (callsIn_wide.2 (each_any _ _ _ _)).mono ?_; rintro e w' ⟨rfl, hw⟩; subst w'))
  obtain ⟨g, hg⟩ : ∃ g, g = w.heap.size := ⟨_, rfl⟩
  obtain ⟨B, hB⟩ : ∃ B, B = W1.heap.size := ⟨_, rfl⟩
  obtain ⟨W0, hW0⟩ : ∃ W0, W0 = (W1.alloc (.cells #[.slice (some ⟨g, 0, none⟩) 0 32] 24)).alloc (.cells #[.slice (some a) 1024 c] 27) := ⟨_, rfl⟩
  rw [← hg] at ho1 hB1 hs1 ⊢
  rw [← hB] at hs1 ⊢
  rw [← hW0]
  have hAI : AI w a c xs g B 0 W0 := by
    have q1 := blk_new W1 (.cells #[.slice (some ⟨g, 0, none⟩) 0 32] 24)
    have q2 := blk_new (W1.alloc (.cells #[.slice (some ⟨g, 0, none⟩) 0 32] 24)) (.cells #[.slice (some a) 1024 c] 27)
    rw [World.size_alloc, ← hB] at q2
    rw [← hB] at q1
    have hbl : Below g W1 W0 := by rw [hW0]; exact ((Below.refl g W1).alloc (by omega) _).alloc (by simp; omega) _
    have hgw : g < W1.heap.size := by omega
    refine ⟨?_, ?_, ?_, hB1.trans hbl⟩
    · rw [hW0, Below.heap_alloc _ _ _ (by simp; omega)]; exact q1
    · refine owns_at ho1 (fun j e => ?_)
      have := (ho1.lt j e).2
      rw [hW0, Below.heap_alloc _ _ _ (by simp; omega), Below.heap_alloc _ _ _ this]
    · rw [hW0]; exact q2
  have hsz0 : W0.heap.size = B + 2 := by rw [hW0]; simp; omega
  have hgB : g < B := hs1
  have hal : a.block < g := by
    obtain ⟨a', e, hl, -⟩ := h.2 (by omega)
    cases e
    omega
  have HG := Hid.mk hg
  have HB := Hid.mk hB
  have HBB : Hid (∀ W, Below g w W → BAt W (some a) 1024 xs) := Hid.mk (fun W hW => h.below (by rw [← hg]; exact hW))
  clear ho1 hB1 hW0 hs1 HR1 hg hB h
  refine wpIn_range_all (gf := 30) (lb := #[.pointer (some ⟨B + 1, 0, none⟩)]) rfl (enters_of Try.func30 (by kernel_rfl) rfl) 32
    (AI w a c xs g B) (fun k A A' row h hg hr => h.grown hg (fun r e => ⟨by have := (hr r e).1; omega, (hr r e).2⟩)) hAI
    (fun k _ vs => vs = eV xs k) (fun k A vs h => by subst h; rfl) ?hit ?round ?done
  case hit =>
    intro l J W hJI hJg hgW hY hJ0
    have hI0 := hJI 0 W hJ0
    exact each_in _ (by omega) l (B + 1) a c xs J W hI0.box (HBB.out W hI0.below) hx hc hc2 hJg
      (fun k A hA => ⟨(hJI k A hA).box.trans hI0.box.symm, ((hJI k A hA).below.block _ hal).trans (hI0.below.block _ hal).symm⟩)
      (fun k A hA hk => hY k A _ hA hk rfl) hJ0
  case round =>
    rintro l k A vs hl hI hk rfl
    have HSN := Hid.mk (entsL_snoc xs k)
    unfold eV
    generalize rdI (blkAt xs k) = i at *
    generalize rdS (blkAt xs k) = s at *
    obtain ⟨X, Y, d, hrX, hrY, hD, hBY, hd⟩ := var26 A i s
    have HRX := Hid.mk hrX
    have HRY := Hid.mk hrY
    have HI := Hid.mk hI
    have HDY := Hid.mk hD
    have HBY := Hid.mk hBY
    clear hrX hrY hI hD hBY hd
    rw [show ((#[11] : Array Tmp).zip #[entV i s]) = #[(11, entV i s)] from by simp]
    simp only [List.foldl_toArray, List.foldl_cons, List.foldl_nil, List.setIfInBounds_toArray, List.set_cons_zero, List.set_cons_succ]
    gi_wp2_with (first
      | (refine wpLIn_new rfl rfl _ X HRX.out ?_)
      | (refine wpLIn_store (.tmp 4) (.tmp 11) rfl rfl _ _ Y rfl rfl HRY.out ?_))
    refine ⟨keeps_of_only (Only.of_new (fun _ => False) HBY.out) (fun j e => e.elim), ?_⟩
    intro o W2 hlo hoc hsz hsame hos htp hout
    have hC : ∀ j, IsC Y j → W2.heap[j]? = Y.heap[j]? := by
      intro j hj
      refine hsame j (fun e => ?_)
      obtain ⟨cc, t, fr, hcc⟩ := hj
      rw [← e, hcc] at hlo
      cases hlo
      cases hoc
    have hgA : g ≤ A.heap.size := Nat.le_of_lt (HI.out.row.lt g rfl).2
    have hIY : AI w a c xs g B k Y := HI.out.at (fun j hj => HBY.out.block j hj.lt) (HBY.out.mono hgA)
    have hI2 : AI w a c xs g B k W2 := hIY.at hC ⟨hos, htp, hout, by omega, fun j hj => hsame j (by omega)⟩
    have hD2 : NAt d i s W2 := (hC d ⟨_, _, _, HDY.out⟩).trans HDY.out
    obtain ⟨W3, hr3, ho3, hon3⟩ := appende_fits W2 g g k 32 _ i s hI2.row (by omega)
    rw [← HSN.out] at ho3
    have hq := (hon3.block B (lt_of_block hI2.var) (by omega)).trans hI2.var
    have hc1 := blk_cell hI2.var 0
    have hq1 := blk_cell hq 0
    have hq2 := blk_free hq 0
    simp at hc1 hq1
    have HFIN := Hid.mk (hI2.step hgB hon3 ho3)
    have HD2 := Hid.mk hD2
    have HR3 := Hid.mk hr3
    clear hC hIY hI2 hD2 hr3 ho3 hon3 hlo hsz hsame hos htp hout hq HI HDY HBY HSN HRX HRY hgA
    gi_wp2_with (first
      | (refine wpLIn_load (.tmp 4) rfl rfl d i s rfl HD2.out ?_)
      | (refine wpLIn_one (.tmp 13) rfl rfl i s _ _ rfl rfl rfl ?_)
      | (gi_at_builtin; refine wpLIn_append rfl (.tmp 12) (.tmp 14) 24 rfl _ _ _ _ rfl rfl HR3.out ?_))
    exact HFIN.out
  case done =>
    rintro D W hD hI hK
    have hcell := blk_cell hI.var 0
    simp at hcell
    have HI := Hid.mk hI
    clear hI
    gi_wp2
    refine ⟨by simp, .inl ⟨_, _, rfl, run_takeDeferred hK, ?_⟩⟩
    have hG := HI.out.grown (A' := W.putObj D (.deferred none)) (grownBy_putObj' _ D _) (fun r e => by cases e; exact ⟨by omega, _, hK, rfl⟩)
    rw [← HG.out]
    exact ⟨_, results_tmp rfl _ _ _, .slice (some ⟨g, 0, none⟩) 32 32, rfl, hG.row, hG.below⟩
end Go.Proofs.Ytpdekpdlmfnndaa
