/-
  inodeOf of the program.
-/
import Derived.Test.YtnajpnnmiocckaaWords
namespace Go.Proofs.Ytnajpnnmiocckaa
open Go Go.Proofs Go.RowKit Go.Shelf

theorem exec_copy {P : Program} {ev : Operand → Value} {oi : Oper} {d s : Operand} {t u : TypeId} {v vx v' : Value} {w w' : World} (ho : oi.op = .call { callee := .builtin .copy, args := #[d, s], argTypes := #[t, u] }) (hd : ev d = v) (hs : ev s = vx) (hrun : (Builtin.copy_ #[t, u] oi.type #[v, vx]).run P w = .ok v' w') : (execOp ev oi).run P w = .ok (.value v') w' := by
  unfold execOp
  simp only [ho, resolve, invoke, builtin, Sem.run_bind, Sem.run_pure, Result.andThen_ok, List.map_toArray, List.map_cons, List.map_nil, hd, hs, hrun]
theorem loadCells24 {b : Nat} {l : List Int} {W : World} (hN : NAt b l W) (hl : l.length = 13) : (loadCells ⟨b, 0, none⟩ 13).run Try.prog W = .ok (Iy l).toArray W := by
  have h := run_loadCells_list (P := Try.prog) W ⟨b, 0, none⟩ (Iy l) (fun j v hj => by
    have hjl := (List.getElem?_eq_some_iff.1 hj).1
    rw [Iy_length] at hjl
    rw [Iy_get l j hjl] at hj
    rw [add_at, Nat.zero_add, hN.cell j hjl]
    exact hj)
  rwa [Iy_length, hl] at h
theorem loadVar24 {b : Nat} {l : List Int} {W : World} (hN : NAt b l W) (hl : l.length = 13) : (loadVar 24 ⟨b, 0, none⟩).run Try.prog W = .ok (inoV l) W := by
  simp [loadVar, loadCells24 hN hl, inoV]
theorem exec_alloc {P : Program} {ev : Operand → Value} {oi : Oper} {t : TypeId} {v : Value} {w w' : World} (ho : oi.op = .alloc t) (h : (Instr.alloc t true (.tuple #[])).run P w = .ok v w') : (execOp ev oi).run P w = .ok (.value v) w' := by
  unfold execOp
  rw [ho]
  simp only [Sem.run_bind, h, Result.andThen_ok]
  rfl
theorem results_cell1 {f : Func} {tmps : Array Value} {a b : Nat} {l : List Int} {W : World} (hf : f.results = #[.cell a 24]) (ht : tmps.getD a undef = .pointer (some ⟨b, 0, none⟩)) (hN : NAt b l W) (hl : l.length = 13) : (results f tmps).run Try.prog W = .ok (inoV l) W := by
  have h := loadVar24 hN hl
  have ht2 : tmps[a]?.getD undef = .pointer (some ⟨b, 0, none⟩) := by rw [← ht]; simp
  unfold results
  rw [hf]
  simp [ht2, asAddr, h]
theorem results_cell2 {f : Func} {tmps : Array Value} {a c b : Nat} {l : List Int} {W : World} (hf : f.results = #[.cell a 24, .tmp c]) (ht : tmps.getD a undef = .pointer (some ⟨b, 0, none⟩)) (hN : NAt b l W) (hl : l.length = 13) : (results f tmps).run Try.prog W = .ok (.tuple #[inoV l, tmps.getD c undef]) W := by
  have h := loadVar24 hN hl
  have ht2 : tmps[a]?.getD undef = .pointer (some ⟨b, 0, none⟩) := by rw [← ht]; simp
  unfold results
  rw [hf]
  simp [ht2, asAddr, h]
theorem direct_run {b g : Nat} {l ws : List Int} {W : World} (hN : NAt b l W) (hl : l.length = 13) (hq : QAt W g ws) (hw : ws.length = 11) :
    ∃ W', (Builtin.copy_ #[39, 39] 3 #[.slice (some ⟨b, 3, none⟩) 8 8, .slice (some ⟨g, 1, none⟩) 10 10]).run Try.prog W = .ok (.int .i64 8) W' ∧ NAt b (l.take 3 ++ (ws.drop 1).take 8 ++ l.drop 11) W' ∧ Only (fun k => k = b) W W' := by
  obtain ⟨i0, hi, hz0, hz1, hz2⟩ := info3p
  have hcl : (Iy ((ws.drop 1).take 8)).length = min 10 8 := by rw [Iy_length]; simp; omega
  have hr := run_copy_row (P := Try.prog) W 39 39 3 3 b 3 8 8 ⟨g, 1, none⟩ 10 10 (Iy l).toArray 24 (Iy ((ws.drop 1).take 8)) Try.underlying39 (by rw [hi]; simp [hz1]) hN hcl (fun j u hj => by
    have hjl := (List.getElem?_eq_some_iff.1 hj).1
    rw [Iy_length] at hjl
    rw [Iy_get _ j hjl] at hj
    have hj2 : j < 8 := by simp at hjl; omega
    rw [add_at, blk_cell hq]
    have e := Iy_get ws (1 + j) (by omega)
    rw [show (Iy ws).toArray[1 + j]? = (Iy ws)[1 + j]? by simp, e]
    rw [← hj]
    simp [List.getD, hj2, Nat.add_comm]) (by rw [hcl]; simp [Iy_length]; omega) (Iy_one _)
  have e : (Iy (l.take 3 ++ (ws.drop 1).take 8 ++ l.drop 11)).toArray = ((Iy l).toArray.toList.take 3 ++ Iy ((ws.drop 1).take 8) ++ (Iy l).toArray.toList.drop (3 + (Iy ((ws.drop 1).take 8)).length)).toArray := by
    rw [hcl]
    simp [Iy, List.map_take, List.map_drop]
  refine ⟨W.setRow b (Iy (l.take 3 ++ (ws.drop 1).take 8 ++ l.drop 11)).toArray, hr.trans ?_, setRow_heap W b _ _ 24 _ hN, (Only.refl (fun k => k = b) W).setRow (.inl rfl) _⟩
  rw [e, hcl]
  rfl

set_option maxRecDepth 100000 in
set_option maxHeartbeats 2000000 in
theorem inodeof_any (w : World) (g1 g2 : Nat) (hs ws : List Int) (q1 : QAt w g1 hs) (q2 : QAt w g2 ws) (l1 : hs.length = 2) (l2 : ws.length = 11) :
    Calls Try.prog 27 #[.slice (some ⟨g1, 0, none⟩) 2 2, .slice (some ⟨g2, 0, none⟩) 11 11] w fun e w' => e = .returned (inoV (hs ++ ws)) ∧ Below w.heap.size w w' := by
  obtain ⟨h0, h1, rfl⟩ : ∃ a b, hs = [a, b] := by
    match hs, l1 with
    | [a, b], _ => exact ⟨a, b, rfl⟩
  obtain ⟨a0, a1, a2, a3, a4, a5, a6, a7, a8, a9, a10, rfl⟩ : ∃ a0 a1 a2 a3 a4 a5 a6 a7 a8 a9 a10, ws = [a0, a1, a2, a3, a4, a5, a6, a7, a8, a9, a10] := by
    match ws, l2 with
    | [a0, a1, a2, a3, a4, a5, a6, a7, a8, a9, a10], _ => exact ⟨a0, a1, a2, a3, a4, a5, a6, a7, a8, a9, a10, rfl⟩
  clear l1 l2
  obtain ⟨W1, hW1⟩ : ∃ W1, W1 = w.alloc (.cells (Iy (zeros 13)).toArray 24) := ⟨_, rfl⟩
  have hB1 : Below w.heap.size w W1 := by rw [hW1]; exact (Below.refl _ w).alloc (Nat.le_refl _) _
  have hN1 : NAt w.heap.size (zeros 13) W1 := by rw [hW1]; exact NAt.new w _
  have HW1 := Hid.mk hW1
  clear hW1
  have HK : Hid (∀ W', Below w.heap.size w W' → QAt W' g1 [h0, h1] ∧ QAt W' g2 [a0, a1, a2, a3, a4, a5, a6, a7, a8, a9, a10]) := Hid.mk (fun W' hB => ⟨q1.below hB q1.lt, q2.below hB q2.lt⟩)
  have HC : Hid (∀ W', Below w.heap.size w W' → W'.cell? ⟨g1, 0, none⟩ = some (.int .i64 h0) ∧ W'.cell? ⟨g1, 1, none⟩ = some (.int .i64 h1) ∧ W'.cell? ⟨g2, 0, none⟩ = some (.int .i64 a0) ∧ W'.cell? ⟨g2, 9, none⟩ = some (.int .i64 a9) ∧ W'.cell? ⟨g2, 10, none⟩ = some (.int .i64 a10)) := Hid.mk (fun W' hB => by
    obtain ⟨k1, k2⟩ := HK.out W' hB
    exact ⟨blk_cell k1 0, blk_cell k1 1, blk_cell k2 0, blk_cell k2 9, blk_cell k2 10⟩)
  clear q1 q2
  obtain ⟨b, hb⟩ : ∃ b, b = w.heap.size := ⟨_, rfl⟩
  rw [← hb] at hN1 hB1 HC HK ⊢
  have HBE := Hid.mk hb
  clear hb
  -- the struct is made
  obtain ⟨X, hX⟩ : ∃ X, X = W1.drew.alloc (.cells (Iy (zeros 13)).toArray 24) := ⟨_, rfl⟩
  obtain ⟨c, hc⟩ : ∃ c, c = W1.drew.heap.size := ⟨_, rfl⟩
  have hXN : NAt c (zeros 13) X := by rw [hX, hc]; exact NAt.new _ _
  have hXB : Below b w X := by rw [hX]; exact hB1.drew.alloc (Nat.le_of_lt hN1.lt) _
  have hcb : b < c := by rw [hc]; exact hN1.lt
  have hXb : NAt b (zeros 13) X := by rw [hX]; exact NAt.below (W := W1.drew) hN1 ((Below.refl _ W1.drew).alloc (Nat.le_refl _) _) hN1.lt
  obtain ⟨Y, hrY, hYN, hYo⟩ := store24_run (m := [h0, h1, a0, 0, 0, 0, 0, 0, 0, 0, 0, a9, a10]) hXN (zeros_length 13) rfl
  have hYB : Below b w Y := hXB.trans (hYo.below (Nat.le_of_lt hXb.lt) (fun k e => by rw [e]; omega))
  have hYb : NAt b (zeros 13) Y := hXb.only hYo (by omega)
  -- the direct ones
  obtain ⟨Z, hrZ, hZN, hZo⟩ := direct_run (W := Y.drew) hYN rfl (HK.out _ hYB.drew).2 rfl
  have hZB : Below b w Z := hYB.drew.trans (hZo.below (Nat.le_of_lt hYb.lt) (fun k e => by rw [e]; omega))
  have hZb : NAt b (zeros 13) Z := NAt.only (W := Y.drew) hYb hZo (by omega)
  change NAt c ([h0, h1] ++ [a0, a1, a2, a3, a4, a5, a6, a7, a8, a9, a10]) Z at hZN
  obtain ⟨V, hrV, hVN, hVo⟩ := store24_run (m := [h0, h1] ++ [a0, a1, a2, a3, a4, a5, a6, a7, a8, a9, a10]) hZb (zeros_length 13) rfl
  have hVB : Below b w V := hZB.trans (hVo.below (Nat.le_of_lt hZb.lt) (fun k e => by rw [e]; omega))
  have hS1 := HC.out _ hB1.drew
  have hSX := HC.out _ hXB
  have hSY := HC.out _ hYB
  have HX : Hid ((Instr.alloc 24 true (.tuple #[])).run Try.prog W1.drew = .ok (.pointer (some ⟨c, 0, none⟩)) X) := Hid.mk (by rw [hc, hX]; exact alloc24_run _)
  have HRY := Hid.mk hrY
  have HRZ := Hid.mk hrZ
  have HRV := Hid.mk hrV
  have HZN := Hid.mk hZN
  have HVN := Hid.mk hVN
  have HVB := Hid.mk hVB
  clear hX hc hXN hXB hXb hrY hYN hYo hYB hYb hrZ hZN hZo hZB hZb hrV hVN hVo hVB hN1 hB1 HK HC
  go_enter Try.func27, Try.ntmps27
  go_wp2_with (refine wpList_known rfl (.pointer (some ⟨b, 0, none⟩)) W1 (by rw [HW1.out, HBE.out]; exact exec_alloc24 rfl) ?_)
  refine wp_region_held_drew (S := fun W' => W'.cell? ⟨g1, 0, none⟩ = some (.int .i64 h0) ∧ W'.cell? ⟨g1, 1, none⟩ = some (.int .i64 h1) ∧ W'.cell? ⟨g2, 0, none⟩ = some (.int .i64 a0) ∧ W'.cell? ⟨g2, 9, none⟩ = some (.int .i64 a9) ∧ W'.cell? ⟨g2, 10, none⟩ = some (.int .i64 a10)) (by kernel_rfl) hS1 (fun hH => ?_)
  change wpAnyH Try.prog Region.Mode.any _ _ _ 18 _ _ _
  refine takeH 0 6 (.slice (some ⟨g1, 0, none⟩) 2 2) rfl (by kernel_rfl) (by kernel_rfl) (by kernel_rfl) (by kernel_rfl) (fun _ _ _ h => h) (by kernel_rfl) (fun w hw => by kernel_rfl) hH ?_
  simp only [List.setIfInBounds_toArray, List.set_cons_zero, List.set_cons_succ]
  refine takeH 1 7 (.pointer (some ⟨g1, 0, none⟩)) rfl (by kernel_rfl) (by kernel_rfl) (by kernel_rfl) (by kernel_rfl) (fun _ _ _ h => h) (by kernel_rfl) (fun w hw => by (try dsimp only at hw); go_simp) hH ?_
  simp only [List.setIfInBounds_toArray, List.set_cons_zero, List.set_cons_succ]
  refine takeH 2 8 (.int .i64 h0) rfl (by kernel_rfl) (by kernel_rfl) (by kernel_rfl) (by kernel_rfl) (fun _ _ _ h => h) (by kernel_rfl) (fun w hw => by (try dsimp only at hw); go_simp) hH ?_
  simp only [List.setIfInBounds_toArray, List.set_cons_zero, List.set_cons_succ]
  refine takeH 3 9 (.slice (some ⟨g1, 0, none⟩) 2 2) rfl (by kernel_rfl) (by kernel_rfl) (by kernel_rfl) (by kernel_rfl) (fun _ _ _ h => h) (by kernel_rfl) (fun w hw => by kernel_rfl) hH ?_
  simp only [List.setIfInBounds_toArray, List.set_cons_zero, List.set_cons_succ]
  refine takeH 4 10 (.pointer (some ⟨g1, 1, none⟩)) rfl (by kernel_rfl) (by kernel_rfl) (by kernel_rfl) (by kernel_rfl) (fun _ _ _ h => h) (by kernel_rfl) (fun w hw => by (try dsimp only at hw); go_simp) hH ?_
  simp only [List.setIfInBounds_toArray, List.set_cons_zero, List.set_cons_succ]
  refine takeH 5 11 (.int .i64 h1) rfl (by kernel_rfl) (by kernel_rfl) (by kernel_rfl) (by kernel_rfl) (fun _ _ _ h => h) (by kernel_rfl) (fun w hw => by (try dsimp only at hw); go_simp) hH ?_
  simp only [List.setIfInBounds_toArray, List.set_cons_zero, List.set_cons_succ]
  refine takeH 6 12 (.slice (some ⟨g2, 0, none⟩) 11 11) rfl (by kernel_rfl) (by kernel_rfl) (by kernel_rfl) (by kernel_rfl) (fun _ _ _ h => h) (by kernel_rfl) (fun w hw => by kernel_rfl) hH ?_
  simp only [List.setIfInBounds_toArray, List.set_cons_zero, List.set_cons_succ]
  refine takeH 7 13 (.pointer (some ⟨g2, 0, none⟩)) rfl (by kernel_rfl) (by kernel_rfl) (by kernel_rfl) (by kernel_rfl) (fun _ _ _ h => h) (by kernel_rfl) (fun w hw => by (try dsimp only at hw); go_simp) hH ?_
  simp only [List.setIfInBounds_toArray, List.set_cons_zero, List.set_cons_succ]
  refine takeH 8 14 (.int .i64 a0) rfl (by kernel_rfl) (by kernel_rfl) (by kernel_rfl) (by kernel_rfl) (fun _ _ _ h => h) (by kernel_rfl) (fun w hw => by (try dsimp only at hw); go_simp) hH ?_
  simp only [List.setIfInBounds_toArray, List.set_cons_zero, List.set_cons_succ]
  refine takeH 9 15 (.slice (some ⟨g2, 0, none⟩) 11 11) rfl (by kernel_rfl) (by kernel_rfl) (by kernel_rfl) (by kernel_rfl) (fun _ _ _ h => h) (by kernel_rfl) (fun w hw => by kernel_rfl) hH ?_
  simp only [List.setIfInBounds_toArray, List.set_cons_zero, List.set_cons_succ]
  refine takeH 10 16 (.pointer (some ⟨g2, 9, none⟩)) rfl (by kernel_rfl) (by kernel_rfl) (by kernel_rfl) (by kernel_rfl) (fun _ _ _ h => h) (by kernel_rfl) (fun w hw => by (try dsimp only at hw); go_simp) hH ?_
  simp only [List.setIfInBounds_toArray, List.set_cons_zero, List.set_cons_succ]
  refine takeH 11 17 (.int .i64 a9) rfl (by kernel_rfl) (by kernel_rfl) (by kernel_rfl) (by kernel_rfl) (fun _ _ _ h => h) (by kernel_rfl) (fun w hw => by (try dsimp only at hw); go_simp) hH ?_
  simp only [List.setIfInBounds_toArray, List.set_cons_zero, List.set_cons_succ]
  refine takeH 12 18 (.slice (some ⟨g2, 0, none⟩) 11 11) rfl (by kernel_rfl) (by kernel_rfl) (by kernel_rfl) (by kernel_rfl) (fun _ _ _ h => h) (by kernel_rfl) (fun w hw => by kernel_rfl) hH ?_
  simp only [List.setIfInBounds_toArray, List.set_cons_zero, List.set_cons_succ]
  refine takeH 13 19 (.pointer (some ⟨g2, 10, none⟩)) rfl (by kernel_rfl) (by kernel_rfl) (by kernel_rfl) (by kernel_rfl) (fun _ _ _ h => h) (by kernel_rfl) (fun w hw => by (try dsimp only at hw); go_simp) hH ?_
  simp only [List.setIfInBounds_toArray, List.set_cons_zero, List.set_cons_succ]
  refine takeH 14 20 (.int .i64 a10) rfl (by kernel_rfl) (by kernel_rfl) (by kernel_rfl) (by kernel_rfl) (fun _ _ _ h => h) (by kernel_rfl) (fun w hw => by (try dsimp only at hw); go_simp) hH ?_
  simp only [List.setIfInBounds_toArray, List.set_cons_zero, List.set_cons_succ]
  refine takeH 15 21 (inoV [h0, h1, a0, 0, 0, 0, 0, 0, 0, 0, 0, a9, a10]) rfl (by kernel_rfl) (by kernel_rfl) (by kernel_rfl) (by kernel_rfl) (fun _ _ _ h => h) (by kernel_rfl) (fun w hw => by kernel_rfl) hH ?_
  simp only [List.setIfInBounds_toArray, List.set_cons_zero, List.set_cons_succ]
  refine stepH_run 16 5 (.pointer (some ⟨c, 0, none⟩)) X rfl (by kernel_rfl) (by kernel_rfl) (by kernel_rfl) (exec_alloc rfl HX.out) hSX ?_
  simp only [List.setIfInBounds_toArray, List.set_cons_zero, List.set_cons_succ]
  refine stepH_one 17 (by kernel_rfl) ?_
  refine opH_store 17 Y rfl (by kernel_rfl) (by kernel_rfl) (exec_store (p := .tmp 5) (x := .tmp 21) rfl (by kernel_rfl) (by kernel_rfl) HRY.out) hSY ?_
  refine wpAnyH_done (by kernel_rfl) ?_ _
  clear hH hSX hSY hS1 HX HRY
  go_wp2_with fail
  refine wp_region_held_drew (S := fun _ => True) (by kernel_rfl) trivial (fun hH => ?_)
  change wpAnyH Try.prog Region.Mode.any _ _ _ 5 _ _ _
  refine takeH 0 22 (.pointer (some ⟨c, 3, none⟩)) rfl (by kernel_rfl) (by kernel_rfl) (by kernel_rfl) (by kernel_rfl) (fun _ _ _ h => h) (by kernel_rfl) (fun w hw => by (try dsimp only at hw); go_simp) hH ?_
  simp only [List.setIfInBounds_toArray, List.set_cons_zero, List.set_cons_succ]
  refine takeH 1 23 (.slice (some ⟨c, 3, none⟩) 8 8) rfl (by kernel_rfl) (by kernel_rfl) (by kernel_rfl) (by kernel_rfl) (fun _ _ _ h => h) (by kernel_rfl) (fun w hw => by (try dsimp only at hw); go_simp) hH ?_
  simp only [List.setIfInBounds_toArray, List.set_cons_zero, List.set_cons_succ]
  refine takeH 2 24 (.slice (some ⟨g2, 0, none⟩) 11 11) rfl (by kernel_rfl) (by kernel_rfl) (by kernel_rfl) (by kernel_rfl) (fun _ _ _ h => h) (by kernel_rfl) (fun w hw => by kernel_rfl) hH ?_
  simp only [List.setIfInBounds_toArray, List.set_cons_zero, List.set_cons_succ]
  refine takeH 3 25 (.slice (some ⟨g2, 1, none⟩) 10 10) rfl (by kernel_rfl) (by kernel_rfl) (by kernel_rfl) (by kernel_rfl) (fun _ _ _ h => h) (by kernel_rfl) (fun w hw => by (try dsimp only at hw); go_simp) hH ?_
  simp only [List.setIfInBounds_toArray, List.set_cons_zero, List.set_cons_succ]
  refine stepH_run 4 26 (.int .i64 8) Z rfl (by kernel_rfl) (by kernel_rfl) (by kernel_rfl) (exec_copy (d := .tmp 23) (s := .tmp 25) rfl (by kernel_rfl) (by kernel_rfl) HRZ.out) trivial ?_
  simp only [List.setIfInBounds_toArray, List.set_cons_zero, List.set_cons_succ]
  refine wpAnyH_done (by kernel_rfl) ?_ _
  clear hH HRZ
  go_wp2_with (first
    | (refine wpList_known rfl (inoV ([h0, h1] ++ [a0, a1, a2, a3, a4, a5, a6, a7, a8, a9, a10])) Z (exec_load24 (x := .tmp 5) rfl rfl HZN.out rfl) ?_)
    | (refine wpList_stored rfl V (exec_store (p := .tmp 4) (x := .tmp 27) rfl rfl rfl HRV.out) ?_))
  refine bodyPost_ret (v := inoV ([h0, h1] ++ [a0, a1, a2, a3, a4, a5, a6, a7, a8, a9, a10])) (results_cell1 Try.results27 rfl HVN.out rfl) rfl ⟨rfl, HVB.out⟩
end Go.Proofs.Ytnajpnnmiocckaa
