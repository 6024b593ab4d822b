/-
  The kept blocks, told: Held.
-/
import Derived.Test.YtmbhjheoomlggaaCaFlush
import Derived.Test.YtmbhjheoomlggaaAll
namespace Go.Proofs.Ytmbhjheoomlggaa
open Go Go.Proofs Go.RowKit Go.Shelf
attribute [local go_sem] Oper.semAt_some
theorem exec_storeI {ev : Operand → Value} {oi : Oper} {p x : Operand} {a : Addr} {ao : Option Addr} {l c : Nat} {v : Value} {W : World} (ho : oi.op = .store 44 p x) (hp : ev p = .pointer (some a)) (hx : ev x = .slice ao l c) (hc : W.cell? a = some v) (hf : W.frozen? a = false) : (execOp ev oi).run Try.prog W = .ok .skip (W.setCell a (.slice ao l c)) := by
  refine exec_store ho hp hx ?_
  simp [go_sem, hc, hf]
theorem exec_one3 {ev : Operand → Value} {oi : Oper} {x : Operand} {p : Int} {W : World} (ho : oi.op = .buildSlice 44 1 #[(0, x)]) (hx : ev x = .int .i64 p) : (execOp ev oi).run Try.prog W = .ok (.value (.slice (some ⟨W.heap.size, 0, none⟩) 1 1)) (W.alloc (.cells #[.int .i64 p] 3)) := by
  obtain ⟨i0, hi, hz0, hz1, hz2⟩ := info3p
  unfold execOp
  rw [ho]
  simp only [hx, List.map_toArray, List.map_cons, List.map_nil]
  simp [Instr.buildSlice, run_underlying Try.underlying44, zeroValue, typeInfo, hi, hz0, hz1, newRow, Value.cells, Instr.fill, sizeOf]
  rw [show Array.range 1 = #[0] from by decide]
  simp
theorem exec_append {P : Program} {ev : Operand → Value} {oi : Oper} {s x : Operand} {t u : TypeId} {v vx v' : Value} {w w' : World} (ho : oi.op = .call { callee := .builtin .append, args := #[s, x], argTypes := #[t, u] }) (hs : ev s = v) (hx : ev x = vx) (hrun : (Builtin.append_ #[t, u] oi.type #[v, vx]).run P w = .ok v' w') : (execOp ev oi).run P w = .ok (.value v') w' := by
  unfold execOp
  simp only [ho, resolve, invoke, builtin, Sem.run_bind, Sem.run_pure, Result.andThen_ok, List.map_toArray, List.map_cons, List.map_nil, hs, hx, hrun]
abbrev HeS (x : Pl) (W : World) : Prop := W.cell? ⟨x.p, 0, none⟩ = some (ptV x.h) ∧ W.cell? ⟨x.h, 0, none⟩ = some (.int .i64 x.num)
/-- Between two rounds. -/
def HeI (w : World) (L : List Pl) (k : Nat) (W : World) : Prop :=
  W.heap[w.heap.size + 1]? = some (.cells #[.slice (some ⟨w.heap.size, 0, none⟩) k L.length] 44 (0, 0)) ∧ W.ownsRow 0 3 1 (.slice (some ⟨w.heap.size, 0, none⟩) k L.length) k (Iy ((L.take k).map (·.num))) ∧ Below w.heap.size w W ∧ w.heap.size + 3 ≤ W.heap.size
theorem HeI_own {w : World} (L : List Pl) (k : Nat) (W W' : World) (row : Option Nat) (h : HeI w L k W) (hg : W.grownBy W' row) (hr : ∀ r, row = some r → w.heap.size + 3 ≤ r) : HeI w L k W' := by
  obtain ⟨h0, h1, h2, h3⟩ := h
  exact ⟨(hg.block _ (by omega) (fun e => by have := hr _ e.symm; omega)).trans h0, owns_at h1 (fun q e => by
    obtain rfl : w.heap.size = q := by simpa [Value.ownBlock] using e
    exact hg.block _ (by omega) (fun e => by have := hr _ e.symm; omega)), h2.grown hg (by have := h2.size; omega) (fun r e => by have := hr r e; omega), Nat.le_trans h3 hg.size⟩
section
variable {F : Nat → Prop} {w : World} {c m : Nat} {d : Value} {reads : Int}
/-- One number more. -/
theorem held_step {size : Int} (L : List Pl) (h : CaAt F w c m d size reads L) (k : Nat) (hk : k < L.length) (W : World) (hI : HeI w L k W) (x : Pl) (hx : x = L[k]) :
    HeS x W.drew ∧ HeS x (W.drew.alloc (.cells #[.int .i64 x.num] 3)) ∧ W.drew.cell? ⟨w.heap.size + 1, 0, none⟩ = some (.slice (some ⟨w.heap.size, 0, none⟩) k L.length) ∧ (W.drew.alloc (.cells #[.int .i64 x.num] 3)).cell? ⟨w.heap.size + 1, 0, none⟩ = some (.slice (some ⟨w.heap.size, 0, none⟩) k L.length) ∧
    ∃ W9, (Builtin.append_ #[44, 44] 44 #[.slice (some ⟨w.heap.size, 0, none⟩) k L.length, .slice (some ⟨W.drew.heap.size, 0, none⟩) 1 1]).run Try.prog (W.drew.alloc (.cells #[.int .i64 x.num] 3)) = .ok (.slice (some ⟨w.heap.size, 0, none⟩) (k + 1) L.length) W9 ∧ HeS x W9 ∧
      (W9.cell? ⟨w.heap.size + 1, 0, none⟩ = some (.slice (some ⟨w.heap.size, 0, none⟩) k L.length) ∧ W9.frozen? ⟨w.heap.size + 1, 0, none⟩ = false) ∧ HeS x (W9.setCell ⟨w.heap.size + 1, 0, none⟩ (.slice (some ⟨w.heap.size, 0, none⟩) (k + 1) L.length)) ∧
      HeI w L (k + 1) (W9.setCell ⟨w.heap.size + 1, 0, none⟩ (.slice (some ⟨w.heap.size, 0, none⟩) (k + 1) L.length)) ∧ ∀ q, w.heap.size + 3 ≤ q → q < W.heap.size → (W9.setCell ⟨w.heap.size + 1, 0, none⟩ (.slice (some ⟨w.heap.size, 0, none⟩) (k + 1) L.length)).heap[q]? = W.heap[q]? := by
  obtain ⟨h0, h1, h2, h3⟩ := hI
  have hxm : x ∈ L := by rw [hx]; exact List.getElem_mem hk
  have hes : ∀ W', Below w.heap.size w W' → HeS x W' := fun W' hb => by
    have h' := h.below hb
    obtain ⟨u, v, hp⟩ := h'.ls.seg.mem hxm
    exact ⟨(pl_c1 hp).1, (hd_cells (h'.held x hxm)).1⟩
  have hb8 : Below w.heap.size w (W.drew.alloc (.cells #[.int .i64 x.num] 3)) := h2.drew.alloc h2.size _
  have hs8 : (W.drew.alloc (.cells #[.int .i64 x.num] 3)).heap.size = W.heap.size + 1 := by simp
  have k8 : ∀ q, q < W.heap.size → (W.drew.alloc (.cells #[.int .i64 x.num] 3)).heap[q]? = W.heap[q]? := fun q hq => Below.heap_alloc _ _ _ hq
  have hnew : (W.drew.alloc (.cells #[.int .i64 x.num] 3)).heap[W.heap.size]? = some (.cells #[.int .i64 x.num] 3 (0, 0)) := blk_new W.drew _
  obtain ⟨i0, hi, hz0, hz1, hz2⟩ := info3p
  have hown8 : (W.drew.alloc (.cells #[.int .i64 x.num] 3)).ownsRow 0 3 1 (.slice (some ⟨w.heap.size, 0, none⟩) k L.length) k (Iy ((L.take k).map (·.num))) := owns_at h1 (fun q e => by
    obtain rfl : w.heap.size = q := by simpa [Value.ownBlock] using e
    exact k8 _ (by omega))
  generalize W.drew.alloc (.cells #[.int .i64 x.num] 3) = W8 at *
  obtain ⟨W9, hr, hown9, hg9⟩ := run_append_fits (P := Try.prog) W8 0 44 44 3 i0 1 Try.underlying44 hi hz1 w.heap.size k L.length _ hown8 ⟨W.heap.size, 0, none⟩ 1 1 [.int .i64 x.num] (by simp) (fun j u hj => by
    have hj0 : j = 0 := by
      have := (List.getElem?_eq_some_iff.1 hj).1
      simp at this
      exact this
    subst hj0
    simp at hj
    rw [add_at, blk_cell hnew]
    simp [hj]) (fun u hu => by simp at hu; rw [hu]; rfl) (by omega)
  have k9 : ∀ q, q < W.heap.size → q ≠ w.heap.size → W9.heap[q]? = W.heap[q]? := fun q hq hne => (hg9.block q (by omega) (fun e => hne (by simpa using e))).trans (k8 q hq)
  have hs9 := hg9.size
  have hb9 : Below w.heap.size w W9 := hb8.grown hg9 (by omega) (fun r e => by cases e; exact Nat.le_refl _)
  have h09 : W9.heap[w.heap.size + 1]? = _ := (k9 _ (by omega) (by omega)).trans h0
  have hb10 : Below w.heap.size w (W9.setCell ⟨w.heap.size + 1, 0, none⟩ (.slice (some ⟨w.heap.size, 0, none⟩) (k + 1) L.length)) := hb9.setCell (p := ⟨w.heap.size + 1, 0, none⟩) (by show w.heap.size ≤ w.heap.size + 1; omega) _
  refine ⟨hes _ h2.drew, hes _ hb8, (show W.cell? _ = _ by rw [blk_cell h0]; rfl), by rw [blk_cell ((k8 _ (by omega)).trans h0)]; rfl, W9, hr, hes _ hb9, ⟨by rw [blk_cell h09]; rfl, blk_free h09 0⟩, hes _ hb10, ⟨?_, ?_, hb10, by simp; omega⟩, fun q h1 h2 => ?_⟩
  · simpa using blk_set (i := 0) (u := Value.slice (some ⟨w.heap.size, 0, none⟩) (k + 1) L.length) h09
  · refine owns_at ?_ (fun q e => ?_) (w := W9)
    · have e1 : Iy ((L.take (k + 1)).map (·.num)) = Iy ((L.take k).map (·.num)) ++ [.int .i64 x.num] := by
        rw [List.take_add_one, List.getElem?_eq_getElem hk, ← hx]
        simp [Iy]
      rw [e1]
      exact hown9
    · obtain rfl : w.heap.size = q := by simpa [Value.ownBlock] using e
      exact set_other _ _ _ _ (by omega)
  · rw [set_other _ _ _ _ (by omega)]
    exact k9 q h2 (by omega)
set_option maxRecDepth 100000 in
set_option maxHeartbeats 4000000 in
theorem held_any {size : Int} (L : List Pl) (h : CaAt F w c m d size reads L) (hl : L.length ≤ 1000000) :
    Calls Try.prog 23 #[ptV c] w fun e w' => e = .returned (.slice (some ⟨w.heap.size, 0, none⟩) L.length L.length) ∧ w'.ownsRow w.heap.size 3 1 (.slice (some ⟨w.heap.size, 0, none⟩) L.length L.length) L.length (Iy (L.map (·.num))) ∧ Below w.heap.size w w' := by
  obtain ⟨i0, hi, hz0, hz1, hz2⟩ := info3p
  obtain ⟨mk, hmks, hrun⟩ : ∃ mk : Array Value, mk.size = L.length ∧ (Instr.makeSlice 44 (.int .i64 0) (.int .i64 (L.length : Int))).run Try.prog w = .ok (.slice (some ⟨w.heap.size, 0, none⟩) 0 L.length) (w.alloc (.cells mk 3)) := by
    refine ⟨madeCells (Value.int .i64 0).cells (L.length * i0.size), by rw [size_madeCells, hz1, Nat.mul_one], ?_⟩
    rw [run_make (P := Try.prog) w 44 3 i0 _ Try.underlying44 hi hz0 .i64 .i64 0 _ (by omega) (by omega) (by rw [hz2]; omega) (by omega)]
    simp
  have hlen := h.map.len Try.underlying56
  have c5 := (ca_cells h.ls.blk).2.2.2.1
  refine (callsIn_wide (n := 5)).1 ?_
  refine callsIn_of_wp_marks Try.func23 rfl trivial ?_ rfl
  simp only [Try.ntmps23, List.size_toArray, List.length_cons, List.length_nil, Nat.reduceAdd, Nat.reduceSub, Array.replicate_succ, Array.replicate_zero, List.push_toArray, List.append_toArray, List.nil_append, List.cons_append]
  gi_wp2_with (refine ⟨trivial, ?_⟩; gi_at_call 37; refine (callsIn_wide.2 (all_any _ c)).mono ?_; rintro e w3 ⟨rfl, rfl⟩)
  have hbm := blk_new w (.cells mk 3)
  have hbx := blk_new (w.alloc (.cells mk 3)) (.cells #[.slice (some ⟨w.heap.size, 0, none⟩) 0 L.length] 44)
  rw [World.size_alloc] at hbx
  have hB2 : Below w.heap.size w ((w.alloc (.cells mk 3)).alloc (.cells #[.slice (some ⟨w.heap.size, 0, none⟩) 0 L.length] 44)) := ((Below.refl _ w).alloc (Nat.le_refl _) _).alloc (by simp) _
  have hs2 : ((w.alloc (.cells mk 3)).alloc (.cells #[.slice (some ⟨w.heap.size, 0, none⟩) 0 L.length] 44)).heap.size = w.heap.size + 2 := by simp
  have hrw : ((w.alloc (.cells mk 3)).alloc (.cells #[.slice (some ⟨w.heap.size, 0, none⟩) 0 L.length] 44)).heap[w.heap.size]? = some (.cells mk 3 (0, 0)) := (Below.heap_alloc _ _ _ (by simp)).trans hbm
  generalize (w.alloc (.cells mk 3)).alloc (.cells #[.slice (some ⟨w.heap.size, 0, none⟩) 0 L.length] 44) = w2 at *
  have hb3 := blk_new w2 (.cells #[.pointer (some ⟨c, 3, none⟩)] 86)
  rw [hs2] at hb3
  have k3 : ∀ q, q < w.heap.size + 2 → (w2.alloc (.cells #[.pointer (some ⟨c, 3, none⟩)] 86)).heap[q]? = w2.heap[q]? := fun q hq => Below.heap_alloc _ _ _ (by omega)
  have hS : (w2.alloc (.cells #[.pointer (some ⟨c, 3, none⟩)] 86)).heap.size = w.heap.size + 3 := by simp [hs2]
  have hI0 : HeI w L 0 (w2.alloc (.cells #[.pointer (some ⟨c, 3, none⟩)] 86)) := ⟨(k3 _ (by omega)).trans hbx, ⟨by simp [Iy], .inr ⟨w.heap.size, _, mk, rfl, Nat.zero_le _, (k3 _ (by omega)).trans hrw, Nat.zero_le _, by unfold maxLen; omega, by rw [hmks, Nat.mul_one], by simp [Iy]⟩⟩, hB2.alloc hB2.size _, by omega⟩
  generalize w2.alloc (.cells #[.pointer (some ⟨c, 3, none⟩)] 86) = w3 at *
  clear hbm hB2 hbx hrw k3 hlen hmks hrun c5
  refine wpIn_range_stop (gf := 47) (lb := #[ptV (w.heap.size + 2)]) rfl (enters_of Try.func47 (by kernel_rfl) rfl) L.length (fun k => #[ptV ((L.map (·.p)).getD k 0)]) (fun _ => rfl)
    (HeI w L) (fun _ => False) (fun k A B row h hg hr => HeI_own L k A B row h hg (fun r e => by rw [← hS]; exact hr r e)) (fun _ _ _ h _ _ => h) hI0 ?hit
    (fun k => { tmps := #[ptV c, undef, .slice none 0 0, ptV (w.heap.size + 1), ptV ((L.map (·.p)).getD k 0), ptV c, ptV c, .pointer (some ⟨c, 5, none⟩), .map (some m), .int .i64 L.length, .slice (some ⟨w.heap.size, 0, none⟩) 0 L.length, ptV c, ptV c, .pointer (some ⟨c, 3, none⟩), allF (w.heap.size + 2), ptV ((L.map (·.p)).getD k 0), undef, undef, undef, undef, undef, undef, undef, undef, undef, undef, undef], defers := [] }) ?assign ?body ?done ?stop
  case hit =>
    intro l J Jx W hJI hg hY h0
    have hlen : (L.map (·.p)).length = L.length := by simp
    have := all1_in 4 (by omega) l (w.heap.size + 2) c (L.map (·.p)) h.ls.nd J Jx W ?_ ?_ ?_ (by rw [hlen]; exact hY) h0
    · rw [hlen] at this; exact this
    · rw [blk_cell ((hg.block _ (by omega) (by simp)).trans hb3)]; rfl
    · have hC := h.below (hJI 0 W h0).2.2.1
      rw [(ca_c hC.ls.blk).1]
      exact congrArg some (plV_next (k := 0))
    · intro k A hJ hk
      rw [hlen] at hk
      have hC := h.below (hJI k A hJ).2.2.1
      have hd : L = L.take k ++ L[k] :: L.drop (k + 1) := by rw [← List.drop_eq_getElem_cons hk, List.take_append_drop]
      have hsg := hC.ls.seg
      rw [hd] at hsg
      have e : (L.map (·.p)).getD k 0 = L[k].p := by simp [List.getD, hk]
      rw [e, (pl_c1 hsg.at.2.1).2.2.1, plV_next]
  case assign =>
    intro l k W K hK
    generalize (L.map (·.p)).getD k 0 = p at *
    gi_wp2
    exact hK
  case body =>
    rintro l k W hI hk hW2
    obtain ⟨x, hx⟩ : ∃ x, x = L[k] := ⟨_, rfl⟩
    have hp : (L.map (·.p)).getD k 0 = x.p := by simp [List.getD, hk, hx]
    rw [hp]
    obtain ⟨s0, s8, bx, bx8, W9, hap, s9, bx9, s10, hI1, hkeep⟩ := held_step L h k hk W hI x hx
    have HS0 := Hid.mk s0
    have HS8 := Hid.mk s8
    have HBX := Hid.mk bx
    have HBX8 : Hid ((W.alloc (.cells #[.int .i64 x.num] 3)).cell? ⟨w.heap.size + 1, 0, none⟩ = some (.slice (some ⟨w.heap.size, 0, none⟩) k L.length)) := Hid.mk bx8
    have HAP := Hid.mk hap
    have HS9 := Hid.mk s9
    have HBX9 := Hid.mk bx9
    have HS10 := Hid.mk s10
    have HFIN : Hid ((W9.setCell ⟨w.heap.size + 1, 0, none⟩ (.slice (some ⟨w.heap.size, 0, none⟩) (k + 1) L.length)).heap[w3.heap.size]? = W.heap[w3.heap.size]? ∧ (W9.setCell ⟨w.heap.size + 1, 0, none⟩ (.slice (some ⟨w.heap.size, 0, none⟩) (k + 1) L.length)).heap[w3.heap.size + 1]? = W.heap[w3.heap.size + 1]? ∧ HeI w L (k + 1) (W9.setCell ⟨w.heap.size + 1, 0, none⟩ (.slice (some ⟨w.heap.size, 0, none⟩) (k + 1) L.length))) :=
      Hid.mk ⟨hkeep _ (by omega) (by omega), hkeep _ (by omega) (by omega), hI1⟩
    clear s0 s8 bx bx8 hap s9 bx9 s10 hI1 hkeep hI hS hW2 hI0 hb3 hs2 hx hp h hi hz0 hz1 hz2
    gi_wp2_with fail
    refine round_region_held (S := HeS x) (by kernel_rfl) (by kernel_rfl) HS0.out (fun hH => ?_)
    change wpAnyH Try.prog Region.Mode.any _ _ _ 11 _ _ _
    refine takeH 1 17 (.pointer (some ⟨x.p, 0, none⟩)) rfl (by kernel_rfl) (by kernel_rfl) (by kernel_rfl) (by kernel_rfl) (fun _ _ _ h => h) (by kernel_rfl) (fun w hw => by kernel_rfl) hH ?_
    simp only [List.setIfInBounds_toArray, List.set_cons_zero, List.set_cons_succ]
    refine takeH 2 18 (.pointer (some ⟨x.p, 0, none⟩)) rfl (by kernel_rfl) (by kernel_rfl) (by kernel_rfl) (by kernel_rfl) (fun _ _ _ h => h) (by kernel_rfl) (fun w hw => by (try dsimp only at hw); go_simp) hH ?_
    simp only [List.setIfInBounds_toArray, List.set_cons_zero, List.set_cons_succ]
    refine takeH 3 19 (.pointer (some ⟨x.p, 0, none⟩)) rfl (by kernel_rfl) (by kernel_rfl) (by kernel_rfl) (by kernel_rfl) (fun _ _ _ h => h) (by kernel_rfl) (fun w hw => by (try dsimp only at hw); go_simp) hH ?_
    simp only [List.setIfInBounds_toArray, List.set_cons_zero, List.set_cons_succ]
    refine takeH 4 20 (.pointer (some ⟨x.h, 0, none⟩)) rfl (by kernel_rfl) (by kernel_rfl) (by kernel_rfl) (by kernel_rfl) (fun _ _ _ h => h) (by kernel_rfl) (fun w hw => by (try dsimp only at hw); go_simp) hH ?_
    simp only [List.setIfInBounds_toArray, List.set_cons_zero, List.set_cons_succ]
    refine takeH 5 21 (.pointer (some ⟨x.h, 0, none⟩)) rfl (by kernel_rfl) (by kernel_rfl) (by kernel_rfl) (by kernel_rfl) (fun _ _ _ h => h) (by kernel_rfl) (fun w hw => by (try dsimp only at hw); go_simp) hH ?_
    simp only [List.setIfInBounds_toArray, List.set_cons_zero, List.set_cons_succ]
    refine takeH 6 22 (.pointer (some ⟨x.h, 0, none⟩)) rfl (by kernel_rfl) (by kernel_rfl) (by kernel_rfl) (by kernel_rfl) (fun _ _ _ h => h) (by kernel_rfl) (fun w hw => by (try dsimp only at hw); go_simp) hH ?_
    simp only [List.setIfInBounds_toArray, List.set_cons_zero, List.set_cons_succ]
    refine takeH 7 23 (.int .i64 x.num) rfl (by kernel_rfl) (by kernel_rfl) (by kernel_rfl) (by kernel_rfl) (fun _ _ _ h => h) (by kernel_rfl) (fun w hw => by (try dsimp only at hw); go_simp) hH ?_
    simp only [List.setIfInBounds_toArray, List.set_cons_zero, List.set_cons_succ]
    refine stepH_two 0 8 (by kernel_rfl) ?_ ?_
    · refine opH_run 0 16 (.slice (some ⟨w.heap.size, 0, none⟩) k L.length) W.drew rfl (by kernel_rfl) (by kernel_rfl) (by have hb := HBX.out; go_simp) hH ?_
      simp only [List.setIfInBounds_toArray, List.set_cons_zero, List.set_cons_succ]
      refine stepH_run 8 24 (.slice (some ⟨W.drew.heap.size, 0, none⟩) 1 1) (W.drew.alloc (.cells #[.int .i64 x.num] 3)) rfl (by kernel_rfl) (by kernel_rfl) (by kernel_rfl) (exec_one3 (x := .tmp 23) (by kernel_rfl) (by kernel_rfl)) HS8.out ?_
      simp only [List.setIfInBounds_toArray, List.set_cons_zero, List.set_cons_succ]
      refine stepH_run 9 25 (.slice (some ⟨w.heap.size, 0, none⟩) (k + 1) L.length) W9 rfl (by kernel_rfl) (by kernel_rfl) (by kernel_rfl) (exec_append (s := .tmp 16) (x := .tmp 24) (by kernel_rfl) (by kernel_rfl) (by kernel_rfl) HAP.out) HS9.out ?_
      simp only [List.setIfInBounds_toArray, List.set_cons_zero, List.set_cons_succ]
      refine stepH_one 10 (by kernel_rfl) ?_
      refine opH_store 10 (W9.setCell ⟨w.heap.size + 1, 0, none⟩ (.slice (some ⟨w.heap.size, 0, none⟩) (k + 1) L.length)) rfl (by kernel_rfl) (by kernel_rfl) (exec_storeI (p := .tmp 3) (x := .tmp 25) (by kernel_rfl) (by kernel_rfl) (by kernel_rfl) HBX9.out.1 HBX9.out.2) HS10.out ?_
      refine wpAnyH_done (by kernel_rfl) ?_ _
      dsimp only [Norm]
      gi_wp2
      exact HFIN.out
    · refine opH_run 8 24 (.slice (some ⟨W.drew.heap.size, 0, none⟩) 1 1) (W.drew.alloc (.cells #[.int .i64 x.num] 3)) rfl (by kernel_rfl) (by kernel_rfl) (exec_one3 (x := .tmp 23) (by kernel_rfl) (by kernel_rfl)) HS8.out ?_
      simp only [List.setIfInBounds_toArray, List.set_cons_zero, List.set_cons_succ]
      refine stepH 0 16 (.slice (some ⟨w.heap.size, 0, none⟩) k L.length) rfl (by kernel_rfl) (by kernel_rfl) (by kernel_rfl) (by have hb := HBX8.out; go_simp) HS8.out ?_
      simp only [List.setIfInBounds_toArray, List.set_cons_zero, List.set_cons_succ]
      refine stepH_run 9 25 (.slice (some ⟨w.heap.size, 0, none⟩) (k + 1) L.length) W9 rfl (by kernel_rfl) (by kernel_rfl) (by kernel_rfl) (exec_append (s := .tmp 16) (x := .tmp 24) (by kernel_rfl) (by kernel_rfl) (by kernel_rfl) HAP.out) HS9.out ?_
      simp only [List.setIfInBounds_toArray, List.set_cons_zero, List.set_cons_succ]
      refine stepH_one 10 (by kernel_rfl) ?_
      refine opH_store 10 (W9.setCell ⟨w.heap.size + 1, 0, none⟩ (.slice (some ⟨w.heap.size, 0, none⟩) (k + 1) L.length)) rfl (by kernel_rfl) (by kernel_rfl) (exec_storeI (p := .tmp 3) (x := .tmp 25) (by kernel_rfl) (by kernel_rfl) (by kernel_rfl) HBX9.out.1 HBX9.out.2) HS10.out ?_
      refine wpAnyH_done (by kernel_rfl) ?_ _
      dsimp only [Norm]
      gi_wp2
      exact HFIN.out
  case done =>
    rintro D W hD ⟨h0, h1, h2, h3⟩ hKD
    rw [List.take_length] at h1
    have e0 : W.cell? ⟨w.heap.size + 1, 0, none⟩ = some (.slice (some ⟨w.heap.size, 0, none⟩) L.length L.length) := by rw [blk_cell h0]; rfl
    have HF := Hid.mk (And.intro h1 h2)
    have HD : Hid (w.heap.size + 3 ≤ D) := Hid.mk (by omega)
    have HZ : Hid (w.heap.size + 3 ≤ W.heap.size) := Hid.mk h3
    clear h0 h1 h2 h3 hI0 hb3 hS hs2
    gi_wp2
    refine ⟨by simp, .inl ⟨_, _, rfl, run_takeDeferred hKD, ?_⟩⟩
    have hr : ∀ r, some D = some r → w.heap.size ≤ r := fun r e => by cases e; have := HD.out; omega
    refine ⟨_, results_tmp rfl _ _ _, rfl, owns_rebase (owns_at HF.out.1 (fun q e => ?_)) (fun q e => ?_), HF.out.2.grown (grownBy_putObj' _ D (.deferred none)) (by have := HZ.out; omega) hr⟩
    · obtain rfl : w.heap.size = q := by simpa [Value.ownBlock] using e
      exact World.putObj_heap_other (by have := HD.out; omega)
    · obtain rfl : w.heap.size = q := by simpa [Value.ownBlock] using e
      exact Nat.le_refl _
  case stop =>
    rintro D W hD hx _
    exact hx.elim
end
end Go.Proofs.Ytmbhjheoomlggaa
