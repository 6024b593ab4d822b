/-
  WalkLinks: its walk.
-/
import Derived.Test.YtbahbhaoimabdaaWkAlive
import Derived.Test.YtbahbhaoimabdaaWkLinksM
namespace Go.Proofs.Ytbahbhaoimabdaa
open Go Go.Proofs Go.RowKit Go.Shelf

theorem exec_ldE {ev : Operand → Value} {oi : Oper} {x : Operand} {a : Addr} {v : Value} {W : World} (ho : oi.op = .load 37 x) (hx : ev x = .pointer (some a)) (hc : W.cell? a = some v) : (execOp ev oi).run Try.prog W = .ok (.value v) W := by
  unfold execOp
  rw [ho]
  simp only [hx]
  go_simp
set_option maxRecDepth 100000 in
set_option maxHeartbeats 4000000 in
theorem walklinks_law (w : World) (a0 : Int) : Calls Try.prog 6 #[.int .i64 a0] w fun e w' => e = .returned (.bool true) ∧ Below w.heap.size w w' := by
  have HAL := Hid.mk (alive_any w)
  by_cases h1 : a0 < 1
  · go_enter Try.func6, Try.ntmps6
    go_wp2_with (go_at_call 9; with_reducible refine HAL.out.mono ?_; rintro e W ⟨rfl, hB⟩; have BB := Hid.mk hB; clear hB HAL)
    go_ret
    exact ⟨rfl, BB.out⟩
  · by_cases h2 : 20 < a0
    · go_enter Try.func6, Try.ntmps6
      go_wp2_with (go_at_call 9; with_reducible refine HAL.out.mono ?_; rintro e W ⟨rfl, hB⟩; have BB := Hid.mk hB; clear hB HAL)
      go_ret
      exact ⟨rfl, BB.out⟩
    · obtain ⟨n, rfl⟩ : ∃ n : Nat, a0 = (n : Int) := ⟨a0.toNat, by omega⟩
      have hn1 : 1 ≤ n := by omega
      have hn2 : n ≤ 20 := by omega
      go_enter Try.func6, Try.ntmps6
      go_upto_region 5 with (go_at_call 9; with_reducible refine HAL.out.mono ?_; rintro e W3 ⟨rfl, hB⟩; have BB := Hid.mk hB; clear hB HAL)
      obtain ⟨X1, hX1⟩ : ∃ X1, X1 = W3.alloc (.cells #[.int .i64 1, .int .i64 2, .int .i64 0, .int .i64 0, .slice none 0 0, .slice none 0 0] 39) := ⟨_, rfl⟩
      have hBX : Below w.heap.size w X1 := by rw [hX1]; exact BB.out.alloc BB.out.size _
      have gX1 : X1.heap[W3.heap.size]? = some (.cells #[.int .i64 1, .int .i64 2, .int .i64 0, .int .i64 0, .slice none 0 0, .slice none 0 0] 39 (0, 0)) := by rw [hX1]; exact blk_new W3 _
      have hlo := BB.out.size
      rw [← hX1]
      generalize W3.heap.size = bx at *
      have HLO := Hid.mk hlo
      have HI0 : Hid (LinI w bx 0 none 0 X1) := Hid.mk ⟨World.ownsRow_nil _ _ _ _, gX1, hBX⟩
      clear hX1 hBX gX1 hlo BB
      go_wp2
      go_loopw [5] (fun iv wr => ∃ (i : Nat) (so : Option Addr) (sc : Nat), i ≤ n ∧ iv = .int .i64 (i : Int) ∧ Hid (LinI w bx i so sc wr)) (fun iv _ => ((n : Int) - Go.RowKit.intOf iv).toNat)
      case atStart => exact ⟨0, none, 0, by omega, rfl, HI0⟩
      case round =>
        obtain ⟨i, so, sc, hi, rfl, HK⟩ := hrel
        clear HI0
        have hi0 : (0 : Int) ≤ (i : Int) := by omega
        by_cases hlt : i < n
        · have hil : (i : Int) < (n : Int) := by omega
          have hii : IntKind.i64.wrap ((i : Int) + 1) = (i : Int) + 1 := by rw [IntKind.wrap_i64]; omega
          have HLT := Hid.mk hlt
          have hKD := HK.out.blw (Below.refl wr.heap.size wr).drew
          obtain ⟨so', sc', W6, hap, c6, f6, hI6⟩ := hKD.next HLO.out (by omega)
          have HAP := Hid.mk hap
          have HC6 := Hid.mk (And.intro c6 f6)
          have HI6 := Hid.mk hI6
          have HC5 : Hid (wr.drew.cell? ⟨bx, 5, none⟩ = some (.slice so (i * 2) sc) ∧ (wr.drew.alloc (.cells (lkC i).toArray 41)).cell? ⟨bx, 5, none⟩ = some (.slice so (i * 2) sc)) := Hid.mk (by
            have d5 := blk_cell hKD.box 5
            simp at d5
            refine ⟨d5, ?_⟩
            rw [World.cell?_of_block (w := wr.drew) (Below.heap_alloc _ _ _ (lt_of_block hKD.box))]
            exact d5)
          clear hap c6 f6 hI6 hKD hlt
          go_upto_region 8 with fail
          refine wp_region_held_drew (S := fun (_ : World) => True) (by kernel_rfl) trivial (fun hH => ?_)
          change wpAnyH Try.prog Region.Mode.any _ _ _ 12 _ _ _
          refine takeH 0 30 (.pointer (some ⟨bx, 5, none⟩)) rfl (by kernel_rfl) (by kernel_rfl) (by kernel_rfl) (by kernel_rfl) (fun _ _ _ h => h) (by kernel_rfl) (fun w hw => by (try dsimp only at hw); go_simp) hH ?_
          simp only [List.setIfInBounds_toArray, List.set_cons_zero, List.set_cons_succ]
          refine takeH 2 32 (.int .i64 (i : Nat)) rfl (by kernel_rfl) (by kernel_rfl) (by kernel_rfl) (by kernel_rfl) (fun _ _ _ h => h) (by kernel_rfl) (fun w hw => by (try dsimp only at hw); go_simp) hH ?_
          simp only [List.setIfInBounds_toArray, List.set_cons_zero, List.set_cons_succ]
          refine takeH 3 33 (.int .i64 (i : Nat)) rfl (by kernel_rfl) (by kernel_rfl) (by kernel_rfl) (by kernel_rfl) (fun _ _ _ h => h) (by kernel_rfl) (fun w hw => by (try dsimp only at hw); go_simp) hH ?_
          simp only [List.setIfInBounds_toArray, List.set_cons_zero, List.set_cons_succ]
          refine takeH 4 34 (.int .i64 ((i : Int) + 1)) rfl (by kernel_rfl) (by kernel_rfl) (by kernel_rfl) (by kernel_rfl) (fun _ _ _ h => h) (by kernel_rfl) (fun w hw => by (try dsimp only at hw); go_simp) hH ?_
          simp only [List.setIfInBounds_toArray, List.set_cons_zero, List.set_cons_succ]
          refine takeH 5 35 (.string (lS i)) rfl (by kernel_rfl) (by kernel_rfl) (by kernel_rfl) (by kernel_rfl) (fun _ _ _ h => h) (by kernel_rfl) (fun w hw => by exact exec_letter (x := .tmp 32) (y := .tmp 34) i (by omega) rfl (by kernel_rfl) (by kernel_rfl) (by kernel_rfl)) hH ?_
          simp only [List.setIfInBounds_toArray, List.set_cons_zero, List.set_cons_succ]
          refine takeH 6 36 (.agg #[.int .i64 7, .string (lS i)]) rfl (by kernel_rfl) (by kernel_rfl) (by kernel_rfl) (by kernel_rfl) (fun _ _ _ h => h) (by kernel_rfl) (fun w hw => by (try dsimp only at hw); go_simp) hH ?_
          simp only [List.setIfInBounds_toArray, List.set_cons_zero, List.set_cons_succ]
          refine takeH 7 37 (.agg #[.int .i64 0, .string ⟨#[]⟩]) rfl (by kernel_rfl) (by kernel_rfl) (by kernel_rfl) (by kernel_rfl) (fun _ _ _ h => h) (by kernel_rfl) (fun w hw => by (try dsimp only at hw); go_simp) hH ?_
          simp only [List.setIfInBounds_toArray, List.set_cons_zero, List.set_cons_succ]
          refine stepH_two 1 8 (by kernel_rfl) ?_ ?_
          · refine opH_run 1 31 (.slice so (i * 2) sc) wr.drew rfl (by kernel_rfl) (by kernel_rfl) (exec_ldE (x := .tmp 30) rfl (by kernel_rfl) HC5.out.1) trivial ?_
            simp only [List.setIfInBounds_toArray, List.set_cons_zero, List.set_cons_succ]
            refine stepH_run 8 38 (.slice (some ⟨wr.drew.heap.size, 0, none⟩) 2 2) (wr.drew.alloc (.cells (lkC i).toArray 41)) rfl (by kernel_rfl) (by kernel_rfl) (by kernel_rfl) (exec_twoE (x := .tmp 36) (y := .tmp 37) rfl (by kernel_rfl) (by kernel_rfl)) trivial ?_
            simp only [List.setIfInBounds_toArray, List.set_cons_zero, List.set_cons_succ]
            refine stepH_run 9 39 (.slice so' ((i + 1) * 2) sc') W6 rfl (by kernel_rfl) (by kernel_rfl) (by kernel_rfl) (exec_append (s := .tmp 31) (x := .tmp 38) (by kernel_rfl) (by kernel_rfl) (by kernel_rfl) HAP.out) trivial ?_
            simp only [List.setIfInBounds_toArray, List.set_cons_zero, List.set_cons_succ]
            refine stepH 10 40 (.pointer (some ⟨bx, 5, none⟩)) rfl (by kernel_rfl) (by kernel_rfl) (by kernel_rfl) (by go_simp) trivial ?_
            simp only [List.setIfInBounds_toArray, List.set_cons_zero, List.set_cons_succ]
            refine stepH_one 11 (by kernel_rfl) ?_
            refine opH_store 11 (W6.setCell ⟨bx, 5, none⟩ (.slice so' ((i + 1) * 2) sc')) rfl (by kernel_rfl) (by kernel_rfl) (exec_stE (p := .tmp 40) (x := .tmp 39) rfl (by kernel_rfl) (by kernel_rfl) HC6.out.1 HC6.out.2) trivial ?_
            refine wpAnyH_done (by kernel_rfl) ?_ _
            go_wp2
            refine ⟨⟨i + 1, so', sc', HLT.out, by push_cast; rfl, HI6⟩, by simp [Go.RowKit.intOf]; omega⟩
          · refine opH_run 8 38 (.slice (some ⟨wr.drew.heap.size, 0, none⟩) 2 2) (wr.drew.alloc (.cells (lkC i).toArray 41)) rfl (by kernel_rfl) (by kernel_rfl) (exec_twoE (x := .tmp 36) (y := .tmp 37) rfl (by kernel_rfl) (by kernel_rfl)) trivial ?_
            simp only [List.setIfInBounds_toArray, List.set_cons_zero, List.set_cons_succ]
            refine stepH_run 1 31 (.slice so (i * 2) sc) (wr.drew.alloc (.cells (lkC i).toArray 41)) rfl (by kernel_rfl) (by kernel_rfl) (by kernel_rfl) (exec_ldE (x := .tmp 30) rfl (by kernel_rfl) HC5.out.2) trivial ?_
            simp only [List.setIfInBounds_toArray, List.set_cons_zero, List.set_cons_succ]
            refine stepH_run 9 39 (.slice so' ((i + 1) * 2) sc') W6 rfl (by kernel_rfl) (by kernel_rfl) (by kernel_rfl) (exec_append (s := .tmp 31) (x := .tmp 38) (by kernel_rfl) (by kernel_rfl) (by kernel_rfl) HAP.out) trivial ?_
            simp only [List.setIfInBounds_toArray, List.set_cons_zero, List.set_cons_succ]
            refine stepH 10 40 (.pointer (some ⟨bx, 5, none⟩)) rfl (by kernel_rfl) (by kernel_rfl) (by kernel_rfl) (by go_simp) trivial ?_
            simp only [List.setIfInBounds_toArray, List.set_cons_zero, List.set_cons_succ]
            refine stepH_one 11 (by kernel_rfl) ?_
            refine opH_store 11 (W6.setCell ⟨bx, 5, none⟩ (.slice so' ((i + 1) * 2) sc')) rfl (by kernel_rfl) (by kernel_rfl) (exec_stE (p := .tmp 40) (x := .tmp 39) rfl (by kernel_rfl) (by kernel_rfl) HC6.out.1 HC6.out.2) trivial ?_
            refine wpAnyH_done (by kernel_rfl) ?_ _
            go_wp2
            refine ⟨⟨i + 1, so', sc', HLT.out, by push_cast; rfl, HI6⟩, by simp [Go.RowKit.intOf]; omega⟩
        · obtain rfl : i = n := by omega
          have hE := HK.out.own
          have b0 := blk_cell HK.out.box 0
          have b1 := blk_cell HK.out.box 1
          have b2 := blk_cell HK.out.box 2
          have b3 := blk_cell HK.out.box 3
          have b4 := blk_cell HK.out.box 4
          have b5 := blk_cell HK.out.box 5
          simp at b0 b1 b2 b3 b4 b5
          have HE := Hid.mk hE
          clear hE
          go_upto_region 10 with fail
          obtain ⟨X2, hX2⟩ : ∃ X2, X2 = wr.alloc (.cells #[.int .i64 7, .int .i64 1, .int .i64 (i : Int), .int .i64 0, .slice none 0 0, .slice none 0 0, .int .i64 1, .int .i64 2, .int .i64 0, .int .i64 0, .slice none 0 0, .slice so (i * 2) sc] 39) := ⟨_, rfl⟩
          have gX2 : X2.heap[wr.heap.size]? = some (.cells #[.int .i64 7, .int .i64 1, .int .i64 (i : Int), .int .i64 0, .slice none 0 0, .slice none 0 0, .int .i64 1, .int .i64 2, .int .i64 0, .int .i64 0, .slice none 0 0, .slice so (i * 2) sc] 39 (0, 0)) := by rw [hX2]; exact blk_new wr _
          have hB2 : Below w.heap.size w X2 := by rw [hX2]; exact HK.out.below.alloc HK.out.below.size _
          have hE2 : EnAt X2 so (i * 2) lkE := (EnAt_of HK.out.own).blw (by rw [hX2]; exact (Below.refl _ wr).alloc (Nat.le_refl _) _)
          have hNA := lkN_at gX2 hE2 hn2
          rw [← hX2]
          generalize wr.heap.size = lb at *
          obtain ⟨N, hN⟩ : ∃ N, N = lkN i so sc := ⟨_, rfl⟩
          have hok : LinkOk i N := by rw [hN]; exact lkN_ok i so sc
          have hsm : Sml 2 N := by rw [hN]; exact lkN_sml i so sc hn2
          have hnm : ∀ d j, d < 2 → j < (N d).sn → ((N d).E j).nm.size ≤ 1000 := fun d j hd hj => by
            rw [hN] at hj ⊢
            match d, hd with
            | 0, _ => exact absurd hj (Nat.not_lt_zero j)
            | 1, _ => exact Nat.le_trans (lkE_nm j) (by omega)
          rw [← hN] at hNA
          obtain ⟨PL, hPL⟩ : ∃ PL, PL = (List.range i).map (fun i => catB ⟨#[]⟩ (lS i)) := ⟨_, rfl⟩
          have hpl : pathsS 2 N = PL := by rw [hPL]; exact hok.paths
          have hpn : PL.length = i := by rw [hPL]; simp
          have HP : Hid (∀ W, Below X2.heap.size X2 W → Calls Try.prog 14 #[.slice (some ⟨lb, 0, none⟩) 2 2] W fun e w' => ∃ v, e = .returned v ∧ w'.ownsRow W.heap.size 9 1 v i (Sb PL) ∧ Below W.heap.size W w') := Hid.mk (fun W hB => by
            have h1 := paths_any W (some ⟨lb, 0, none⟩) 2 2 N (hNA.blw hB) hnm (by omega) (by rw [hpl, hpn]; omega)
            rw [hpl, hpn] at h1
            exact h1)
          have HR : Hid (∀ W, Below X2.heap.size X2 W → Calls Try.prog 16 #[.slice (some ⟨lb, 0, none⟩) 2 2] W fun e w' => ∃ na k nc K, e = .returned (.slice na k nc) ∧ Below W.heap.size W w' ∧ AnsAt W.heap.size k (.slice na k nc) K w' ∧ IsRen 2 N k K) := Hid.mk (fun W hB => renumber_ans W (some ⟨lb, 0, none⟩) 2 2 N (hNA.blw hB) hsm)
          have HF : Hid (∀ W j, Below X2.heap.size X2 W → j < i → Calls Try.prog 11 #[.slice (some ⟨lb, 0, none⟩) 2 2, .string (PL.getD j ⟨#[]⟩)] W fun e w' => e = .returned (.tuple #[.int .i64 0, .int .i64 0]) ∧ Below W.heap.size W w') := Hid.mk (fun W j hB hj => by
            have e1 : PL.getD j ⟨#[]⟩ = catB ⟨#[]⟩ (lS j) := by rw [hPL]; simp [List.getD, hj]
            have h1 := find_any W (some ⟨lb, 0, none⟩) 2 2 N (catB ⟨#[]⟩ (lS j)) (hNA.blw hB) (by omega) (by rw [catB_size, lS_size]; decide)
            rw [hok.find hn2 hj] at h1
            rw [e1]
            exact h1)
          have HOK := Hid.mk hok
          have HSM := Hid.mk hsm
          have HWX := Hid.mk hB2
          have BK := Hid.mk (Below.refl X2.heap.size X2)
          clear hX2 gX2 hB2 hE2 hNA hN hok hsm hnm hPL hpl HE HK b0 b1 b2 b3 b4 b5
          go_upto_region 12 with (first
            | (go_at_call 14; with_reducible refine (HP.out _ BK.out).mono ?_; rintro e W4 ⟨v, rfl, hv, hB⟩; obtain ⟨pa, pc, rfl⟩ := owns_slice hv; have HV := Hid.mk hv; replace BK := Hid.mk (BK.out.trans (hB.mono BK.out.size)); clear hv hB HP)
            | (go_at_call 16; with_reducible refine (HR.out _ BK.out).mono ?_; rintro e W5 ⟨na, k, nc, K, rfl, hB, hA, hR⟩; have HA := Hid.mk hA; have HR1 := Hid.mk hR; have HB5 := Hid.mk hB; replace BK := Hid.mk (BK.out.trans (hB.mono BK.out.size)); clear hB hA hR HR))
          obtain ⟨rfl, ⟨k0i, k0k, k0s, k0e⟩, k1i, k1k⟩ := HOK.out.ren hn1 HR1.out
          obtain ⟨mb, nc', e, -, -, hmo, -⟩ := owns_some HA.out.row (by omega)
          cases e
          have m00 : W5.cell? ⟨mb, 0, none⟩ = some (.int .i64 1) := by
            have h := (owns_cellG HA.out.row hmo (0 * 6 + 0) (by omega)).1.trans (Ny_get _ 0 0 (by simp) (by omega))
            rw [map_getD (by omega)] at h
            simpa [noC, k0i] using h
          have m01 : W5.cell? ⟨mb, 1, none⟩ = some (.int .i64 2) := by
            have h := (owns_cellG HA.out.row hmo (0 * 6 + 1) (by omega)).1.trans (Ny_get _ 0 1 (by simp) (by omega))
            rw [map_getD (by omega)] at h
            simpa [noC, k0k] using h
          have m10 : W5.cell? ⟨mb, 6, none⟩ = some (.int .i64 2) := by
            have h := (owns_cellG HA.out.row hmo (1 * 6 + 0) (by omega)).1.trans (Ny_get _ 1 0 (by simp) (by omega))
            rw [map_getD (by omega)] at h
            simpa [noC, k1i] using h
          have m11 : W5.cell? ⟨mb, 7, none⟩ = some (.int .i64 1) := by
            have h := (owns_cellG HA.out.row hmo (1 * 6 + 1) (by omega)).1.trans (Ny_get _ 1 1 (by simp) (by omega))
            rw [map_getD (by omega)] at h
            simpa [noC, k1k] using h
          have HMO := Hid.mk hmo
          have HKS := Hid.mk (And.intro k0s k0e)
          have HLN := Hid.mk hpn
          clear hmo k0s k0e k0i k0k k1i k1k hpn
          go_upto_region 14 with fail
          clear m00 m01 m10 m11
          obtain ⟨gs, scx, e, -, -, hgs, -⟩ := owns_some (HA.out.own 0 (by omega)).slots (by rw [HKS.out.1]; omega)
          obtain ⟨sc2, hsc2⟩ : ∃ x, x = (K 0).sc := ⟨_, rfl⟩
          have hso2 : (K 0).so = some ⟨gs, 0, none⟩ := by
            unfold slV at e
            injection e
          have HCL : Hid (∀ W j, Below W5.heap.size W5 W → j < i → W.cell? ⟨mb, 5, none⟩ = some (.slice (some ⟨gs, 0, none⟩) (i * 2) sc2) ∧ W.cell? ⟨gs, 2 * j * 2, none⟩ = some (.int .i64 2) ∧ W.cell? ⟨gs, (2 * j + 1) * 2, none⟩ = some (.int .i64 0)) := Hid.mk (fun W j hB hj => by
            have hA := HA.out.blw hB
            have hsn := HKS.out.1
            obtain ⟨q1, q2⟩ := HKS.out.2 j hj
            refine ⟨?_, ?_, ?_⟩
            · have h := (owns_cellG hA.row HMO.out (0 * 6 + 5) (by omega)).1.trans (Ny_get _ 0 5 (by simp) (by omega))
              rw [map_getD (by omega)] at h
              simpa [noC, hso2, hsn, hsc2] using h
            · have h := (owns_cellG (hA.own 0 (by omega)).slots hgs (2 * j * 2) (by rw [hsn]; omega)).1.trans (Ey_get _ _ (2 * j) (by rw [hsn]; omega)).1
              rw [show 2 * j = j * 2 by omega, q1] at h
              rw [show 2 * j = j * 2 by omega]
              exact h
            · have h := (owns_cellG (hA.own 0 (by omega)).slots hgs ((2 * j + 1) * 2) (by rw [hsn]; omega)).1.trans (Ey_get _ _ (2 * j + 1) (by rw [hsn]; omega)).1
              rw [show 2 * j = j * 2 by omega, q2] at h
              rw [show 2 * j = j * 2 by omega]
              exact h)
          have HRW : Hid (∀ W j, Below W5.heap.size W5 W → j < i → ∃ pg, pa = some ⟨pg, 0, none⟩ ∧ W.cell? ⟨pg, j, none⟩ = some (.string (PL.getD j ⟨#[]⟩))) := Hid.mk (fun W j hB hj => by
            obtain ⟨pg, q3, e3, -, l3, r3⟩ := owns_str HV.out (by omega)
            cases e3
            refine ⟨pg, rfl, ?_⟩
            rw [World.cell?_of_block (w := W4) (a := ⟨pg, j, none⟩) ((hB.block _ (Nat.lt_of_lt_of_le l3 HB5.out.size)).trans (HB5.out.block _ l3))]
            exact r3 j hj)
          clear e hsc2 hso2 hgs
          go_wp2
          go_loopw [9] (fun jv wr => ∃ j : Nat, j ≤ i ∧ jv = .int .i64 (j : Int) ∧ Hid (Below W5.heap.size W5 wr)) (fun jv _ => ((i : Int) - Go.RowKit.intOf jv).toNat)
          case atStart => exact ⟨0, by omega, rfl, Hid.mk (Below.refl _ _)⟩
          case round =>
            obtain ⟨j, hj, rfl, HJ⟩ := hrel
            have hj0 : (0 : Int) ≤ (j : Int) := by omega
            by_cases hlt : j < i
            · obtain ⟨pg, rfl, cp⟩ := HRW.out wr j HJ.out hlt
              have hji : (j : Int) < (i : Int) := by omega
              have hjj : IntKind.i64.wrap ((j : Int) + 1) = (j : Int) + 1 := by rw [IntKind.wrap_i64]; omega
              have HFJ := Hid.mk (HF.out wr j (BK.out.trans (HJ.out.mono BK.out.size)) hlt)
              have HLT := Hid.mk hlt
              generalize PL.getD j ⟨#[]⟩ = st at *
              go_upto_region 18 with (go_at_call 11; with_reducible refine HFJ.out.mono ?_; rintro e W7 ⟨rfl, hB⟩; have HB7 := Hid.mk (HJ.out.trans (hB.mono HJ.out.size)); clear hB HFJ)
              obtain ⟨d0, d1, d2⟩ := HCL.out _ j HB7.out HLT.out
              clear cp
              go_wp2_with (go_at_call 13; refine (num_any _ _).mono ?_; rintro r W8 ⟨rfl, hW8⟩; subst hW8)
              exact ⟨⟨j + 1, HLT.out, by push_cast; rfl, HB7⟩, by simp [Go.RowKit.intOf]; omega⟩
            · obtain rfl : j = i := by omega
              have HAG := Hid.mk (renumber_ans wr (some ⟨mb, 0, none⟩) 2 nc K (HA.out.blw HJ.out).NoAt (HR1.out.sml HSM.out))
              have HZ : Hid (∀ W x xa xc X, Below wr.heap.size wr W → NoAt W xa x X → IsRen 2 K x X → Calls Try.prog 19 #[.slice xa x xc, .slice (some ⟨mb, 0, none⟩) 2 nc] W fun e w' => e = .returned (.bool true) ∧ Below W.heap.size W w') := Hid.mk (fun W x xa xc X hB hX hR => by
                obtain ⟨rfl, hv⟩ := IsRen.again HR1.out hR
                have h1 := rsame_any W xa 2 xc (some ⟨mb, 0, none⟩) 2 nc X K hX ((HA.out.blw HJ.out).blw hB).NoAt (by omega)
                rw [sameL_same (fun a ha => (hv a ha).symm)] at h1
                exact h1)
              have BZ : Hid (Below w.heap.size w wr) := Hid.mk ((HWX.out.trans (BK.out.mono HWX.out.size)).trans (HJ.out.mono (Nat.le_trans HWX.out.size BK.out.size)))
              clear HCL HRW HF
              go_wp2_with (first
                | (go_at_call 16; with_reducible refine HAG.out.mono ?_; rintro e W11 ⟨xa, x, xc, X, rfl, hB, hA, hR⟩; have HXA := Hid.mk hA.NoAt; have HXR := Hid.mk hR; have HB11 := Hid.mk hB; replace BZ := Hid.mk (BZ.out.trans (hB.mono BZ.out.size)); clear hB hA hR HAG)
                | (go_at_call 19; with_reducible refine (HZ.out _ _ _ _ _ HB11.out HXA.out HXR.out).mono ?_; rintro e W12 ⟨rfl, hB⟩; replace BZ := Hid.mk (BZ.out.trans (hB.mono BZ.out.size)); clear hB HZ))
              refine bodyPost_ret (results_tmp rfl _ _ _) rfl ?_
              exact ⟨rfl, BZ.out⟩
end Go.Proofs.Ytbahbhaoimabdaa
