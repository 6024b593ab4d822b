/-
  Head of the program.
-/
import Derived.Test.YteegopccpgbakaaSupBitRows
namespace Go.Proofs.Yteegopccpgbakaa
open Go Go.Proofs Go.RowKit Go.Shelf
namespace Sup
/-- The head of a group. -/
def headL (k I D : Int) (xs ys : List Int) : List Int := [67, 71] ++ leL k 2 ++ zeros 12 ++ maskL xs (nI I) 48 ++ maskL ys (nD D) 960
theorem headL_length (k I D : Int) (xs ys : List Int) : (headL k I D xs ys).length = 1024 := by simp [headL, leL_length, zeros_length, maskL_length]
theorem headL_bound (k I D : Int) (xs ys : List Int) (hx : ∀ x ∈ xs, 0 ≤ x ∧ x ≤ 255) (hy : ∀ x ∈ ys, 0 ≤ x ∧ x ≤ 255) : ∀ x ∈ headL k I D xs ys, 0 ≤ x ∧ x ≤ 255 := by
  intro x h
  simp only [headL, List.mem_append] at h
  rcases h with (((h | h) | h) | h) | h
  · have : ∀ x ∈ ([67, 71] : List Int), 0 ≤ x ∧ x ≤ 255 := by decide
    exact this x h
  · exact leL_bound _ _ x h
  · exact zeros_bound _ x h
  · exact maskL_bound xs _ _ hx x h
  · exact maskL_bound ys _ _ hy x h
theorem exec_copy {P : Program} {ev : Operand → Value} {oi : Oper} {t u : TypeId} {d s : Operand} {v vx v' : Value} {w w' : World} (ho : oi.op = .call { callee := .builtin .copy, args := #[d, s], argTypes := #[t, u] }) (hd : ev d = v) (hx : ev s = vx) (h : (Builtin.copy_ #[t, u] oi.type #[v, vx]).run P w = .ok v' w') : (execOp ev oi).run P w = .ok (.value v') w' := by
  unfold execOp
  rw [ho]
  simp only [resolve, invoke, builtin, Sem.run_bind, Sem.run_pure, Result.andThen_ok, List.map_toArray, List.map_cons, List.map_nil, hd, hx, h]
theorem cg_bytes : Lib.byteCells (ByteArray.mk #[67, 71]).data.toList = By [67, 71] := by rfl
theorem splice_cg : splice (zeros 1024) 0 [67, 71] = [67, 71] ++ zeros (1024 - 2) := by
  have h := splice_zero 1024 [] [67, 71] 0 rfl (by decide)
  simpa using h
theorem put_eq (k : Int) : splice ([67, 71] ++ zeros (1024 - 2)) 2 (leL k 2) = [67, 71] ++ leL k 2 ++ zeros 12 ++ zeros (1024 - 16) := by
  rw [splice_zero 1024 [67, 71] (leL k 2) 2 rfl (by rw [leL_length]; omega), leL_length, show 1024 - (2 + 2) = 12 + (1024 - 16) by omega, zeros_add]
  simp
theorem a_eq (k I : Int) (xs : List Int) (hI : nI I ≤ 64) : splice ([67, 71] ++ leL k 2 ++ zeros 12 ++ zeros (1024 - 16)) 16 (List.take (min 8 1008) (maskL xs (nI I) 8)) = [67, 71] ++ leL k 2 ++ zeros 12 ++ maskL xs (nI I) 48 ++ zeros (1024 - 64) := by
  rw [List.take_of_length_le (by rw [maskL_length]; omega), splice_zero 1024 _ _ 16 (by simp [leL_length, zeros_length]) (by rw [maskL_length]; omega), maskL_length, show 1024 - (16 + 8) = 40 + (1024 - 64) by omega, zeros_add, ← maskL_pad xs (nI I) 8 40 (by omega)]
  simp
theorem b_eq (k I D : Int) (xs ys : List Int) (n : Nat) (hn : n = bD D) (hD : nD D ≤ 8 * n) (h8 : n ≤ 125) : splice ([67, 71] ++ leL k 2 ++ zeros 12 ++ maskL xs (nI I) 48 ++ zeros (1024 - 64)) 64 (List.take (min n 960) (maskL ys (nD D) n)) = headL k I D xs ys := by
  rw [List.take_of_length_le (by rw [maskL_length]; omega), splice_zero 1024 _ _ 64 (by simp [leL_length, zeros_length, maskL_length]) (by rw [maskL_length]; omega), maskL_length, List.append_assoc, maskL_pad ys (nD D) n _ hD, show n + (1024 - (64 + n)) = 960 by omega]
  rfl
theorem head_put {w W2 : World} {b g : Nat} {G I D k : Int} (h : PkAt w b g G I D ([67, 71] ++ zeros (1024 - 2)) W2) (hk0 : 0 ≤ k) (hk1 : k ≤ 65535) :
    Calls Try.prog 42 #[.slice (some ⟨g, 2, none⟩) 1022 1022, .slice (some ⟨W2.heap.size, 0, none⟩) 1 1] (W2.alloc (.cells (Iy [k]).toArray 3)) fun e w' => e = .returned (.int .i64 2) ∧ PkAt w b g G I D ([67, 71] ++ leL k 2 ++ zeros 12 ++ zeros (1024 - 16)) w' := by
  have hPX := h.then ((Below.refl _ W2).alloc (Nat.le_refl _) (.cells (Iy [k]).toArray 3))
  have hlt := h.row.lt
  refine (put16_any _ g 2 1022 1022 ([67, 71] ++ zeros (1024 - 2)) (some ⟨W2.heap.size, 0, none⟩) 1 1 [k] hPX.row (lat_newi W2 [k]) (fun a e => by cases e; exact Nat.ne_of_gt hlt) (fun x hx => by simp at hx; omega) (by omega) (by simp [zeros_length]) (by omega)).mono ?_
  rintro e w' ⟨rfl, h1, h2⟩
  rw [show leLs 2 [k] = leL k 2 by simp [leLs], put_eq] at h1
  exact ⟨rfl, hPX.put h1 h2⟩
theorem phead_no (w : World) (G I D k : Int) (hk : hdB G I D k = false) (ao bo : Option Addr) (n c m d : Nat) :
    Calls Try.prog 25 #[geo G I D, .int .i64 k, .slice ao n c, .slice bo m d] w fun e w' => e = .returned (.tuple #[.slice none 0 0, .int .i64 1]) ∧ Below w.heap.size w w' := by
  have HH : Hid (∀ W : World, Calls Try.prog 26 #[geo G I D, .int .i64 k] W fun e w' => e = .returned (.tuple #[.int .i64 (hdI G I D k), .bool false]) ∧ Below W.heap.size W w') := Hid.mk (fun W => by
    have h := head_any W G I D k
    rwa [hk] at h)
  clear hk
  go_enter Try.func25, Try.ntmps25
  go_wp2_with (go_at_call 26; refine (HH.out _).mono ?_; rintro e w1 ⟨rfl, hB⟩; obtain ⟨hG1, hB1⟩ := behind hB; have HB1 := Hid.mk hB1; clear hB hG1 hB1)
  go_ret2
  exact ⟨rfl, HB1.out⟩
theorem hdB_good {G I D k : Int} (h : hdB G I D k = true) : good G I D = true ∧ 0 ≤ k ∧ k < G := by
  unfold hdB at h
  simp at h
  exact ⟨h.1, h.2.1, h.2.2⟩
set_option maxRecDepth 100000 in
set_option maxHeartbeats 4000000 in
theorem phead_yes (w : World) (G I D k : Int) (hk : hdB G I D k = true) (ao bo : Option Addr) (n c m d : Nat) (xs ys : List Int) (hxa : BAt w ao n xs) (hya : BAt w bo m ys) (hxb : ∀ x ∈ xs, 0 ≤ x ∧ x ≤ 255) (hyb : ∀ x ∈ ys, 0 ≤ x ∧ x ≤ 255) (hxn : ao = none → n = 0 ∧ c = 0) (hyn : bo = none → m = 0 ∧ d = 0) :
    Calls Try.prog 25 #[geo G I D, .int .i64 k, .slice ao n c, .slice bo m d] w fun e w' => ∃ g, e = .returned (.tuple #[.slice (some ⟨g, 0, none⟩) 1024 1024, .int .i64 0]) ∧ RAt w' g (headL k I D xs ys) ∧ w.heap.size ≤ g ∧ Below w.heap.size w w' := by
  have HH : Hid (∀ W : World, Calls Try.prog 26 #[geo G I D, .int .i64 k] W fun e w' => e = .returned (.tuple #[.int .i64 (hdI G I D k), .bool true]) ∧ Below W.heap.size W w') := Hid.mk (fun W => by
    have h := head_any W G I D k
    rwa [hk] at h)
  obtain ⟨hg, hk0, hk1⟩ := hdB_good hk
  have hb := good_iff.1 hg
  have hDb : nD D ≤ 8 * bD D := by unfold nD bD; omega
  have hD8 : bD D ≤ 125 := by unfold bD; omega
  have HIb : Hid (nI I ≤ 64) := Hid.mk (by unfold nI; omega)
  have HG := Hid.mk hg
  have HXA : Hid (∀ W, Below w.heap.size w W → BAt W ao n xs) := Hid.mk (fun W hB => hxa.new hB (Nat.le_refl _))
  have HYA : Hid (∀ W, Below w.heap.size w W → BAt W bo m ys) := Hid.mk (fun W hB => hya.new hB (Nat.le_refl _))
  have HXB := Hid.mk hxb
  have HYB := Hid.mk hyb
  have HXN := Hid.mk hxn
  have HYN := Hid.mk hyn
  clear hk hg hxa hya hxb hyb hxn hyn
  generalize hdI G I D k = hd at *
  go_enter Try.func25, Try.ntmps25
  go_wp2_with (first
    | (go_at_call 26; refine (HH.out _).mono ?_; rintro e w1 ⟨rfl, hB⟩; obtain ⟨hG1, hB1⟩ := behind hB; obtain ⟨g, hge⟩ : ∃ g, g = w1.heap.size := ⟨_, rfl⟩; have hP0 : PkAt w w.heap.size g G I D (zeros 1024) (w1.alloc (.cells (By (zeros 1024)).toArray 5)) := ⟨hG1.below ((Below.refl _ w1).alloc (Nat.le_refl _) _) hG1.lt, by rw [hge]; exact blk_new w1 _, hB1.alloc hB1.size _, by rw [hge]; exact Nat.ne_of_lt hG1.lt, by rw [hge]; exact hB1.size⟩; obtain ⟨W2, r2, hr2, ho2⟩ := copy_str_run _ g 1024 1024 (zeros 1024) [67, 71] _ hP0.row cg_bytes (by decide) (by rw [zeros_length]; omega); rw [splice_cg] at hr2; change _ = Result.ok (Value.int .i64 2) W2 at r2; have HP := Hid.mk (hP0.put hr2 ho2); have HR2 := Hid.mk r2; have HMK := Hid.mk (make_run w1 1024 (by omega)); rw [← hge] at HMK; have HGE := Hid.mk hge; clear hB hG1 hB1 hP0 r2 hr2 ho2 hge)
    | (at_make; refine wpList_make_known rfl _ _ 26 rfl _ _ _ _ rfl rfl HMK.out ?_)
    | (refine wpList_copy_known rfl (.tmp 23) (.const (.string ⟨#[67, 71]⟩)) 26 9 rfl _ _ _ _ rfl rfl HR2.out ?_)
    | (go_at_call 42; refine (head_put HP.out hk0 (by omega)).mono ?_; rintro e Wa ⟨rfl, hP⟩; clear HP; have HP := Hid.mk hP; clear hP))
  have HK : Hid (∀ W', Below Wa.heap.size Wa.drew W' → PkAt w w.heap.size g G I D ([67, 71] ++ leL k 2 ++ zeros 12 ++ zeros (1024 - 16)) W' ∧ Below w.heap.size w W') := Hid.mk (fun W' hB => ⟨HP.out.drew.then hB, HP.out.below.drew.trans (hB.mono HP.out.below.size)⟩)
  refine wp_region_held_drew (S := G3 w.heap.size G I D) (by kernel_rfl) HP.out.geo.g3 (fun hH => ?_)
  change wpAnyH Try.prog Region.Mode.any _ _ _ 6 _ _ _
  refine takeH 0 31 (.slice (some ⟨g, 0, none⟩) 1024 1024) rfl (by kernel_rfl) (by kernel_rfl) (by kernel_rfl) (by kernel_rfl) (fun _ _ _ h => h) (by kernel_rfl) (fun w hw => by kernel_rfl) hH ?_
  simp only [List.setIfInBounds_toArray, List.set_cons_zero, List.set_cons_succ]
  refine takeH 1 32 (.slice (some ⟨g, 16, none⟩) 1008 1008) rfl (by kernel_rfl) (by kernel_rfl) (by kernel_rfl) (by kernel_rfl) (fun _ _ _ h => h) (by kernel_rfl) (fun w hw => by ((try dsimp only at hw); go_simp)) hH ?_
  simp only [List.setIfInBounds_toArray, List.set_cons_zero, List.set_cons_succ]
  refine takeH 2 33 (geo G I D) rfl (by kernel_rfl) (by kernel_rfl) (by kernel_rfl) (by kernel_rfl) (fun _ _ _ h => h) (by kernel_rfl) (fun w hw => by ((try dsimp only at hw); go_simp)) hH ?_
  simp only [List.setIfInBounds_toArray, List.set_cons_zero, List.set_cons_succ]
  refine takeH 3 34 (.slice ao n c) rfl (by kernel_rfl) (by kernel_rfl) (by kernel_rfl) (by kernel_rfl) (fun _ _ _ h => h) (by kernel_rfl) (fun w hw => by kernel_rfl) hH ?_
  simp only [List.setIfInBounds_toArray, List.set_cons_zero, List.set_cons_succ]
  refine stepH_call 4 35 rfl (by kernel_rfl) (by kernel_rfl) (by kernel_rfl) 43 #[.tmp 33, .tmp 34] #[23, 26] (by kernel_rfl) (enters_of Try.func43 (by kernel_rfl) rfl) #[geo G I D, .slice ao n c] (by kernel_rfl) (inoderow_any _ G I D HG.out ao n c xs (HXA.out _ HP.out.below.drew) HXB.out HXN.out) ?_
  rintro e Va ⟨gr, rfl, hrow, hge, hB⟩
  obtain ⟨hP5, hB5⟩ := HK.out Va hB
  obtain ⟨Wb, hcr, hcw, hco⟩ := copy_run Va g 16 1008 1008 _ _ (some ⟨gr, 0, none⟩) 8 8 hP5.row (hrow.full (maskL_length _ _ _)) (by simp) (by simp [zeros_length, leL_length])
  have HP2 := Hid.mk (hP5.put hcw hco)
  have hH5 := hP5.geo.g3
  have HCR := Hid.mk hcr
  clear hcr hcw hco hrow hge hB hP5 hB5
  refine ⟨_, rfl, hH5, ?_⟩
  simp only [List.setIfInBounds_toArray, List.set_cons_zero, List.set_cons_succ]
  refine stepH_run 5 36 _ Wb rfl (by kernel_rfl) (by kernel_rfl) (by kernel_rfl) (exec_copy (d := .tmp 32) (s := .tmp 35) rfl (by kernel_rfl) (by kernel_rfl) HCR.out) HP2.out.geo.g3 ?_
  simp only [List.setIfInBounds_toArray, List.set_cons_zero, List.set_cons_succ]
  refine wpAnyH_done (by kernel_rfl) ?_ _
  clear HP hH hH5 HK HCR
  have HP : Hid (PkAt w w.heap.size g G I D ([67, 71] ++ leL k 2 ++ zeros 12 ++ maskL xs (nI I) 48 ++ zeros (1024 - 64)) Wb) := Hid.mk (by
    have h := HP2.out
    rw [a_eq k I xs HIb.out] at h
    exact h)
  clear HP2
  go_wp2_with fail
  have HK : Hid (∀ W', Below Wb.heap.size Wb.drew W' → PkAt w w.heap.size g G I D ([67, 71] ++ leL k 2 ++ zeros 12 ++ maskL xs (nI I) 48 ++ zeros (1024 - 64)) W' ∧ Below w.heap.size w W') := Hid.mk (fun W' hB => ⟨HP.out.drew.then hB, HP.out.below.drew.trans (hB.mono HP.out.below.size)⟩)
  refine wp_region_held_drew (S := G3 w.heap.size G I D) (by kernel_rfl) HP.out.geo.g3 (fun hH => ?_)
  change wpAnyH Try.prog Region.Mode.any _ _ _ 6 _ _ _
  refine takeH 0 37 (.slice (some ⟨g, 0, none⟩) 1024 1024) rfl (by kernel_rfl) (by kernel_rfl) (by kernel_rfl) (by kernel_rfl) (fun _ _ _ h => h) (by kernel_rfl) (fun w hw => by kernel_rfl) hH ?_
  simp only [List.setIfInBounds_toArray, List.set_cons_zero, List.set_cons_succ]
  refine takeH 1 38 (.slice (some ⟨g, 64, none⟩) 960 960) rfl (by kernel_rfl) (by kernel_rfl) (by kernel_rfl) (by kernel_rfl) (fun _ _ _ h => h) (by kernel_rfl) (fun w hw => by ((try dsimp only at hw); go_simp)) hH ?_
  simp only [List.setIfInBounds_toArray, List.set_cons_zero, List.set_cons_succ]
  refine takeH 2 39 (geo G I D) rfl (by kernel_rfl) (by kernel_rfl) (by kernel_rfl) (by kernel_rfl) (fun _ _ _ h => h) (by kernel_rfl) (fun w hw => by ((try dsimp only at hw); go_simp)) hH ?_
  simp only [List.setIfInBounds_toArray, List.set_cons_zero, List.set_cons_succ]
  refine takeH 3 40 (.slice bo m d) rfl (by kernel_rfl) (by kernel_rfl) (by kernel_rfl) (by kernel_rfl) (fun _ _ _ h => h) (by kernel_rfl) (fun w hw => by kernel_rfl) hH ?_
  simp only [List.setIfInBounds_toArray, List.set_cons_zero, List.set_cons_succ]
  refine stepH_call 4 41 rfl (by kernel_rfl) (by kernel_rfl) (by kernel_rfl) 44 #[.tmp 39, .tmp 40] #[23, 26] (by kernel_rfl) (enters_of Try.func44 (by kernel_rfl) rfl) #[geo G I D, .slice bo m d] (by kernel_rfl) (datarow_any _ G I D HG.out bo m d ys (HYA.out _ HP.out.below.drew) HYB.out HYN.out) ?_
  rintro e Vb ⟨gr, rfl, hrow, hge, hB⟩
  obtain ⟨hP5, hB5⟩ := HK.out Vb hB
  obtain ⟨Wc, hcr, hcw, hco⟩ := copy_run Vb g 64 960 960 _ _ (some ⟨gr, 0, none⟩) (bD D) (bD D) hP5.row (hrow.full (maskL_length _ _ _)) (by simp) (by simp [zeros_length, leL_length, maskL_length])
  have HP2 := Hid.mk (hP5.put hcw hco)
  have hH5 := hP5.geo.g3
  have HCR := Hid.mk hcr
  clear hcr hcw hco hrow hge hB hP5 hB5
  refine ⟨_, rfl, hH5, ?_⟩
  simp only [List.setIfInBounds_toArray, List.set_cons_zero, List.set_cons_succ]
  refine stepH_run 5 42 _ Wc rfl (by kernel_rfl) (by kernel_rfl) (by kernel_rfl) (exec_copy (d := .tmp 38) (s := .tmp 41) rfl (by kernel_rfl) (by kernel_rfl) HCR.out) HP2.out.geo.g3 ?_
  simp only [List.setIfInBounds_toArray, List.set_cons_zero, List.set_cons_succ]
  refine wpAnyH_done (by kernel_rfl) ?_ _
  clear HP hH hH5 HK HCR
  have HP : Hid (PkAt w w.heap.size g G I D (headL k I D xs ys) Wc) := Hid.mk (by
    have h := HP2.out
    rw [b_eq k I D xs ys (bD D) rfl hDb hD8] at h
    exact h)
  clear HP2
  go_wp2
  go_ret2
  exact ⟨g, rfl, HP.out.row, HP.out.ge, HP.out.below⟩
end Sup
end Go.Proofs.Yteegopccpgbakaa
