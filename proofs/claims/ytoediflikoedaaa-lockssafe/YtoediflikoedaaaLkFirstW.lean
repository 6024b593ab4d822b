/-
  The law LocksFirst.
-/
import Derived.Test.YtoediflikoedaaaLkFirst
namespace Go.Proofs.Ytoediflikoedaaa
open Go Go.Proofs Go.RowKit Go.Shelf
attribute [local go_sem] Oper.semAt_some
theorem takeS {xs : List Int} {i : Nat} (h : i < xs.length) : xs.take (i + 1) = xs.take i ++ [xs.getD i 0] := by
  rw [List.take_add_one, List.getElem?_eq_getElem h]
  simp [List.getD, List.getElem?_eq_getElem h]
theorem drop_get {xs : List Int} {i : Nat} (h : i < xs.length) : xs.drop i = xs.getD i 0 :: xs.drop (i + 1) := by
  rw [List.drop_eq_getElem_cons h]
  simp [List.getD, List.getElem?_eq_getElem h]
theorem wf_get {xs : List Int} (h : ∀ x ∈ xs, (Lit.int .i64 x).wf = true) {i : Nat} (hi : i < xs.length) : (Lit.int .i64 (xs.getD i 0)).wf = true := by
  refine h _ ?_
  rw [List.getD, List.getElem?_eq_getElem hi]
  exact List.getElem_mem hi
set_option maxRecDepth 100000 in
set_option maxHeartbeats 8000000 in
theorem first_law (w : World) (a : Option Addr) (n c : Nat) (xs : List Int) (hl : LAt w a n xs) (hw : ∀ x ∈ xs, (Lit.int .i64 x).wf = true) (hn : n ≤ 9223372036854775807) : Calls Try.prog 8 #[.slice a n c] w fun e w' => e = .returned (.bool true) ∧ Below w.heap.size w w' := by
  have HAL := Hid.mk (alive_any w)
  by_cases h40 : (40 : Int) < (n : Int)
  · clear hl hw
    go_enter Try.func8, Try.ntmps8
    go_wp2_with (go_at_call 9; refine HAL.out.mono ?_; rintro e w1 ⟨rfl, hb1⟩; have HB1 := Hid.mk hb1; clear hb1 HAL)
    go_ret
    exact ⟨rfl, HB1.out⟩
  have HX : Hid (xs.length = n ∧ n ≤ 40 ∧ ∀ x ∈ xs, (Lit.int .i64 x).wf = true) := Hid.mk ⟨hl.1, by omega, hw⟩
  have HL : Hid (∀ W, Below w.heap.size w W → LAt W a n xs) := Hid.mk (fun W hB => hl.next hB)
  have HNEW : Hid (∀ W, Below w.heap.size w W → Calls Try.prog 10 #[] W fun e W' => ∃ t, e = .returned (ptV t) ∧ Hid (FsO w W' t 0 (fun A => A = Ta.none) (.slice none 0 0) [])) := Hid.mk (fun W hB => (o_new hB).mono (by
    rintro e W' ⟨t, rfl, HQ⟩
    exact ⟨t, rfl, Hid.mk ⟨_, HQ.out.side (Only.refl (fun _ => False) W') (fun _ q => q.elim) (fun k hk => by cases hk), rfl, World.ownsRow_nil _ _ _ _⟩⟩))
  have HA0 : Hid (∀ W t, FsO w W t 0 (fun A => A = Ta.none) (.slice none 0 0) [] → Calls Try.prog 11 #[ptV t, .agg #[.int .i64 (-1), .int .i64 7, .bool true]] W fun e W' => e = .returned (.bool true) ∧ Hid (FsO w W' t 1 (Al7 (-1) []) (.slice none 0 0) [])) := Hid.mk (fun W t h => fs_ask h ⟨-1, 7, true⟩ ⟨wf_of (show -1000 ≤ (-1 : Int) ∧ (-1 : Int) ≤ 1000 by omega), wf_of (show -1000 ≤ (7 : Int) ∧ (7 : Int) ≤ 1000 by omega)⟩ (by omega) true (fun A _ hA => by subst hA; exact ⟨by simp [Ta.askB, Ta.none, Ta.holds, holdB, besB], al7_0⟩))
  have HA1 : Hid (∀ (i : Nat) W t u, i < n → xs.getD i 0 ∉ xs.take i → 0 ≤ xs.getD i 0 → FsO w W t (i + 1) (Al7 (-1) (xs.take i)) u (xs.take i) → Calls Try.prog 11 #[ptV t, .agg #[.int .i64 (xs.getD i 0), .int .i64 7, .bool true]] W fun e W' => e = .returned (.bool false) ∧ Hid (FsO w W' t (i + 1 + 1) (Al7 (-1) (xs.take (i + 1))) u (xs.take i))) := Hid.mk (fun i W t u hi h1 h2 h => by
    have hx := HX.out
    refine fs_ask h ⟨xs.getD i 0, 7, true⟩ ⟨wf_get hx.2.2 (by omega), wf_of (show -1000 ≤ (7 : Int) ∧ (7 : Int) ≤ 1000 by omega)⟩ (by omega) false (fun A hA hP => ?_)
    rw [takeS (by omega)]
    exact al7_ask hA hP h1 (by omega))
  have HAD : Hid (∀ (i : Nat) W t ao c, i < n → FsO w W t (i + 1 + 1) (Al7 (-1) (xs.take (i + 1))) (.slice ao i c) (xs.take i) → ∃ v' W', (Builtin.append_ #[39, 39] 39 #[.slice ao i c, .slice (some ⟨W.heap.size, 0, none⟩) 1 1]).run Try.prog (W.alloc (.cells #[.int .i64 (xs.getD i 0)] 3)) = .ok v' W' ∧ (∃ ao c, v' = .slice ao (i + 1) c) ∧ Hid (FsO w W' t (i + 1 + 1) (Al7 (-1) (xs.take (i + 1))) v' (xs.take (i + 1)))) := Hid.mk (fun i W t ao c hi h => by
    have hx := HX.out
    have hl : (xs.take i).length = i := by rw [List.length_take]; omega
    obtain ⟨v', W', p1, p2, p3⟩ := fs_add h (xs.getD i 0) (by omega)
    rw [hl] at p2
    refine ⟨v', W', p1, p2, Hid.mk ?_⟩
    have := p3.out
    rwa [← takeS (by omega)] at this)
  have HBL : Hid (∀ W t N P u ys, FsO w W t N P u ys → Below w.heap.size w W) := Hid.mk (fun W t N P u ys h => (fs_row h).1)
  clear hl hw hn
  go_enter Try.func8, Try.ntmps8
  go_wp2_with (first
    | (go_at_call 9; refine HAL.out.mono ?_; rintro e w1 ⟨rfl, hb1⟩; have HB1 := Hid.mk hb1; clear hb1 HAL)
    | (go_at_call 10; refine (HNEW.out _ HB1.out).mono ?_; rintro e w2 ⟨t, rfl, H2⟩; clear HNEW HB1)
    | (go_at_call 11; refine (HA0.out _ _ H2.out).mono ?_; rintro e w3 ⟨rfl, H3⟩; clear H2 HA0)
    | go_in)
  go_loopw [5, 6, 7, 8] (fun u iv _ _ wr => ∃ i : Nat, iv = .int .i64 i ∧ (∃ ao c, u = .slice ao i c) ∧ Hid (i ≤ n ∧ FsO w wr t (i + 1) (Al7 (-1) (xs.take i)) u (xs.take i) ∧ ∀ x ∈ xs.take i, 0 ≤ x)) (fun _ iv _ _ _ => n - (Go.RowKit.intOf iv).toNat)
  case atStart => exact ⟨0, rfl, ⟨none, 0, rfl⟩, Hid.mk ⟨Nat.zero_le _, by simpa using H3.out, by simp⟩⟩
  case round =>
    obtain ⟨i, rfl, ⟨ao, co, rfl⟩, HI⟩ := hrel
    clear H3
    by_cases hlt : (i : Int) < (n : Int)
    · have u1 : IntKind.i64.wrap ((i : Int) + 1) = ((i + 1 : Nat) : Int) := by have := HX.out; rw [IntKind.wrap_i64]; omega
      have HLT : Hid (i < n) := Hid.mk (by omega)
      go_wp2
      go_loopw [7] (fun kv wr => ∃ k : Nat, kv = .int .i64 k ∧ Hid (k ≤ i ∧ FsO w wr t (i + 1) (Al7 (-1) (xs.take i)) (.slice ao i co) (xs.take i) ∧ ∀ j, j < k → xs.getD j 0 ≠ xs.getD i 0)) (fun kv _ => i - (Go.RowKit.intOf kv).toNat)
      case atStart => exact ⟨0, rfl, Hid.mk ⟨Nat.zero_le _, HI.out.2.1, fun j hj => by omega⟩⟩
      case round =>
        obtain ⟨k, rfl, HK⟩ := hrel
        have HPOS : Hid (∀ x ∈ xs.take i, 0 ≤ x) := Hid.mk HI.out.2.2
        clear HI
        by_cases hlt2 : (k : Int) < (i : Int)
        · have u2 : IntKind.i64.wrap ((k : Int) + 1) = ((k + 1 : Nat) : Int) := by have := HX.out; rw [IntKind.wrap_i64]; omega
          have HLT2 : Hid (k < i) := Hid.mk (by omega)
          have hLA := HL.out wr (HBL.out _ _ _ _ _ _ HK.out.2.1)
          obtain ⟨a', rfl, c1⟩ := hLA.at k (by have := HLT2.out; have := HLT.out; omega)
          obtain ⟨a2, ea, c2⟩ := hLA.at i HLT.out
          cases ea
          have g1 : (k : Int) < (n : Int) := by omega
          clear hLA
          by_cases he : xs.getD k 0 = xs.getD i 0
          · have HB := Hid.mk (HBL.out _ _ _ _ _ _ HK.out.2.1)
            rw [he] at c1
            generalize xs.getD i 0 = y at *
            clear he HK
            go_wp2
            go_quiet (fail)
            go_wp2
            go_ret
            exact ⟨rfl, HB.out.trans (below_drewN' _ _ _ HB.out.size)⟩
          · have he2 : (xs.getD k 0 == xs.getD i 0) = false := by simpa using he
            have HF : Hid (∀ m, k + 1 ≤ i ∧ FsO w (wr.drewN m) t (i + 1) (Al7 (-1) (xs.take i)) (.slice ao i co) (xs.take i) ∧ ∀ j, j < k + 1 → xs.getD j 0 ≠ xs.getD i 0) := Hid.mk (fun m => ⟨HLT2.out, fs_grow HK.out.2.1 (below_drewN' _ _ _ (Nat.le_refl _)), fun j hj => by
              rcases Nat.lt_or_ge j k with q | q
              · exact HK.out.2.2 j q
              · obtain rfl : j = k := by omega
                exact he⟩)
            generalize xs.getD i 0 = y at *
            generalize xs.getD k 0 = z at *
            clear he HK
            go_wp2
            go_quiet (fail)
            go_wp2
            go_roundw
            case rel => exact ⟨k + 1, rfl, HF.out _⟩
            case measure => (have := HLT2.out; simp [Go.RowKit.intOf]; omega)
        · obtain rfl : k = i := by have := HK.out.1; omega
          have hLA := HL.out wr (HBL.out _ _ _ _ _ _ HK.out.2.1)
          obtain ⟨a', rfl, c1⟩ := hLA.at k HLT.out
          clear hLA
          by_cases hneg : xs.getD k 0 < 0
          · have HB := Hid.mk (HBL.out _ _ _ _ _ _ HK.out.2.1)
            generalize xs.getD k 0 = y at *
            clear HK
            go_wp2
            go_ret
            exact ⟨rfl, HB.out⟩
          · have hni : xs.getD k 0 ∉ xs.take k := fun hm => by
              obtain ⟨j, hj, e⟩ := List.getElem_of_mem hm
              rw [List.length_take] at hj
              refine HK.out.2.2 j (by omega) ?_
              rw [← e, List.getElem_take, List.getD, List.getElem?_eq_getElem (by omega)]
              rfl
            have HC := Hid.mk (HA1.out k wr t _ HLT.out hni (by omega) HK.out.2.1)
            have HNX : Hid (∀ x ∈ xs.take (k + 1), 0 ≤ x) := Hid.mk (fun x hx => by
              rw [takeS (by have := HX.out; have := HLT.out; omega)] at hx
              rcases List.mem_append.1 hx with q | q
              · exact HPOS.out x q
              · rw [List.mem_singleton.1 q]; omega)
            have HLB : Hid (∀ W, Below w.heap.size w W → W.cell? (a'.add k) = some (.int .i64 (xs.getD k 0))) := Hid.mk (fun W hB => by
              obtain ⟨a2, ea, c2⟩ := (HL.out W hB).at k HLT.out
              cases ea
              exact c2)
            clear HK hni
            go_wp2_with (first
              | (go_at_call 11; refine HC.out.mono ?_; rintro e w4 ⟨rfl, H4⟩; have c4 := HLB.out w4 (HBL.out _ _ _ _ _ _ H4.out); obtain ⟨v5, W5, p5, ⟨ao5, c5, rfl⟩, H5⟩ := HAD.out k w4 t ao co HLT.out H4.out; have HAP := Hid.mk p5; clear p5 H4 HC)
              | (at_builtin; refine wpList_append_known rfl _ _ _ rfl _ _ _ _ rfl rfl HAP.out ?_; simp only [Act.put, List.setIfInBounds_toArray, List.set_cons_zero, List.set_cons_succ])
              | go_in)
            go_roundw
            case rel => exact ⟨k + 1, rfl, ⟨_, _, rfl⟩, Hid.mk ⟨HLT.out, H5.out, HNX.out⟩⟩
            case measure => (have := HLT.out; simp [Go.RowKit.intOf]; omega)
    · obtain rfl : i = n := by have := HI.out.1; omega
      have etk : xs.take i = xs := List.take_of_length_le (by have := HX.out; omega)
      have H0 : Hid (FsO w wr t (i + 1) (Al7 (-1) (xs.drop 0)) (.slice ao i co) xs) := Hid.mk (by have := HI.out.2.1; rw [etk] at this; exact this)
      have HR1 : Hid (∀ (j : Nat) (p : Int) W, j < i → (Lit.int .i64 p).wf = true → FsO w W t (i + 1) (Al7 p (xs.drop j)) (.slice ao i co) xs → Calls Try.prog 14 #[ptV t, .int .i64 p, .int .i64 7] W fun e W' => ∃ ag cg, e = .returned (.slice ag 1 cg) ∧ Hid (SlOk W' (.slice ag 1 cg) [⟨xs.getD j 0, 7, true⟩] ∧ FsO w W' t (i + 1) (Al7 (xs.getD j 0) (xs.drop (j + 1))) (.slice ao i co) xs)) := Hid.mk (fun j p W hj hp h => fs_rel h p hp (by have := HX.out; omega) [⟨xs.getD j 0, 7, true⟩] (fun A _ hP => by
        rw [drop_get (by have := HX.out; omega)] at hP
        exact al7_rel hP))
      have HH1 : Hid (∀ (j : Nat) W, j < i → FsO w W t (i + 1) (Al7 (xs.getD j 0) (xs.drop (j + 1))) (.slice ao i co) xs → Calls Try.prog 19 #[ptV t, .int .i64 (xs.getD j 0), .int .i64 7] W fun e W' => e = .returned (.bool true) ∧ Hid (FsO w W' t (i + 1) (Al7 (xs.getD j 0) (xs.drop (j + 1))) (.slice ao i co) xs ∧ Below W.heap.size W W')) := Hid.mk (fun j W hj h => fs_holds h (xs.getD j 0) (wf_get HX.out.2.2 (by have := HX.out; omega)) true (fun A hP => al7_holds hP))
      have HR2 : Hid (∀ (p : Int) W, (Lit.int .i64 p).wf = true → FsO w W t (i + 1) (Al7 p []) (.slice ao i co) xs → Calls Try.prog 14 #[ptV t, .int .i64 p, .int .i64 7] W fun e W' => ∃ ag cg, e = .returned (.slice ag 0 cg) ∧ Hid (FsO w W' t (i + 1) (fun A => A.held 7 = none) (.slice ao i co) xs)) := Hid.mk (fun p W hp h => (fs_rel h p hp (by have := HX.out; omega) [] (fun A _ hP => al7_end hP)).mono (by
        rintro e W' ⟨ag, cg, rfl, HQ⟩
        exact ⟨ag, cg, rfl, Hid.mk HQ.out.2⟩))
      have HH2 : Hid (∀ W, FsO w W t (i + 1) (fun A => A.held 7 = none) (.slice ao i co) xs → Calls Try.prog 18 #[ptV t, .int .i64 7] W fun e W' => ∃ ag cg, e = .returned (.slice ag 0 cg) ∧ Below w.heap.size w W') := Hid.mk (fun W ⟨A, h1, h2, h3⟩ => (o_holders h1 7 (wf_of (by omega)) (by have := HX.out; omega)).mono (by
        rintro e W' ⟨ag, cg, rfl, HQ⟩
        rw [h2] at HQ ⊢
        exact ⟨ag, cg, rfl, HQ.out.2.1.bel⟩))
      clear HI HA1 HAD etk HL
      go_wp2
      go_loopw [9, 10, 11] (fun pv jv _ wr => ∃ (j : Nat) (p : Int), jv = .int .i64 j ∧ pv = .int .i64 p ∧ Hid (j ≤ i ∧ (Lit.int .i64 p).wf = true ∧ FsO w wr t (i + 1) (Al7 p (xs.drop j)) (.slice ao i co) xs)) (fun _ jv _ _ => i - (Go.RowKit.intOf jv).toNat)
      case atStart => exact ⟨0, -1, rfl, rfl, Hid.mk ⟨Nat.zero_le _, wf_of (by omega), H0.out⟩⟩
      case round =>
        obtain ⟨j, p, rfl, rfl, HJ⟩ := hrel
        clear H0
        by_cases hlt3 : (j : Int) < (i : Int)
        · have u1 : IntKind.i64.wrap ((j : Int) + 1) = ((j + 1 : Nat) : Int) := by have := HX.out; rw [IntKind.wrap_i64]; omega
          have HLT : Hid (j < i) := Hid.mk (by omega)
          have HC := Hid.mk (HR1.out j p wr HLT.out HJ.out.2.1 HJ.out.2.2)
          have HWX : Hid ((Lit.int .i64 (xs.getD j 0)).wf = true) := Hid.mk (wf_get HX.out.2.2 (by have := HX.out; have := HLT.out; omega))
          have HROW : Hid (∀ W, FsO w W t (i + 1) (Al7 (xs.getD j 0) (xs.drop (j + 1))) (.slice ao i co) xs → ∃ aa, ao = some aa ∧ W.cell? (aa.add j) = some (.int .i64 (xs.getD j 0))) := Hid.mk (fun W h => by
            obtain ⟨_, ao', c', e, hl⟩ := fs_row h
            have hx := HX.out
            cases e
            rw [hx.1] at hl
            exact hl.at j HLT.out)
          clear HJ
          go_wp2_with (first
            | (go_at_call 14; refine HC.out.mono ?_; rintro e w4 ⟨ag, cg, rfl, H4⟩; clear HC)
            | go_in)
          obtain ⟨gg, off, rfl, hggl, hgc⟩ : ∃ gg off, ag = some ⟨gg, off, none⟩ ∧ gg < w4.heap.size ∧ w4.drew.cell? ⟨gg, off, none⟩ = some (.int .i64 (xs.getD j 0)) := by
            rcases H4.out.1 with ⟨_, e⟩ | ⟨gg, hgg, hR⟩
            · cases e
            · obtain ⟨off, cap, e1, e2, e3, e4⟩ := hR.cells
              cases e1
              obtain ⟨q1, _, _⟩ := e4 0 _ rfl
              exact ⟨gg, off, rfl, e2, by simpa using q1⟩
          obtain ⟨aa, rfl, hoc⟩ := HROW.out w4.drew (fs_grow H4.out.2 (drew_below w4))
          have HHC := Hid.mk (HH1.out j w4.drew HLT.out (fs_grow H4.out.2 (drew_below w4)))
          have e0 : (⟨gg, off, none⟩ : Addr).add 0 = ⟨gg, off, none⟩ := by rw [add_at]; simp
          have g2 : (j : Int) < (i : Int) := hlt3
          obtain ⟨x, hx⟩ : ∃ x, x = xs.getD j 0 := ⟨_, rfl⟩
          rw [← hx] at hgc hoc HHC HWX HROW
          clear H4 HR1 HH1 hx
          have hH : (fun W : World => W.cell? ⟨gg, off, none⟩ = some (.int .i64 x) ∧ W.cell? (aa.add j) = some (.int .i64 x) ∧ True) w4.drew := ⟨hgc, hoc, trivial⟩
          have HS5 : Hid (∀ w5 : World, Below w4.drew.heap.size w4.drew w5 → w5.cell? (aa.add j) = some (.int .i64 x) → w5.cell? ⟨gg, off, none⟩ = some (.int .i64 x) ∧ w5.cell? (aa.add j) = some (.int .i64 x) ∧ True) := Hid.mk (fun w5 hB q => ⟨(World.cell?_of_block (w := w4.drew) (hB.block gg hggl)).trans hgc, q, trivial⟩)
          refine wp_region_held_drew (S := fun W : World => W.cell? ⟨gg, off, none⟩ = some (.int .i64 x) ∧ W.cell? (aa.add j) = some (.int .i64 x) ∧ True) (by kernel_rfl) hH (fun hH => ?_)
          change wpAnyH Try.prog Region.Mode.any _ _ _ 23 _ _ _
          refine takeH 0 74 (.slice (some ⟨gg, off, none⟩) 1 cg) rfl (by kernel_rfl) (by kernel_rfl) (by kernel_rfl) (by kernel_rfl) (fun _ _ _ h => h) (by kernel_rfl) (fun w hw => by kernel_rfl) hH ?_
          simp only [List.setIfInBounds_toArray, List.set_cons_zero, List.set_cons_succ]
          refine takeH 1 75 (.int .i64 1) rfl (by kernel_rfl) (by kernel_rfl) (by kernel_rfl) (by kernel_rfl) (fun _ _ _ h => h) (by kernel_rfl) (fun w hw => by go_simp) hH ?_
          simp only [List.setIfInBounds_toArray, List.set_cons_zero, List.set_cons_succ]
          refine takeH 2 76 (.bool false) rfl (by kernel_rfl) (by kernel_rfl) (by kernel_rfl) (by kernel_rfl) (fun _ _ _ h => h) (by kernel_rfl) (fun w hw => by go_simp) hH ?_
          simp only [List.setIfInBounds_toArray, List.set_cons_zero, List.set_cons_succ]
          refine takeH 3 77 (.bool false) rfl (by kernel_rfl) (by kernel_rfl) (by kernel_rfl) (by kernel_rfl) (fun _ _ _ h => h) (by kernel_rfl) (fun w hw => by kernel_rfl) hH ?_
          simp only [List.setIfInBounds_toArray, List.set_cons_zero, List.set_cons_succ]
          refine takeH 4 78 (.slice (some ⟨gg, off, none⟩) 1 cg) rfl (by kernel_rfl) (by kernel_rfl) (by kernel_rfl) (by kernel_rfl) (fun _ _ _ h => h) (by kernel_rfl) (fun w hw => by kernel_rfl) hH ?_
          simp only [List.setIfInBounds_toArray, List.set_cons_zero, List.set_cons_succ]
          refine takeH 5 79 (.pointer (some ⟨gg, off, none⟩)) rfl (by kernel_rfl) (by kernel_rfl) (by kernel_rfl) (by kernel_rfl) (fun _ _ _ h => h) (by kernel_rfl) (fun w hw => by go_simp) hH ?_
          simp only [List.setIfInBounds_toArray, List.set_cons_zero, List.set_cons_succ]
          refine takeH 6 80 (.pointer (some ⟨gg, off, none⟩)) rfl (by kernel_rfl) (by kernel_rfl) (by kernel_rfl) (by kernel_rfl) (fun _ _ _ h => h) (by kernel_rfl) (fun w hw => by go_simp) hH ?_
          simp only [List.setIfInBounds_toArray, List.set_cons_zero, List.set_cons_succ]
          refine takeH 7 81 (.int .i64 x) rfl (by kernel_rfl) (by kernel_rfl) (by kernel_rfl) (by kernel_rfl) (fun _ _ _ h => h) (by kernel_rfl) (fun w hw => by (try dsimp only at hw); obtain ⟨hw1, hw2, hw3⟩ := hw; go_simp) hH ?_
          simp only [List.setIfInBounds_toArray, List.set_cons_zero, List.set_cons_succ]
          refine takeH 8 82 (.slice (some aa) i co) rfl (by kernel_rfl) (by kernel_rfl) (by kernel_rfl) (by kernel_rfl) (fun _ _ _ h => h) (by kernel_rfl) (fun w hw => by kernel_rfl) hH ?_
          simp only [List.setIfInBounds_toArray, List.set_cons_zero, List.set_cons_succ]
          refine takeH 9 83 (.int .i64 j) rfl (by kernel_rfl) (by kernel_rfl) (by kernel_rfl) (by kernel_rfl) (fun _ _ _ h => h) (by kernel_rfl) (fun w hw => by kernel_rfl) hH ?_
          simp only [List.setIfInBounds_toArray, List.set_cons_zero, List.set_cons_succ]
          refine takeH 10 84 (.pointer (some (aa.add j))) rfl (by kernel_rfl) (by kernel_rfl) (by kernel_rfl) (by kernel_rfl) (fun _ _ _ h => h) (by kernel_rfl) (fun w hw => by go_simp) hH ?_
          simp only [List.setIfInBounds_toArray, List.set_cons_zero, List.set_cons_succ]
          refine takeH 11 85 (.int .i64 x) rfl (by kernel_rfl) (by kernel_rfl) (by kernel_rfl) (by kernel_rfl) (fun _ _ _ h => h) (by kernel_rfl) (fun w hw => by (try dsimp only at hw); obtain ⟨hw1, hw2, hw3⟩ := hw; go_simp) hH ?_
          simp only [List.setIfInBounds_toArray, List.set_cons_zero, List.set_cons_succ]
          refine takeH 12 86 (.bool false) rfl (by kernel_rfl) (by kernel_rfl) (by kernel_rfl) (by kernel_rfl) (fun _ _ _ h => h) (by kernel_rfl) (fun w hw => by go_simp) hH ?_
          simp only [List.setIfInBounds_toArray, List.set_cons_zero, List.set_cons_succ]
          refine takeH 13 87 (.bool false) rfl (by kernel_rfl) (by kernel_rfl) (by kernel_rfl) (by kernel_rfl) (fun _ _ _ h => h) (by kernel_rfl) (fun w hw => by kernel_rfl) hH ?_
          simp only [List.setIfInBounds_toArray, List.set_cons_zero, List.set_cons_succ]
          refine takeH 14 88 (.bool false) rfl (by kernel_rfl) (by kernel_rfl) (by kernel_rfl) (by kernel_rfl) (fun _ _ _ h => h) (by kernel_rfl) (fun w hw => by kernel_rfl) hH ?_
          simp only [List.setIfInBounds_toArray, List.set_cons_zero, List.set_cons_succ]
          refine takeH 15 89 (ptV t) rfl (by kernel_rfl) (by kernel_rfl) (by kernel_rfl) (by kernel_rfl) (fun _ _ _ h => h) (by kernel_rfl) (fun w hw => by kernel_rfl) hH ?_
          simp only [List.setIfInBounds_toArray, List.set_cons_zero, List.set_cons_succ]
          refine takeH 16 90 (.slice (some aa) i co) rfl (by kernel_rfl) (by kernel_rfl) (by kernel_rfl) (by kernel_rfl) (fun _ _ _ h => h) (by kernel_rfl) (fun w hw => by kernel_rfl) hH ?_
          simp only [List.setIfInBounds_toArray, List.set_cons_zero, List.set_cons_succ]
          refine takeH 17 91 (.int .i64 j) rfl (by kernel_rfl) (by kernel_rfl) (by kernel_rfl) (by kernel_rfl) (fun _ _ _ h => h) (by kernel_rfl) (fun w hw => by kernel_rfl) hH ?_
          simp only [List.setIfInBounds_toArray, List.set_cons_zero, List.set_cons_succ]
          refine takeH 18 92 (.pointer (some (aa.add j))) rfl (by kernel_rfl) (by kernel_rfl) (by kernel_rfl) (by kernel_rfl) (fun _ _ _ h => h) (by kernel_rfl) (fun w hw => by go_simp) hH ?_
          simp only [List.setIfInBounds_toArray, List.set_cons_zero, List.set_cons_succ]
          refine takeH 19 93 (.int .i64 x) rfl (by kernel_rfl) (by kernel_rfl) (by kernel_rfl) (by kernel_rfl) (fun _ _ _ h => h) (by kernel_rfl) (fun w hw => by (try dsimp only at hw); obtain ⟨hw1, hw2, hw3⟩ := hw; go_simp) hH ?_
          simp only [List.setIfInBounds_toArray, List.set_cons_zero, List.set_cons_succ]
          refine stepH_call 20 94 rfl (by kernel_rfl) (by kernel_rfl) (by kernel_rfl) 19 #[.tmp 89, .tmp 93, .const (.int .i64 7)] #[24, 3, 3] (by kernel_rfl) (enters_of Try.func19 (by kernel_rfl) rfl) #[ptV t, .int .i64 x, .int .i64 7] (by kernel_rfl) HHC.out ?_
          rintro e w5 ⟨rfl, H5⟩
          obtain ⟨aa5, ea5, hoc5⟩ := HROW.out w5 H5.out.1
          cases ea5
          have hS5 := HS5.out w5 H5.out.2 hoc5
          refine ⟨_, rfl, hS5, ?_⟩
          simp only [List.setIfInBounds_toArray, List.set_cons_zero, List.set_cons_succ]
          refine stepH 21 95 (.bool false) rfl (by kernel_rfl) (by kernel_rfl) (by kernel_rfl) (by go_simp) hS5 ?_
          simp only [List.setIfInBounds_toArray, List.set_cons_zero, List.set_cons_succ]
          refine stepH 22 96 (.bool false) rfl (by kernel_rfl) (by kernel_rfl) (by kernel_rfl) (by kernel_rfl) hS5 ?_
          simp only [List.setIfInBounds_toArray, List.set_cons_zero, List.set_cons_succ]
          refine wpAnyH_done (by kernel_rfl) ?_ _
          have HNX : Hid (j + 1 ≤ i ∧ (Lit.int .i64 x).wf = true ∧ FsO w w5 t (i + 1) (Al7 x (xs.drop (j + 1))) (.slice (some aa) i co) xs) := Hid.mk ⟨HLT.out, HWX.out, H5.out.1⟩
          go_wp2
          go_roundw
          case rel => exact ⟨j + 1, x, rfl, rfl, HNX⟩
          case measure => (have := HLT.out; simp [Go.RowKit.intOf]; omega)
        · obtain rfl : j = i := by have := HJ.out.1; omega
          have HC := Hid.mk (HR2.out p wr HJ.out.2.1 (by have := HJ.out.2.2; rwa [List.drop_eq_nil_of_le (by have := HX.out; omega)] at this))
          clear HJ
          go_wp2_with (first
            | (go_at_call 14; refine HC.out.mono ?_; rintro e w4 ⟨ag, cg, rfl, H4⟩; have HD := Hid.mk (HH2.out w4 H4.out); clear HC H4)
            | (go_at_call 18; refine HD.out.mono ?_; rintro e w5 ⟨ag5, cg5, rfl, hB5⟩; have HB5 := Hid.mk hB5; clear hB5 HD)
            | go_in)
          go_ret
          exact ⟨rfl, HB5.out⟩
end Go.Proofs.Ytoediflikoedaaa
