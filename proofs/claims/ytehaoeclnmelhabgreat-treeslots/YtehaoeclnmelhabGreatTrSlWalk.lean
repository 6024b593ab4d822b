/-
  TreeSlots: its walk.
-/
import Derived.Test.YtehaoeclnmelhabGreatLaySl
import Derived.Deep.QuietTactic
import Derived.BigQuiet
namespace Go.Proofs.YtehaoeclnmelhabGreat
open Go Go.Proofs Go.RowKit Go.Shelf Go.Sort

set_option maxRecDepth 100000 in
set_option maxHeartbeats 4000000 in
theorem slots_any (w : World) (nI : Int) (ga : Option Addr) (gn gc : Nat) (xs : List Int) (hG : LAt w ga gn xs) (hgn : gn ≤ 9223372036854775807) : Calls Tryz.prog 8 #[.int .i64 nI, .slice ga gn gc] w fun e w' => e = .returned (.bool true) ∧ Below w.heap.size w w' := by
  have HA := Hid.mk (alive_any w)
  have HG := Hid.mk hG
  clear hG
  by_cases h0 : nI < 0
  · go_enter Tryz.func8, Tryz.ntmps8
    go_wp2_with (go_at_call 9; refine HA.out.mono ?_; rintro e W0 ⟨rfl, hw⟩; have HB := Hid.mk hw; clear hw)
    go_ret
    exact ⟨rfl, HB.out⟩
  · by_cases h1 : 60 < nI
    · go_enter Tryz.func8, Tryz.ntmps8
      go_wp2_with (go_at_call 9; refine HA.out.mono ?_; rintro e W0 ⟨rfl, hw⟩; have HB := Hid.mk hw; clear hw)
      go_ret
      exact ⟨rfl, HB.out⟩
    · by_cases h2 : 20 < gn
      · have h2' : (20 : Int) < gn := by omega
        go_enter Tryz.func8, Tryz.ntmps8
        go_wp2_with (go_at_call 9; refine HA.out.mono ?_; rintro e W0 ⟨rfl, hw⟩; have HB := Hid.mk hw; clear hw)
        go_ret
        exact ⟨rfl, HB.out⟩
      · have h2' : ¬ (20 : Int) < gn := by omega
        obtain ⟨n, rfl⟩ : ∃ n : Nat, nI = n := ⟨nI.toNat, by omega⟩
        have HN : Hid (n ≤ 60) := Hid.mk (by omega)
        have h60 : (n : Int) ≤ 60 := by omega
        have HAD : Hid (∀ (W : World) (t k : Nat) (v : Value) (L : List (List UInt8)) (B : Nat → Prop), k < 60 → SxW w W t v L (sxP k) (List.replicate k newF) B → _) := Hid.mk (fun W t k v L B (hk : k < 60) (h : SxW w W t v L (sxP k) (List.replicate k newF) B) => sxw_first hk h)
        unfold errV callV ptrV at HAD
        go_enter Tryz.func8, Tryz.ntmps8
        go_wp2_with (first
          | (go_at_call 9; refine HA.out.mono ?_; rintro e W0 ⟨rfl, hw⟩; have HB := Hid.mk hw; clear hw)
          | (go_at_call 10; refine (new_any _ 1 4 60).mono ?_; rintro e W2 ⟨rfl, hT2, hB2⟩; have O0 : Hid (SxW w W2 (W0.heap.size + 4) (.slice none 0 0) [] (sxP 0) (List.replicate 0 newF) (fun _ => False)) := Hid.mk ⟨sx_ok_nil, World.ownsRow_nil _ _ _ _, ⟨HB.out.trans (hB2.mono HB.out.size), _, hT2, fun k hk => ⟨by simp [feet, Lay.foot] at hk; have := HB.out.size; omega, by rintro (h | h); (cases h); exact h⟩⟩, fun k h => h.elim⟩; unfold ptrV; clear hT2 hB2))
        generalize W0.heap.size + 4 = t at *
        clear HB
        go_loopw [7, 8] (fun v i wr => ∃ k : Nat, k ≤ n ∧ i = .int .i64 k ∧ SxW w wr t v ((sxP k).map (·.2)) (sxP k) (List.replicate k newF) (fun _ => False)) (fun _ i _ => n - (intOf i).toNat)
        case atStart => exact ⟨0, by omega, rfl, O0.out⟩
        case round =>
          obtain ⟨k, hk, rfl, hO⟩ := hrel
          have OK := Hid.mk hO
          clear hO O0
          by_cases hlt : k < n
          · have hi : (k : Int) < n := by omega
            have hk60 : k < 60 := by have := HN.out; omega
            have HK := Hid.mk hk60
            have HLT := Hid.mk hlt
            go_upto_region 9 with fail
            have HS1 : Hid ((⟨#[102]⟩ : ByteArray).size + (sxDig (k / 10)).size ≤ 9223372036854775807) := Hid.mk (by show 1 + 1 ≤ 9223372036854775807; omega)
            have HS2 : Hid (((⟨#[102]⟩ : ByteArray) ++ sxDig (k / 10)).size + (sxDig (k % 10)).size ≤ 9223372036854775807) := Hid.mk (by rw [ByteArray.size_append]; show 1 + 1 + 1 ≤ 9223372036854775807; omega)
            refine wp_region_quiet_lit (by kernel_rfl) (by kernel_rfl) ?_
            refine quietL_known (.int .i64 k) (by kernel_rfl) (fun w => by kernel_rfl) ?_
            simp only [Act.put, List.setIfInBounds_toArray, List.set_cons_zero, List.set_cons_succ]
            refine quietL_known (.int .i64 ((k / 10 : Nat) : Int)) (by kernel_rfl) (fun w => by exact exec_quo (x := .tmp 44) (y := .const (.int .i64 10)) k HK.out rfl (by kernel_rfl) (by kernel_rfl)) ?_
            simp only [Act.put, List.setIfInBounds_toArray, List.set_cons_zero, List.set_cons_succ]
            refine quietL_known (.int .i64 k) (by kernel_rfl) (fun w => by kernel_rfl) ?_
            simp only [Act.put, List.setIfInBounds_toArray, List.set_cons_zero, List.set_cons_succ]
            refine quietL_known (.int .i64 ((k / 10 : Nat) : Int)) (by kernel_rfl) (fun w => by exact exec_quo (x := .tmp 46) (y := .const (.int .i64 10)) k HK.out rfl (by kernel_rfl) (by kernel_rfl)) ?_
            simp only [Act.put, List.setIfInBounds_toArray, List.set_cons_zero, List.set_cons_succ]
            refine quietL_known (.int .i64 (((k / 10 : Nat) : Int) + 1)) (by kernel_rfl) (fun w => by exact exec_inc (x := .tmp 47) (y := .const (.int .i64 1)) (k / 10) (by have := HK.out; omega) rfl (by kernel_rfl) (by kernel_rfl)) ?_
            simp only [Act.put, List.setIfInBounds_toArray, List.set_cons_zero, List.set_cons_succ]
            refine quietL_known (.string (sxDig (k / 10))) (by kernel_rfl) (fun w => by exact exec_dig (x := .tmp 45) (y := .tmp 48) (k / 10) (by have := HK.out; omega) rfl (by kernel_rfl) (by kernel_rfl) (by kernel_rfl)) ?_
            simp only [Act.put, List.setIfInBounds_toArray, List.set_cons_zero, List.set_cons_succ]
            refine quietL_known (.string ((⟨#[102]⟩ : ByteArray) ++ sxDig (k / 10))) (by kernel_rfl) (fun w => by exact exec_cat (x := .const (.string ⟨#[102]⟩)) (y := .tmp 49) ⟨#[102]⟩ (sxDig (k / 10)) HS1.out rfl (by kernel_rfl) (by kernel_rfl)) ?_
            simp only [Act.put, List.setIfInBounds_toArray, List.set_cons_zero, List.set_cons_succ]
            refine quietL_known (.int .i64 k) (by kernel_rfl) (fun w => by kernel_rfl) ?_
            simp only [Act.put, List.setIfInBounds_toArray, List.set_cons_zero, List.set_cons_succ]
            refine quietL_known (.int .i64 ((k % 10 : Nat) : Int)) (by kernel_rfl) (fun w => by exact exec_rem (x := .tmp 51) (y := .const (.int .i64 10)) k rfl (by kernel_rfl) (by kernel_rfl)) ?_
            simp only [Act.put, List.setIfInBounds_toArray, List.set_cons_zero, List.set_cons_succ]
            refine quietL_known (.int .i64 k) (by kernel_rfl) (fun w => by kernel_rfl) ?_
            simp only [Act.put, List.setIfInBounds_toArray, List.set_cons_zero, List.set_cons_succ]
            refine quietL_known (.int .i64 ((k % 10 : Nat) : Int)) (by kernel_rfl) (fun w => by exact exec_rem (x := .tmp 53) (y := .const (.int .i64 10)) k rfl (by kernel_rfl) (by kernel_rfl)) ?_
            simp only [Act.put, List.setIfInBounds_toArray, List.set_cons_zero, List.set_cons_succ]
            refine quietL_known (.int .i64 (((k % 10 : Nat) : Int) + 1)) (by kernel_rfl) (fun w => by exact exec_inc (x := .tmp 54) (y := .const (.int .i64 1)) (k % 10) (by omega) rfl (by kernel_rfl) (by kernel_rfl)) ?_
            simp only [Act.put, List.setIfInBounds_toArray, List.set_cons_zero, List.set_cons_succ]
            refine quietL_known (.string (sxDig (k % 10))) (by kernel_rfl) (fun w => by exact exec_dig (x := .tmp 52) (y := .tmp 55) (k % 10) (by omega) rfl (by kernel_rfl) (by kernel_rfl) (by kernel_rfl)) ?_
            simp only [Act.put, List.setIfInBounds_toArray, List.set_cons_zero, List.set_cons_succ]
            refine quietL_known (.string (((⟨#[102]⟩ : ByteArray) ++ sxDig (k / 10)) ++ sxDig (k % 10))) (by kernel_rfl) (fun w => by exact exec_cat (x := .tmp 50) (y := .tmp 56) (⟨#[102]⟩ ++ sxDig (k / 10)) (sxDig (k % 10)) HS2.out rfl (by kernel_rfl) (by kernel_rfl)) ?_
            simp only [Act.put, List.setIfInBounds_toArray, List.set_cons_zero, List.set_cons_succ]
            refine quietL_known (.string (((⟨#[102]⟩ : ByteArray) ++ sxDig (k / 10)) ++ sxDig (k % 10))) (by kernel_rfl) (fun w => by kernel_rfl) ?_
            simp only [Act.put, List.setIfInBounds_toArray, List.set_cons_zero, List.set_cons_succ]
            rw [sx_cat]
            refine wpQuiet_nil ?_
            intro _ hw'
            obtain ⟨nq, hw''⟩ := hw'
            subst hw''
            have O1 := Hid.mk (OK.out.then (below_drewN wr nq))
            generalize wr.drewN nq = W1 at *
            have hcat := sx_slash (sxName k)
            have hnz : (mkS (sxName k)).size = 3 := by rw [mkS_size]; rfl
            have hcl : ¬ 9223372036854775807 < 1 + (mkS (sxName k)).size := by omega
            have hcl2 : 1 + (mkS (sxName k)).size ≤ 9223372036854775807 := by omega
            have hw1 : IntKind.i64.wrap ((k : Int) + 1) = (k : Int) + 1 := by rw [IntKind.wrap_i64]; omega
            clear OK hlt hk60 hk HS1 HS2
            go_upto_region 11 with (first
              | (go_at_call 13; refine (lC_any _ _ _).mono ?_; rintro e W5 ⟨rfl, hB5⟩; have O2 := Hid.mk (O1.out.then hB5); unfold callV; try rw [hcat]; clear hB5)
              | (go_at_call 12; refine (HAD.out _ _ _ _ _ _ HK.out O2.out).mono ?_; rintro e W6 ⟨rfl, hO, -, -⟩; have O3 := Hid.mk hO; clear hO))
            obtain ⟨Y6, hY6⟩ : ∃ Y6, Y6 = W6.alloc (.cells #[.int .i64 0, .slice none 0 0, .int .i64 0, .int .i64 0, .int .i64 0, .slice none 0 0, .int .i64 0] 32) := ⟨_, rfl⟩
            have P6 := Hid.mk ((O3.out.box (.cells #[.int .i64 0, .slice none 0 0, .int .i64 0, .int .i64 0, .int .i64 0, .slice none 0 0, .int .i64 0] 32)).less (B' := fun _ => False) (fun _ h => h.elim))
            have q6 : Y6.heap[W6.heap.size]? = some (.cells #[.int .i64 0, .slice none 0 0, .int .i64 0, .int .i64 0, .int .i64 0, .slice none 0 0, .int .i64 0] 32 (0, 0)) := by rw [hY6]; exact blk_new W6 _
            rw [← hY6] at P6 ⊢
            generalize W6.heap.size = b6 at *
            have c6 := blk_cell q6 0
            simp at c6
            obtain ⟨v', W4, hr4, ho4, -, -⟩ := sxw_append P6.out (sxName k) (by simp [sxP_len]; have := HK.out; omega)
            have HR4 := Hid.mk hr4
            have HO4 := Hid.mk ho4
            unfold strV at HR4
            clear hY6 O1 O2 O3 q6 hr4 ho4
            go_wp2_with (first
              | (go_at_call 14; refine (lnum_any _ _).mono ?_; rintro e W9 ⟨rfl, hw⟩; subst hw)
              | (at_builtin; refine wpList_append_known rfl _ _ _ rfl _ _ _ _ rfl rfl HR4.out ?_; simp only [Act.put, List.setIfInBounds_toArray, List.set_cons_zero, List.set_cons_succ]))
            go_roundw
            case rel => exact ⟨k + 1, by have := HLT.out; omega, by go_num, by have := HO4.out; rw [sxP_succ] at this ⊢; rw [List.map_append]; exact this⟩
            case measure => have := HLT.out; simp [intOf]; omega
          · have hi : ¬ (k : Int) < n := by omega
            obtain rfl : k = n := by omega
            obtain ⟨ao, c, ev, -⟩ := OK.out.place
            rw [show ((sxP k).map (·.2)).length = k by rw [List.length_map, sxP_len]] at ev
            subst ev
            clear HAD hlt hk
            have HDR : Hid (∀ (W : World) (v : Value) (P : List (Nat × List UInt8)) (fs : List Nd) (B : Nat → Prop) (m : Nat) (q : List UInt8), sxGood P → (∃ h : m < P.length, P[m].2 = q) → q ≠ [] → SxW w W t v (P.map (·.2)) P fs B → _) := Hid.mk (fun W v P fs B m q (hg : sxGood P) (hm : ∃ h : m < P.length, P[m].2 = q) (hq : q ≠ []) (h : SxW w W t v (P.map (·.2)) P fs B) => sxw_drop2 hg h hm hq)
            unfold errV callV ptrV at HDR
            go_wp2_with fail
            go_loopw [11] (fun i wr => ∃ (j : Nat) (P : List (Nat × List UInt8)) (fs : List Nd), j ≤ gn ∧ i = .int .i64 j ∧ P.length = k ∧ sxGood P ∧ SxW w wr t (.slice ao k c) (P.map (·.2)) P fs (fun _ => False)) (fun i _ => gn - (intOf i).toNat)
            case atStart => exact ⟨0, _, _, by omega, rfl, sxP_len k, sxP_good HN.out, OK.out⟩
            case round =>
              obtain ⟨j, P, fs, hj, rfl, hl, hgd, hO⟩ := hrel
              have PK := Hid.mk hO
              have GD := Hid.mk hgd
              have HL := Hid.mk hl
              clear hO OK hgd hl
              by_cases hlt : j < gn
              · have hi2 : (j : Int) < gn := by omega
                have HLT := Hid.mk hlt
                obtain ⟨a, ea, ca⟩ := (HG.out.blw PK.out.below).at j hlt
                have hw1 : IntKind.i64.wrap ((j : Int) + 1) = (j : Int) + 1 := by rw [IntKind.wrap_i64]; omega
                subst ea
                obtain ⟨x, hxx⟩ : ∃ x, xs.getD j 0 = x := ⟨_, rfl⟩
                rw [hxx] at ca
                have HX := Hid.mk hxx
                clear hxx
                by_cases hx0 : x < 0
                · clear hlt hj
                  go_wp2_with fail
                  go_roundw
                  case rel => exact ⟨j + 1, P, fs, by have := HLT.out; omega, by go_num, HL.out, GD.out, PK.out⟩
                  case measure => have := HLT.out; simp [intOf]; omega
                · by_cases hx1 : (k : Int) ≤ x
                  · clear hlt hj
                    go_wp2_with fail
                    go_roundw
                    case rel => exact ⟨j + 1, P, fs, by have := HLT.out; omega, by go_num, HL.out, GD.out, PK.out⟩
                    case measure => have := HLT.out; simp [intOf]; omega
                  · obtain ⟨m, rfl⟩ : ∃ m : Nat, x = m := ⟨x.toNat, by omega⟩
                    have hmk : m < k := by omega
                    have hmi : (m : Int) < k := by omega
                    have hmp : m < P.length := by rw [HL.out]; exact hmk
                    obtain ⟨ao', c', ev, hpl⟩ := PK.out.place
                    obtain ⟨g, eg, hc, hfz⟩ := hpl m (by rw [List.length_map]; exact hmp)
                    rw [List.length_map, HL.out] at ev
                    cases ev
                    subst eg
                    have hgd : P[m].2 = (P.map (·.2)).getD m [] := by simp [List.getD, hmp]
                    obtain ⟨q, hq⟩ : ∃ q, (P.map (·.2)).getD m [] = q := ⟨_, rfl⟩
                    rw [hq] at hc hgd
                    have HGQ : Hid (∃ h : m < P.length, P[m].2 = q) := Hid.mk ⟨hmp, hgd⟩
                    have HQ := Hid.mk hq
                    unfold strV at hc
                    have hll : (P.map (·.2)).length = k := by rw [List.length_map, HL.out]
                    by_cases hp : q = []
                    · subst hp
                      have HST := Hid.mk (sxw_store2 hll PK.out m []).1
                      rw [sx_set_same (by rw [hll]; exact hmk) hq] at HST
                      rw [show mkS [] = ⟨#[]⟩ from rfl] at hc HST
                      clear hlt hj hpl hgd hmp hq hll
                      go_wp2_with fail
                      go_roundw
                      case rel => exact ⟨j + 1, P, fs, by have := HLT.out; omega, by go_num, HL.out, GD.out, HST.out⟩
                      case measure => have := HLT.out; simp [intOf]; omega
                    · have hq3 : q.length = 3 := by
                        rcases GD.out _ (List.getElem_mem hmp) with h | ⟨y, _, h⟩
                        · rw [hgd] at h; exact absurd h hp
                        · rw [hgd] at h; rw [h]; rfl
                      have hcat := sx_slash q
                      have hnz : (mkS q).size = 3 := by rw [mkS_size]; exact hq3
                      have hne : (mkS q).toList.isEmpty = false := by rw [nm_empty, hnz]; rfl
                      have hcl : ¬ 9223372036854775807 < 1 + (mkS q).size := by omega
                      have hcl2 : 1 + (mkS q).size ≤ 9223372036854775807 := by omega
                      have HP := Hid.mk hp
                      have HLL := Hid.mk hll
                      have HMK := Hid.mk hmk
                      clear hj hpl hgd hmp hq hp hll hq3
                      go_upto_region 20 with fail
                      go_upto_region 21 with (first
                        | (go_at_call 13; refine (lC_any _ _ _).mono ?_; rintro e W5 ⟨rfl, hB5⟩; have O2 := Hid.mk (PK.out.then hB5); unfold callV; try rw [hcat]; clear hB5)
                        | (go_at_call 12; refine (HDR.out _ _ _ _ _ _ _ GD.out HGQ.out HP.out O2.out).mono ?_; rintro e W6 ⟨rfl, jj, fs', hO⟩; have O3 := Hid.mk hO; clear hO))
                      have hcell6 := (HG.out.blw O3.out.below).at j hlt
                      obtain ⟨a', ea', ca'⟩ := hcell6
                      cases ea'
                      rw [HX.out] at ca'
                      obtain ⟨x6, y6⟩ := sxw_cell O3.out m (by rw [HLL.out]; exact HMK.out)
                      have HST := Hid.mk (sxw_store2 HLL.out O3.out m []).1
                      rw [show mkS [] = ⟨#[]⟩ from rfl] at HST
                      have HRL : Hid (SxW w (W6.setCell ⟨g, m, none⟩ (.string ⟨#[]⟩)) t (.slice (some ⟨g, 0, none⟩) k c) ((P.set m (jj, [])).map (·.2)) (P.set m (jj, [])) fs' (fun _ => False)) := Hid.mk (by rw [List.map_set]; exact HST.out)
                      clear hlt HST O2 O3
                      go_wp2_with fail
                      go_roundw
                      case rel => exact ⟨j + 1, _, _, by have := HLT.out; omega, by go_num, by rw [List.length_set]; exact HL.out, GD.out.gone m jj, HRL.out⟩
                      case measure => have := HLT.out; simp [intOf]; omega
              · have hi2 : ¬ (j : Int) < gn := by omega
                obtain rfl : j = gn := by omega
                have HNW : Hid (∀ (W : World) (v : Value) (B : Nat → Prop), SxW w W t v (P.map (·.2)) P fs B → _) := Hid.mk (fun W v B (h : SxW w W t v (P.map (·.2)) P fs B) => sxw_new GD.out (by rw [HL.out]; exact HN.out) h)
                unfold errV callV ptrV at HNW
                rw [show mkS (47 :: sxNew) = ⟨#[47, 110, 101, 119]⟩ from rfl] at HNW
                clear hlt hj HDR
                go_upto_region 23 with (first
                  | (go_at_call 13; refine (lC_any _ _ _).mono ?_; rintro e W5 ⟨rfl, hB5⟩; have O2 := Hid.mk (PK.out.then hB5); unfold callV; clear hB5)
                  | (go_at_call 12; refine (HNW.out _ _ _ O2.out).mono ?_; rintro e W6 ⟨rfl, hO, -, -⟩; have O3 := Hid.mk hO; clear hO))
                obtain ⟨Y6, hY6⟩ : ∃ Y6, Y6 = W6.alloc (.cells #[.int .i64 0, .slice none 0 0, .int .i64 0, .int .i64 0, .int .i64 0, .slice none 0 0, .int .i64 0] 32) := ⟨_, rfl⟩
                have P6 := Hid.mk ((O3.out.box (.cells #[.int .i64 0, .slice none 0 0, .int .i64 0, .int .i64 0, .int .i64 0, .slice none 0 0, .int .i64 0] 32)).less (B' := fun k => k = W6.heap.size) (fun _ h => .inr h))
                have q6 : Hid (Y6.heap[W6.heap.size]? = some (.cells #[.int .i64 0, .slice none 0 0, .int .i64 0, .int .i64 0, .int .i64 0, .slice none 0 0, .int .i64 0] 32 (0, 0))) := Hid.mk (by rw [hY6]; exact blk_new W6 _)
                rw [← hY6] at P6 ⊢
                generalize W6.heap.size = b6 at *
                clear hY6 O2 O3 HNW PK
                go_wp2_with fail
                go_loopw [14] (fun i wr => wr = Y6 ∧ ∃ j : Nat, j ≤ k ∧ i = .int .i64 j ∧ ∀ y, (h : y < P.length) → y < j → P[y].2 ≠ []) (fun i _ => k - (intOf i).toNat)
                case atStart => exact ⟨rfl, 0, by omega, rfl, fun y _ h => by omega⟩
                case round =>
                  obtain ⟨rfl, jj, hjk, rfl, hbe⟩ := hrel
                  have HBE := Hid.mk hbe
                  clear hbe
                  by_cases hlt : jj < k
                  · have hi3 : (jj : Int) < k := by omega
                    have hw1 : IntKind.i64.wrap ((jj : Int) + 1) = (jj : Int) + 1 := by rw [IntKind.wrap_i64]; omega
                    have hmp : jj < P.length := by rw [HL.out]; exact hlt
                    obtain ⟨ao', c', ev, hpl⟩ := P6.out.place
                    obtain ⟨g, eg, hc, hfz⟩ := hpl jj (by rw [List.length_map]; exact hmp)
                    rw [List.length_map, HL.out] at ev
                    cases ev
                    subst eg
                    have hgd : P[jj].2 = (P.map (·.2)).getD jj [] := by simp [List.getD, hmp]
                    obtain ⟨q, hq⟩ : ∃ q, (P.map (·.2)).getD jj [] = q := ⟨_, rfl⟩
                    rw [hq] at hc hgd
                    unfold strV at hc
                    have HLT := Hid.mk hlt
                    have HGQ : Hid (∃ h : jj < P.length, P[jj].2 = q) := Hid.mk ⟨hmp, hgd⟩
                    have hll : (P.map (·.2)).length = k := by rw [List.length_map, HL.out]
                    by_cases hp : q = []
                    · subst hp
                      rw [show mkS [] = ⟨#[]⟩ from rfl] at hc
                      have HST := sxw_store2 hll P6.out jj sxNew
                      obtain ⟨Z, hZ⟩ : ∃ Z, Z = wr.setCell ⟨g, jj, none⟩ (.string (mkS sxNew)) := ⟨_, rfl⟩
                      have hmo := sx_first hmp hgd (fun y hy => HBE.out y (by omega) hy) (fs.length + 1)
                      obtain ⟨P', hP'⟩ : ∃ P', sxMore P (fs.length + 1) = P' := ⟨_, rfl⟩
                      obtain ⟨fs', hfs'⟩ : ∃ fs', fs ++ [newF] = fs' := ⟨_, rfl⟩
                      rw [show (P.map (·.2)).set jj sxNew = P'.map (·.2) by rw [← hP', hmo, List.map_set], hP', ← hZ, hfs'] at HST
                      have S := Hid.mk HST.1
                      have Q6 := Hid.mk ((HST.2 b6 rfl).trans q6.out)
                      have HPL : Hid (P'.length = k) := Hid.mk (by rw [← hP', hmo, List.length_set]; exact HL.out)
                      have HK1 : Hid (k ≤ k ∧ k ≤ 61) := Hid.mk ⟨Nat.le_refl _, by have := HN.out; omega⟩
                      rw [show mkS sxNew = ⟨#[110, 101, 119]⟩ from rfl] at hZ
                      clear HST hlt hpl hgd hmp hq hll hjk hmo hP' hfs'
                      go_upto_region 29 with fail
                      rw [← hZ]
                      clear hZ hc hfz P6 q6 HLT HGQ HBE HL GD
                      have HLS : Hid (∀ (W : World) (B : Nat → Prop), SxW w W t (.slice (some ⟨g, 0, none⟩) k c) (P'.map (·.2)) P' fs' B → _) := Hid.mk (fun W B (h : SxW w W t (.slice (some ⟨g, 0, none⟩) k c) (P'.map (·.2)) P' fs' B) => sxw_list h)
                      have HSS : Hid (∀ (W : World) (B : Nat → Prop), SxW w W t (.slice (some ⟨g, 0, none⟩) k c) (P'.map (·.2)) P' fs' B → _) := Hid.mk (fun W B (h : SxW w W t (.slice (some ⟨g, 0, none⟩) k c) (P'.map (·.2)) P' fs' B) => sxw_stat h)
                      unfold callV ptrV at HLS HSS
                      simp only [sx_list] at HLS
                      obtain ⟨F, hF⟩ : ∃ F, (P'.map (·.2)).filter (fun p => decide (p ≠ [])) = F := ⟨_, rfl⟩
                      obtain ⟨n2, hn2⟩ : ∃ n2, F.length = n2 := ⟨_, rfl⟩
                      obtain ⟨z, hz⟩ : ∃ z : Int, 1024 * (sxZ P'.length : Int) = z := ⟨_, rfl⟩
                      simp only [hF, hn2] at HLS
                      simp only [hz] at HSS
                      have HF := Hid.mk hF
                      have HN2 := Hid.mk hn2
                      have HZ := Hid.mk hz
                      clear hF hn2 hz
                      go_upto_region 30 with (first
                        | (go_at_call 13; refine (lC_any _ _ _).mono ?_; rintro e W7 ⟨rfl, hB7⟩; have O2 := Hid.mk (S.out.then hB7); have Q62 := Hid.mk ((hB7.block _ (lt_of_block Q6.out)).trans Q6.out); unfold callV; clear hB7)
                        | (go_at_call 12; refine (HLS.out _ _ O2.out).mono ?_; rintro e W8 ⟨ao2, c2, rfl, hA, -, -, hO, hk8, hs8⟩; have O3 := Hid.mk hO; have A3 := Hid.mk hA; have Q63 := Hid.mk ((hk8 _ rfl).trans Q62.out); clear hO hA hk8 hs8))
                      obtain ⟨Y7, hY7⟩ : ∃ Y7, Y7 = W8.alloc (.cells #[.int .i64 0, .slice none 0 0, .int .i64 0, .int .i64 0, .int .i64 0, .slice ao2 n2 c2, .int .i64 0] 32) := ⟨_, rfl⟩
                      have P7 := Hid.mk (O3.out.box (.cells #[.int .i64 0, .slice none 0 0, .int .i64 0, .int .i64 0, .int .i64 0, .slice ao2 n2 c2, .int .i64 0] 32))
                      have q7 : Hid (Y7.heap[W8.heap.size]? = some (.cells #[.int .i64 0, .slice none 0 0, .int .i64 0, .int .i64 0, .int .i64 0, .slice ao2 n2 c2, .int .i64 0] 32 (0, 0))) := Hid.mk (by rw [hY7]; exact blk_new W8 _)
                      have A4 : Hid (SAt Y7 ao2 n2 F) := Hid.mk (by rw [hY7]; exact A3.out.below ((Below.refl _ W8).alloc (Nat.le_refl _) _))
                      have Q64 : Hid (Y7.heap[b6]? = some (.cells #[.int .i64 0, .slice none 0 0, .int .i64 0, .int .i64 0, .int .i64 0, .slice none 0 0, .int .i64 0] 32 (0, 0))) := Hid.mk (by rw [hY7, Below.heap_alloc _ _ _ (lt_of_block Q63.out)]; exact Q63.out)
                      rw [← hY7] at P7 ⊢
                      generalize W8.heap.size = b7 at *
                      clear hY7 O2 O3 A3 Q62 Q63 S HLS
                      go_upto_region 31 with (first
                        | (go_at_call 13; refine (lC_any _ _ _).mono ?_; rintro e W9 ⟨rfl, hB9⟩; have O2 := Hid.mk (P7.out.then hB9); have Q65 := Hid.mk ((hB9.block _ (lt_of_block Q64.out)).trans Q64.out); have Q75 := Hid.mk ((hB9.block _ (lt_of_block q7.out)).trans q7.out); have A5 := Hid.mk (A4.out.below hB9); unfold callV; clear hB9)
                        | (go_at_call 12; refine (HSS.out _ _ O2.out).mono ?_; rintro e W10 ⟨rfl, hO, hk8, hs8⟩; have O3 := Hid.mk hO; have A6 := Hid.mk (A5.out.kept2 (fun a ha hn => hk8 a.block (.inl (.inr ⟨a, ha, hn, rfl⟩))) hs8); have Q66 := Hid.mk ((hk8 b6 (.inl (.inl rfl))).trans Q65.out); have Q76 := Hid.mk ((hk8 b7 (.inr rfl)).trans Q75.out); clear hO hk8 hs8))
                      obtain ⟨Y9, hY9⟩ : ∃ Y9, Y9 = W10.alloc (.cells #[.int .i64 0, .slice none 0 0, .int .i64 2, .int .i64 z, .int .i64 2, .slice none 0 0, .int .i64 0] 32) := ⟨_, rfl⟩
                      have HE : Hid (SxEnd w Y9 b6 b7 W10.heap.size (some ⟨g, 0, none⟩) k (P'.map (·.2)) ao2 n2 c2 F z) := Hid.mk (by
                        have hb : Below W10.heap.size W10 Y9 := by rw [hY9]; exact (Below.refl _ W10).alloc (Nat.le_refl _) _
                        have h6 := (hb.block _ (lt_of_block Q66.out)).trans Q66.out
                        have h7 := (hb.block _ (lt_of_block Q76.out)).trans Q76.out
                        have h9 : Y9.heap[W10.heap.size]? = some (.cells #[.int .i64 0, .slice none 0 0, .int .i64 2, .int .i64 z, .int .i64 2, .slice none 0 0, .int .i64 0] 32 (0, 0)) := by rw [hY9]; exact blk_new W10 _
                        have hS := O3.out.then hb
                        obtain ⟨ao', c', ev, hpl⟩ := hS.place
                        rw [List.length_map, HPL.out] at ev
                        cases ev
                        refine ⟨hS.below, by rw [blk_cell h6]; rfl, by rw [blk_cell h7]; rfl, by rw [blk_cell h9]; rfl, fun y hy => ?_, fun y hy => ?_⟩
                        · obtain ⟨g, eg, hc, -⟩ := hpl y (by rw [List.length_map, HPL.out]; exact hy)
                          exact ⟨g, eg, hc⟩
                        · obtain ⟨a, ea, hc⟩ := (A6.out.below hb).at y hy
                          exact ⟨a, ea, hc⟩)
                      rw [← hY9]
                      generalize W10.heap.size = b9 at *
                      clear hY9 O2 O3 A4 A5 A6 Q64 Q65 Q66 q7 Q75 Q76 P7 HSS Q6
                      obtain ⟨L', hL'⟩ : ∃ L', P'.map (·.2) = L' := ⟨_, rfl⟩
                      rw [hL'] at HE HF
                      have HLN : Hid (L'.length = k) := Hid.mk (by rw [← hL', List.length_map]; exact HPL.out)
                      have HFL : Hid (n2 ≤ k) := Hid.mk (by rw [← HN2.out, ← HF.out, ← HLN.out]; exact sx_filter_le L')
                      have HZ1 : Hid (z = ((k : Int) + 33) / 32 * 1024) := Hid.mk (by rw [← HZ.out, HPL.out]; unfold sxZ; omega)
                      clear hL' HZ
                      go_wp2_with fail
                      go_loopw [17, 18] (fun x i wr => ∃ j : Nat, j ≤ k ∧ i = .int .i64 j ∧ x = .int .i64 (sxCnt L' j : Nat) ∧ SxEnd w wr b6 b7 b9 (some ⟨g, 0, none⟩) k L' ao2 n2 c2 F z) (fun _ i _ => k - (intOf i).toNat)
                      case atStart => exact ⟨0, by omega, rfl, rfl, HE.out⟩
                      case round =>
                        obtain ⟨j, hj, rfl, rfl, hE⟩ := hrel
                        have EE := Hid.mk hE
                        clear hE HE
                        by_cases hlt : j < k
                        · have hi4 : (j : Int) < k := by omega
                          have HLT := Hid.mk hlt
                          have hw1 : IntKind.i64.wrap ((j : Int) + 1) = (j : Int) + 1 := by rw [IntKind.wrap_i64]; have := HK1.out; omega
                          obtain ⟨g', eg, hc⟩ := EE.out.row j hlt
                          obtain ⟨q, hq⟩ : ∃ q, L'.getD j [] = q := ⟨_, rfl⟩
                          have hst := sxCnt_step (L := L') (k := j) (by rw [HLN.out]; exact hlt)
                          rw [hq] at hc hst
                          cases eg
                          by_cases hp : q = []
                          · subst hp
                            rw [if_pos rfl, Nat.add_zero] at hst
                            rw [show mkS [] = ⟨#[]⟩ from rfl] at hc
                            have HST := Hid.mk hst
                            clear hlt hst hq hj
                            go_wp2_with fail
                            go_roundw
                            case rel => exact ⟨j + 1, by have := HLT.out; omega, by go_num, by rw [HST.out]; rfl, EE.out⟩
                            case measure => have := HLT.out; simp [intOf]; omega
                          · rw [if_neg hp] at hst
                            obtain ⟨hca, hcb⟩ := sxCnt_at (L := L') (k := j) (by rw [HLN.out]; exact hlt) (by rw [hq]; exact hp)
                            rw [HF.out, HN2.out] at hca
                            rw [HF.out, hq] at hcb
                            have hne : (mkS q).toList.isEmpty = false := by rw [nm_empty, mkS_size]; simpa using hp
                            obtain ⟨a, ea, ha⟩ := EE.out.ans _ hca
                            rw [hcb] at ha
                            subst ea
                            have e7 := EE.out.e7
                            have HST := Hid.mk hst
                            have HFL2 : Hid (n2 ≤ 61) := Hid.mk (by have := HFL.out; have := HK1.out; omega)
                            generalize sxCnt L' j = y at *
                            have hyi : (y : Int) < n2 := by omega
                            have hdf : decide ((n2 : Int) ≤ y) = false := by simpa using hyi
                            have hw2 : IntKind.i64.wrap ((y : Int) + 1) = (y : Int) + 1 := by rw [IntKind.wrap_i64]; have := HFL2.out; omega
                            clear hlt hst hq hj hp hcb
                            go_upto_region 36 with fail
                            go_quiet (fail)
                            have EE2 := Hid.mk (EE.out.drewN nq)
                            generalize wr.drewN nq = W11 at *
                            go_wp2_with fail
                            go_roundw
                            case rel => exact ⟨j + 1, by have := HLT.out; omega, by go_num, by rw [HST.out]; go_num, EE2.out⟩
                            case measure => have := HLT.out; simp [intOf]; omega
                        · have hi4 : ¬ (j : Int) < k := by omega
                          obtain rfl : k = j := by omega
                          have hcn : sxCnt L' k = n2 := by rw [← HLN.out, sxCnt_all, HF.out, HN2.out]
                          rw [hcn]
                          have e6 := EE.out.e6
                          have e7 := EE.out.e7
                          have e9 := EE.out.e9
                          have hk1 : (k : Int) ≤ k := by have := HK1.out; omega
                          have hw2 : IntKind.i64.wrap ((k : Int) + 2) = (k : Int) + 2 := by rw [IntKind.wrap_i64]; have := HK1.out; omega
                          have hw3 : IntKind.i64.wrap ((k : Int) + 2) = (k : Int) + 2 := by rw [IntKind.wrap_i64]; have := HK1.out; omega
                          have hw4 : IntKind.i64.wrap ((k : Int) + 2 + 31) = (k : Int) + 2 + 31 := by rw [IntKind.wrap_i64]; have := HK1.out; omega
                          have hgt : ¬ (k : Int) + 2 < (k : Int) + 2 := by omega
                          have hn61 : (k : Int) ≤ 61 := by have := HK1.out; omega
                          have HFIN : Hid ((z == ((k : Int) + 2 + 31) / 32 * 1024) = true) := Hid.mk (by
                            have h := HZ1.out
                            have e : (k : Int) + 2 + 31 = (k : Int) + 33 := by omega
                            rw [e, h]
                            exact beq_self_eq_true _)
                          clear hlt hj hcn
                          go_wp2_with (go_at_call 14; refine (lnum_any _ _).mono ?_; rintro e W12 ⟨rfl, hw⟩; subst hw)
                          rw [HFIN.out]
                          go_ret
                          exact ⟨rfl, EE.out.below⟩
                    · have hne : (mkS q).toList.isEmpty = false := by rw [nm_empty, mkS_size]; simpa using hp
                      have HP := Hid.mk hp
                      clear hlt hpl hgd hmp hq hp hll hjk
                      go_wp2_with fail
                      go_roundw
                      case rel => exact ⟨trivial, jj + 1, by have := HLT.out; omega, by go_num, fun y h1 h2 => by
                        by_cases e : y = jj
                        · subst e; obtain ⟨_, e2⟩ := HGQ.out; rw [e2]; exact HP.out
                        · exact HBE.out y h1 (by omega)⟩
                      case measure => have := HLT.out; simp [intOf]; omega
                  · have hi3 : ¬ (jj : Int) < k := by omega
                    obtain rfl : jj = k := by omega
                    obtain ⟨v', Z, hr4, ho4, hk4, -⟩ := sxw_append P6.out sxNew (by rw [List.length_map, HL.out]; have := HN.out; omega)
                    have hmo := sx_none (fun y hy => HBE.out y hy (by rw [HL.out] at hy; exact hy)) (fs.length + 1)
                    obtain ⟨P', hP'⟩ : ∃ P', sxMore P (fs.length + 1) = P' := ⟨_, rfl⟩
                    obtain ⟨fs', hfs'⟩ : ∃ fs', fs ++ [newF] = fs' := ⟨_, rfl⟩
                    rw [show P.map (·.2) ++ [sxNew] = P'.map (·.2) by rw [← hP', hmo, List.map_append]; rfl, hP', hfs'] at ho4
                    obtain ⟨n1, hn1⟩ : ∃ n1, P'.length = n1 := ⟨_, rfl⟩
                    have HK1 : Hid (jj ≤ n1 ∧ n1 ≤ 61) := Hid.mk (by rw [← hn1, ← hP', hmo, List.length_append, HL.out, List.length_singleton]; have := HN.out; omega)
                    obtain ⟨ao1, c1, ev, -⟩ := ho4.place
                    rw [List.length_map, hn1] at ev
                    subst ev
                    have S := Hid.mk ho4
                    have Q6 := Hid.mk ((hk4 b6 rfl).trans q6.out)
                    have HPL := Hid.mk hn1
                    have HR4 := Hid.mk hr4
                    unfold strV at HR4
                    rw [show mkS sxNew = ⟨#[110, 101, 119]⟩ from rfl] at HR4
                    clear hlt hjk hmo hP' hfs' hr4 ho4 hk4 hn1
                    go_upto_region 29 with (at_builtin; refine wpList_append_known rfl _ _ _ rfl _ _ _ _ rfl rfl HR4.out ?_; simp only [Act.put, List.setIfInBounds_toArray, List.set_cons_zero, List.set_cons_succ])
                    clear HR4 P6 q6 HBE HL GD
                    have HLS : Hid (∀ (W : World) (B : Nat → Prop), SxW w W t (.slice ao1 n1 c1) (P'.map (·.2)) P' fs' B → _) := Hid.mk (fun W B (h : SxW w W t (.slice ao1 n1 c1) (P'.map (·.2)) P' fs' B) => sxw_list h)
                    have HSS : Hid (∀ (W : World) (B : Nat → Prop), SxW w W t (.slice ao1 n1 c1) (P'.map (·.2)) P' fs' B → _) := Hid.mk (fun W B (h : SxW w W t (.slice ao1 n1 c1) (P'.map (·.2)) P' fs' B) => sxw_stat h)
                    unfold callV ptrV at HLS HSS
                    simp only [sx_list] at HLS
                    obtain ⟨F, hF⟩ : ∃ F, (P'.map (·.2)).filter (fun p => decide (p ≠ [])) = F := ⟨_, rfl⟩
                    obtain ⟨n2, hn2⟩ : ∃ n2, F.length = n2 := ⟨_, rfl⟩
                    obtain ⟨z, hz⟩ : ∃ z : Int, 1024 * (sxZ P'.length : Int) = z := ⟨_, rfl⟩
                    simp only [hF, hn2] at HLS
                    simp only [hz] at HSS
                    have HF := Hid.mk hF
                    have HN2 := Hid.mk hn2
                    have HZ := Hid.mk hz
                    clear hF hn2 hz
                    go_upto_region 30 with (first
                      | (go_at_call 13; refine (lC_any _ _ _).mono ?_; rintro e W7 ⟨rfl, hB7⟩; have O2 := Hid.mk (S.out.then hB7); have Q62 := Hid.mk ((hB7.block _ (lt_of_block Q6.out)).trans Q6.out); unfold callV; clear hB7)
                      | (go_at_call 12; refine (HLS.out _ _ O2.out).mono ?_; rintro e W8 ⟨ao2, c2, rfl, hA, -, -, hO, hk8, hs8⟩; have O3 := Hid.mk hO; have A3 := Hid.mk hA; have Q63 := Hid.mk ((hk8 _ rfl).trans Q62.out); clear hO hA hk8 hs8))
                    obtain ⟨Y7, hY7⟩ : ∃ Y7, Y7 = W8.alloc (.cells #[.int .i64 0, .slice none 0 0, .int .i64 0, .int .i64 0, .int .i64 0, .slice ao2 n2 c2, .int .i64 0] 32) := ⟨_, rfl⟩
                    have P7 := Hid.mk (O3.out.box (.cells #[.int .i64 0, .slice none 0 0, .int .i64 0, .int .i64 0, .int .i64 0, .slice ao2 n2 c2, .int .i64 0] 32))
                    have q7 : Hid (Y7.heap[W8.heap.size]? = some (.cells #[.int .i64 0, .slice none 0 0, .int .i64 0, .int .i64 0, .int .i64 0, .slice ao2 n2 c2, .int .i64 0] 32 (0, 0))) := Hid.mk (by rw [hY7]; exact blk_new W8 _)
                    have A4 : Hid (SAt Y7 ao2 n2 F) := Hid.mk (by rw [hY7]; exact A3.out.below ((Below.refl _ W8).alloc (Nat.le_refl _) _))
                    have Q64 : Hid (Y7.heap[b6]? = some (.cells #[.int .i64 0, .slice none 0 0, .int .i64 0, .int .i64 0, .int .i64 0, .slice none 0 0, .int .i64 0] 32 (0, 0))) := Hid.mk (by rw [hY7, Below.heap_alloc _ _ _ (lt_of_block Q63.out)]; exact Q63.out)
                    rw [← hY7] at P7 ⊢
                    generalize W8.heap.size = b7 at *
                    clear hY7 O2 O3 A3 Q62 Q63 S HLS
                    go_upto_region 31 with (first
                      | (go_at_call 13; refine (lC_any _ _ _).mono ?_; rintro e W9 ⟨rfl, hB9⟩; have O2 := Hid.mk (P7.out.then hB9); have Q65 := Hid.mk ((hB9.block _ (lt_of_block Q64.out)).trans Q64.out); have Q75 := Hid.mk ((hB9.block _ (lt_of_block q7.out)).trans q7.out); have A5 := Hid.mk (A4.out.below hB9); unfold callV; clear hB9)
                      | (go_at_call 12; refine (HSS.out _ _ O2.out).mono ?_; rintro e W10 ⟨rfl, hO, hk8, hs8⟩; have O3 := Hid.mk hO; have A6 := Hid.mk (A5.out.kept2 (fun a ha hn => hk8 a.block (.inl (.inr ⟨a, ha, hn, rfl⟩))) hs8); have Q66 := Hid.mk ((hk8 b6 (.inl (.inl rfl))).trans Q65.out); have Q76 := Hid.mk ((hk8 b7 (.inr rfl)).trans Q75.out); clear hO hk8 hs8))
                    obtain ⟨Y9, hY9⟩ : ∃ Y9, Y9 = W10.alloc (.cells #[.int .i64 0, .slice none 0 0, .int .i64 2, .int .i64 z, .int .i64 2, .slice none 0 0, .int .i64 0] 32) := ⟨_, rfl⟩
                    have HE : Hid (SxEnd w Y9 b6 b7 W10.heap.size ao1 n1 (P'.map (·.2)) ao2 n2 c2 F z) := Hid.mk (by
                      have hb : Below W10.heap.size W10 Y9 := by rw [hY9]; exact (Below.refl _ W10).alloc (Nat.le_refl _) _
                      have h6 := (hb.block _ (lt_of_block Q66.out)).trans Q66.out
                      have h7 := (hb.block _ (lt_of_block Q76.out)).trans Q76.out
                      have h9 : Y9.heap[W10.heap.size]? = some (.cells #[.int .i64 0, .slice none 0 0, .int .i64 2, .int .i64 z, .int .i64 2, .slice none 0 0, .int .i64 0] 32 (0, 0)) := by rw [hY9]; exact blk_new W10 _
                      have hS := O3.out.then hb
                      obtain ⟨ao', c', ev, hpl⟩ := hS.place
                      rw [List.length_map, HPL.out] at ev
                      cases ev
                      refine ⟨hS.below, by rw [blk_cell h6]; rfl, by rw [blk_cell h7]; rfl, by rw [blk_cell h9]; rfl, fun y hy => ?_, fun y hy => ?_⟩
                      · obtain ⟨g, eg, hc, -⟩ := hpl y (by rw [List.length_map, HPL.out]; exact hy)
                        exact ⟨g, eg, hc⟩
                      · obtain ⟨a, ea, hc⟩ := (A6.out.below hb).at y hy
                        exact ⟨a, ea, hc⟩)
                    rw [← hY9]
                    generalize W10.heap.size = b9 at *
                    clear hY9 O2 O3 A4 A5 A6 Q64 Q65 Q66 q7 Q75 Q76 P7 HSS Q6
                    obtain ⟨L', hL'⟩ : ∃ L', P'.map (·.2) = L' := ⟨_, rfl⟩
                    rw [hL'] at HE HF
                    have HLN : Hid (L'.length = n1) := Hid.mk (by rw [← hL', List.length_map]; exact HPL.out)
                    have HFL : Hid (n2 ≤ n1) := Hid.mk (by rw [← HN2.out, ← HF.out, ← HLN.out]; exact sx_filter_le L')
                    have HZ1 : Hid (z = ((n1 : Int) + 33) / 32 * 1024) := Hid.mk (by rw [← HZ.out, HPL.out]; unfold sxZ; omega)
                    clear hL' HZ
                    go_wp2_with fail
                    go_loopw [17, 18] (fun x i wr => ∃ j : Nat, j ≤ n1 ∧ i = .int .i64 j ∧ x = .int .i64 (sxCnt L' j : Nat) ∧ SxEnd w wr b6 b7 b9 ao1 n1 L' ao2 n2 c2 F z) (fun _ i _ => n1 - (intOf i).toNat)
                    case atStart => exact ⟨0, by omega, rfl, rfl, HE.out⟩
                    case round =>
                      obtain ⟨j, hj, rfl, rfl, hE⟩ := hrel
                      have EE := Hid.mk hE
                      clear hE HE
                      by_cases hlt : j < n1
                      · have hi4 : (j : Int) < n1 := by omega
                        have HLT := Hid.mk hlt
                        have hw1 : IntKind.i64.wrap ((j : Int) + 1) = (j : Int) + 1 := by rw [IntKind.wrap_i64]; have := HK1.out; omega
                        obtain ⟨g, eg, hc⟩ := EE.out.row j hlt
                        obtain ⟨q, hq⟩ : ∃ q, L'.getD j [] = q := ⟨_, rfl⟩
                        have hst := sxCnt_step (L := L') (k := j) (by rw [HLN.out]; exact hlt)
                        rw [hq] at hc hst
                        cases eg
                        by_cases hp : q = []
                        · subst hp
                          rw [if_pos rfl, Nat.add_zero] at hst
                          rw [show mkS [] = ⟨#[]⟩ from rfl] at hc
                          have HST := Hid.mk hst
                          clear hlt hst hq hj
                          go_wp2_with fail
                          go_roundw
                          case rel => exact ⟨j + 1, by have := HLT.out; omega, by go_num, by rw [HST.out]; rfl, EE.out⟩
                          case measure => have := HLT.out; simp [intOf]; omega
                        · rw [if_neg hp] at hst
                          obtain ⟨hca, hcb⟩ := sxCnt_at (L := L') (k := j) (by rw [HLN.out]; exact hlt) (by rw [hq]; exact hp)
                          rw [HF.out, HN2.out] at hca
                          rw [HF.out, hq] at hcb
                          have hne : (mkS q).toList.isEmpty = false := by rw [nm_empty, mkS_size]; simpa using hp
                          obtain ⟨a, ea, ha⟩ := EE.out.ans _ hca
                          rw [hcb] at ha
                          subst ea
                          have e7 := EE.out.e7
                          have HST := Hid.mk hst
                          have HFL2 : Hid (n2 ≤ 61) := Hid.mk (by have := HFL.out; have := HK1.out; omega)
                          generalize sxCnt L' j = y at *
                          have hyi : (y : Int) < n2 := by omega
                          have hdf : decide ((n2 : Int) ≤ y) = false := by simpa using hyi
                          have hw2 : IntKind.i64.wrap ((y : Int) + 1) = (y : Int) + 1 := by rw [IntKind.wrap_i64]; have := HFL2.out; omega
                          clear hlt hst hq hj hp hcb
                          go_upto_region 36 with fail
                          go_quiet (fail)
                          have EE2 := Hid.mk (EE.out.drewN nq)
                          generalize wr.drewN nq = W11 at *
                          go_wp2_with fail
                          go_roundw
                          case rel => exact ⟨j + 1, by have := HLT.out; omega, by go_num, by rw [HST.out]; go_num, EE2.out⟩
                          case measure => have := HLT.out; simp [intOf]; omega
                      · have hi4 : ¬ (j : Int) < n1 := by omega
                        obtain rfl : n1 = j := by omega
                        have hcn : sxCnt L' n1 = n2 := by rw [← HLN.out, sxCnt_all, HF.out, HN2.out]
                        rw [hcn]
                        have e6 := EE.out.e6
                        have e7 := EE.out.e7
                        have e9 := EE.out.e9
                        have hk1 : (jj : Int) ≤ n1 := by have := HK1.out; omega
                        have hw2 : IntKind.i64.wrap ((n1 : Int) + 2) = (n1 : Int) + 2 := by rw [IntKind.wrap_i64]; have := HK1.out; omega
                        have hw3 : IntKind.i64.wrap ((jj : Int) + 2) = (jj : Int) + 2 := by rw [IntKind.wrap_i64]; have := HK1.out; omega
                        have hw4 : IntKind.i64.wrap ((n1 : Int) + 2 + 31) = (n1 : Int) + 2 + 31 := by rw [IntKind.wrap_i64]; have := HK1.out; omega
                        have hgt : ¬ (n1 : Int) + 2 < (jj : Int) + 2 := by omega
                        have hn61 : (n1 : Int) ≤ 61 := by have := HK1.out; omega
                        have HFIN : Hid ((z == ((n1 : Int) + 2 + 31) / 32 * 1024) = true) := Hid.mk (by
                          have h := HZ1.out
                          have e : (n1 : Int) + 2 + 31 = (n1 : Int) + 33 := by omega
                          rw [e, h]
                          exact beq_self_eq_true _)
                        clear hlt hj hcn
                        go_wp2_with (go_at_call 14; refine (lnum_any _ _).mono ?_; rintro e W12 ⟨rfl, hw⟩; subst hw)
                        rw [HFIN.out]
                        go_ret
                        exact ⟨rfl, EE.out.below⟩
end Go.Proofs.YtehaoeclnmelhabGreat
