/-
  DiskPlays, walked: it returns true for every number of blocks and every row of acts, and nothing that lay has turned.
-/
import Derived.Test.YtochgjajlojfeaaPlaysBase
namespace Go.Proofs.Ytochgjajlojfeaa
open Go Go.Proofs Go.RowKit Go.Shelf

set_option maxRecDepth 100000 in
set_option maxHeartbeats 2000000 in
theorem plays_long (b0 : Int) (ao : Option Addr) (len cap : Nat) (w : World) (hl : 50 < b0 ∨ 200 < len) (hl2 : len ≤ 9223372036854775807) :
    Calls Try.prog 3 #[.int .i64 b0, .slice ao len cap] w fun e w' => e = .returned (.bool true) ∧ Below w.heap.size w w' := by
  by_cases hb : 50 < b0
  · clear hl
    go_enter Try.func3, Try.ntmps3
    go_wp2_with (go_at_call 7; refine (alive_any w).mono ?_; rintro e w1 ⟨rfl, hbw⟩)
    go_ret
    exact ⟨rfl, hbw⟩
  · have hl3 : 200 < len := by omega
    clear hl
    go_enter Try.func3, Try.ntmps3
    go_wp2_with (go_at_call 7; refine (alive_any w).mono ?_; rintro e w1 ⟨rfl, hbw⟩)
    go_ret
    exact ⟨rfl, hbw⟩

set_option maxRecDepth 100000 in
set_option maxHeartbeats 8000000 in
theorem plays_short (b0 : Int) (ao : Option Addr) (len cap : Nat) (A : Nat → ActV) (w : World) (hb : b0 ≤ 50) (hl : len ≤ 200) (h : ActsAt w ao len A) :
    Calls Try.prog 3 #[.int .i64 b0, .slice ao len cap] w fun e w' => e = .returned (.bool true) ∧ Below w.heap.size w w' := by
  obtain ⟨i0, hi, hz0, hz1, hz2⟩ := info5p
  obtain ⟨B, hB⟩ : ∃ B : Nat, B = b0.toNat := ⟨_, rfl⟩
  have hB50 : B ≤ 50 := by omega
  have hcap : capB b0 = B := by unfold capB; omega
  have hnb : decide ((50 : Int) < b0) = false := by simp; omega
  have hnd : decide ((200 : Int) < (len : Int)) = false := by simp; omega
  have HA := Hid.mk h
  have HCAP := Hid.mk hcap
  have HBB := Hid.mk hB
  clear h hcap hB
  go_enter Try.func3, Try.ntmps3
  go_wp2_with fail
  refine (alive_any w).mono ?_
  rintro e w1 ⟨rfl, hb1⟩
  have HB1 := Hid.mk hb1
  clear hb1
  go_wp2_with fail
  have hnew := fun w => new_any w b0
  rw [HCAP.out] at hnew
  have HNEW := Hid.mk hnew
  clear hnew
  refine (HNEW.out w1).mono ?_
  rintro e w2 ⟨d, rfl, hd2, hD2, hB2⟩
  have HB2 := Hid.mk hB2
  have HD2 := Hid.mk hD2
  clear hD2 hB2
  go_wp2_with fail
  refine (HNEW.out w2).mono ?_
  rintro e w3 ⟨o, rfl, hd3, hD3, hB3⟩
  have HB3 := Hid.mk hB3
  have HD3 := Hid.mk hD3
  clear hD3 hB3 HNEW
  go_upto_if 38 with fail
  go_cut [0] from 20 to 38 (fun v wr => v = .int .i64 (B : Int) ∧ wr = w3)
  case first =>
    by_cases hneg : b0 < 0
    · go_wp2
      go_meet
      case rel => exact ⟨by have := HBB.out; rw [this]; congr 1; omega, rfl⟩
    · go_wp2
      go_meet
      case rel => exact ⟨by have := HBB.out; rw [this]; congr 1; omega, rfl⟩
  case rest =>
    obtain ⟨rfl, rfl⟩ := hcut
    have hk1 : decide ((0 : Int) ≤ 1024 * (B : Int)) = true := by simp; omega
    have hk2 : IntKind.i64.wrap (1024 * (B : Int)) = ((1024 * B : Nat) : Int) := by rw [IntKind.wrap_i64]; omega
    go_wp2_with (at_make; refine wpList_make_full _ rfl _ _ 27 rfl wc.heap.size 5 i0 (.int .u8 0) 1 Try.underlying27 hi hz0 hz1 .i64 .i64 _ _ (1024 * B) rfl rfl (by first | rfl | exact hk2 | omega) (by first | rfl | exact hk2 | omega) (by rw [hz2]; omega) (by unfold maxLen; omega) (Nat.le_refl _) ?_; intro w4 hown hg; have hm := make_zeros hown hg; have HM := Hid.mk hm; clear hown hg hm)
    have htri := tri_new HB1.out HD2.out HB2.out HD3.out HB3.out HM.out.1 HM.out.2.2.2.2.2
    have HTRI := Hid.mk htri
    clear htri HB1 HD2 HB2 HD3 HB3 HM hk1 hk2 hi hz0 hz1 hz2 HCAP HBB
    go_loopw [9] (fun i wr => ∃ k : Nat, k ≤ len ∧ i = .int .i64 k ∧ Below w.heap.size w wr ∧ ∃ s so, PlI s B k ∧ PlI so B k ∧ Tri w.heap.size (fun _ => False) wr d o w4.heap.size s so s) (fun i _ => len - (intOf i).toNat)
    case atStart => exact ⟨0, by omega, rfl, HTRI.out.2, _, _, PlI.first B, PlI.first B, HTRI.out.1⟩
    case round =>
      generalize w4.heap.size = m at *
      obtain ⟨k, hk, rfl, hbw, s, so, hps, hpo, htr⟩ := hrel
      have HBW := Hid.mk hbw
      have HPS := Hid.mk hps
      have HPO := Hid.mk hpo
      have HTR := Hid.mk htr
      clear hbw hps hpo htr HTRI
      by_cases hlt : k < len
      · obtain ⟨b, off, rfl, hbl, hacts⟩ := HA.out (by omega)
        have hact := (hacts k hlt).below hbl HBW.out
        have HACT := Hid.mk hact
        have HACT0 := Hid.mk (hacts k hlt)
        obtain ⟨ha1, ha2, ha3, ha4, hw0, hbk0, hn0, hbat, hbc, hbig, hbno, hby⟩ := hact
        clear hbat hbno hby hacts HA
        generalize A k = V at *
        obtain ⟨vw, vb, vn, vo, vm, vc, vs⟩ := V
        dsimp only at *
        by_cases h3 : 3000 < vm
        · go_wp2
          go_ret
          exact ⟨rfl, HBW.out.alloc HBW.out.size _⟩
        have h3d : decide ((3000 : Int) < (vm : Int)) = false := by simp; omega
        go_wp2_with fail
        have hga := blk_new wr (.cells #[Value.int IntKind.i64 vw, Value.int IntKind.i64 vb, Value.int IntKind.i64 vn, Value.slice vo vm vc] 32)
        have hT1 := (HTR.out.avoid (Y := fun j => j = wr.heap.size) (fun j e => .inr (.inl (by omega)))).only ((Only.refl (fun j => j = wr.heap.size) wr).alloc (.cells #[Value.int IntKind.i64 vw, Value.int IntKind.i64 vb, Value.int IntKind.i64 vn, Value.slice vo vm vc] 32))
        have hb1 := HBW.out.alloc HBW.out.size (.cells #[Value.int IntKind.i64 vw, Value.int IntKind.i64 vb, Value.int IntKind.i64 vn, Value.slice vo vm vc] 32)
        have hgb := HBW.out.size
        clear HTR HBW HACT ha1 ha2 ha3 ha4
        generalize wr.alloc (.cells #[Value.int IntKind.i64 vw, Value.int IntKind.i64 vb, Value.int IntKind.i64 vn, Value.slice vo vm vc] 32) = W1 at *
        generalize wr.heap.size = ga at *
        have c1 : W1.cell? ⟨ga, 1, none⟩ = some (.int .i64 vb) := blk_cell hga 1
        obtain ⟨W2, hmk, hm2, hg2⟩ := make_run W1.drew
        have HC9 := Hid.mk (plays_o (W1 := W1.drew) vb hT1.drew hga hb1.size hB50 (by omega) HPO.out hm2 hg2)
        have c2 : W2.cell? ⟨ga, 1, none⟩ = some (.int .i64 vb) := by
          rw [← c1]
          exact World.cell?_of_block (w := W1.drew) (hg2.block ga (lt_of_block hga) (by simp))
        have HG := Hid.mk hga
        have HT1 := Hid.mk hT1
        have HB1' := Hid.mk hb1
        have HMK := Hid.mk hmk
        clear hga hT1 hb1 hm2 hg2 hmk
        refine wp_region_held_drew (S := fun W => W.cell? ⟨ga, 1, none⟩ = some (.int .i64 vb)) (by kernel_rfl) c1 (fun hH => ?_)
        change wpAnyH Try.prog Region.Mode.any _ _ _ 5 _ _ _
        refine takeH 0 58 (.pointer (some ⟨o, 0, none⟩)) rfl (by kernel_rfl) (by kernel_rfl) (by kernel_rfl) (by kernel_rfl) (fun _ _ _ h => h) (by kernel_rfl) (fun w hw => by kernel_rfl) hH ?_
        simp only [List.setIfInBounds_toArray, List.set_cons_zero, List.set_cons_succ]
        refine takeH 1 59 (.pointer (some ⟨ga, 1, none⟩)) rfl (by kernel_rfl) (by kernel_rfl) (by kernel_rfl) (by kernel_rfl) (fun _ _ _ h => h) (by kernel_rfl) (fun w hw => by (try dsimp only at hw); go_simp) hH ?_
        simp only [List.setIfInBounds_toArray, List.set_cons_zero, List.set_cons_succ]
        refine takeH 2 60 (.int .i64 vb) rfl (by kernel_rfl) (by kernel_rfl) (by kernel_rfl) (by kernel_rfl) (fun _ _ _ h => h) (by kernel_rfl) (fun w hw => by (try dsimp only at hw); go_simp) hH ?_
        simp only [List.setIfInBounds_toArray, List.set_cons_zero, List.set_cons_succ]
        refine stepH_run 3 61 _ W2 rfl (by kernel_rfl) (by kernel_rfl) (by kernel_rfl) (by simp [execOp, Act.eval, HMK.out, Result.andThen]; rfl) c2 ?_
        simp only [List.setIfInBounds_toArray, List.set_cons_zero, List.set_cons_succ]
        refine stepH_call3 4 62 rfl (by kernel_rfl) (by kernel_rfl) (by kernel_rfl) 9 (.tmp 58) (.tmp 60) (.tmp 61) #[24, 3, 27] (by kernel_rfl) (enters_of Try.func9 (by kernel_rfl) rfl) (.pointer (some ⟨o, 0, none⟩)) (.int .i64 vb) (.slice (some ⟨W1.heap.size, 0, none⟩) 1024 1024) (by kernel_rfl) (by kernel_rfl) (by kernel_rfl) HC9.out ?_
        rintro e w5 ⟨bt, rfl, hga5, ⟨so5, hpo5, hT5⟩, hb5⟩
        have HG5 := Hid.mk hga5
        have HPO5 := Hid.mk hpo5
        have HT5 := Hid.mk hT5
        have HB5 := Hid.mk (HB1'.out.trans (show Below w.heap.size W1 w5 from ⟨hb5.os, hb5.tape, hb5.output, hb5.size, hb5.block⟩))
        have c51 : w5.cell? ⟨ga, 1, none⟩ = some (.int .i64 vb) := blk_cell hga5 1
        have c50 : w5.cell? ⟨ga, 0, none⟩ = some (.int .i64 vw) := blk_cell hga5 0
        have c52 : w5.cell? ⟨ga, 2, none⟩ = some (.int .i64 vn) := blk_cell hga5 2
        have c53 : w5.cell? ⟨ga, 3, none⟩ = some (.slice vo vm vc) := blk_cell hga5 3
        clear hga5 hpo5 hT5 hb5 HC9 HMK hH c1 c2 HPO HG HT1 HB1'
        refine ⟨_, rfl, c51, ?_⟩
        simp only [List.setIfInBounds_toArray, List.set_cons_zero, List.set_cons_succ]
        refine wpAnyH_done (by kernel_rfl) ?_ _
        go_upto_block 2 with fail
        go_cut [] from 44 to 200 (fun wr => Below w.heap.size w wr ∧ ∃ s so, PlI s B (k + 1) ∧ PlI so B (k + 1) ∧ Tri w.heap.size (fun _ => False) wr d o m s so s)
        case first =>
          by_cases hq0 : vw = 0
          · have q0 : (vw == 0) = true := by simp [hq0]
            clear hq0
            have hgl := lt_of_block HG5.out
            obtain ⟨F5, hdk5⟩ := HT5.out.disk
            have HRD := Hid.mk (read_any _ w5 d s hdk5 (by rw [HPS.out.img]; omega) vb)
            have hhas : hasB s vb = decide (0 ≤ vb ∧ vb < (B : Int)) := by
              unfold hasB
              rw [HPS.out.img, Nat.mul_div_cancel_left _ (by omega)]
            obtain ⟨fb, hfb⟩ : ∃ fb, (hasB s vb && !s.dead) = fb := ⟨_, rfl⟩
            have HHAS := Hid.mk hhas
            have HFB := Hid.mk hfb
            clear hdk5 hhas hfb
            go_wp2_with fail
            refine HRD.out.mono ?_
            clear HRD
            rintro e w6 ⟨xo, xn, xc, rfl, hB6, hxo, hyes, hno⟩
            rw [HFB.out] at hyes hno ⊢
            have hT6 := HT5.out.only ((Only.of_new (fun _ => False) hB6).mono (fun _ _ h => h.elim))
            obtain ⟨hm1, hm2, hm3, bi6, lv6, hm6, hbi6, himg6, _⟩ := hT6.model
            have hg6 := (hB6.block ga hgl).trans HG5.out
            have c61 : w6.cell? ⟨ga, 1, none⟩ = some (.int .i64 vb) := blk_cell hg6 1
            have e3 : w6.cell? ⟨m, 3, none⟩ = some (.bool s.dead) := blk_cell hm6 3
            have e0 : w6.cell? ⟨m, 0, none⟩ = some (.slice (some ⟨bi6, 0, none⟩) s.img.length s.img.length) := blk_cell hm6 0
            have HB6 := Hid.mk hB6
            have HXO := Hid.mk hxo
            have HYES := Hid.mk hyes
            have HNO := Hid.mk hno
            have HT6 := Hid.mk HT5.out
            have HIMG := Hid.mk himg6
            have HBI := Hid.mk hbi6
            clear hB6 hxo hyes hno hT6 hm6 hg6 himg6 hbi6 c50 c51 c52 c53
            go_upto_region 22 with fail
            go_cut [13] from 76 to 97 (fun v wr => v = .bool fb ∧ wr = w6)
            case first =>
              cases hdd : s.dead with
              | true =>
                rw [hdd] at e3
                have hf : fb = false := by rw [← HFB.out, hdd]; simp
                subst hf
                go_wp2
                go_meet
                case rel => exact ⟨rfl, rfl⟩
              | false =>
                rw [hdd] at e3
                by_cases hv0 : 0 ≤ vb
                · by_cases hv1 : vb < (B : Int)
                  · have hf : fb = true := by rw [← HFB.out, hdd, HHAS.out]; simp [hv0, hv1]
                    subst hf
                    go_wp2
                    go_meet
                    case rel => exact ⟨rfl, rfl⟩
                  · have hf : fb = false := by rw [← HFB.out, hdd, HHAS.out]; simp [hv1]
                    subst hf
                    go_wp2
                    go_meet
                    case rel => exact ⟨rfl, rfl⟩
                · have hf : fb = false := by rw [← HFB.out, hdd, HHAS.out]; simp [hv0]
                  subst hf
                  go_wp2
                  go_meet
                  case rel => exact ⟨rfl, rfl⟩
            case rest =>
              obtain ⟨rfl, hwc⟩ := hcut
              have hwc := hwc.symm
              subst hwc
              cases fb with
              | false =>
                as_aux_lemma =>
                  obtain rfl : xn = 0 := HNO.out rfl
                  clear HYES HNO e0 e3 c61 HIMG HBI
                  go_wp2_with fail
                  refine wp_region_held_drew (S := fun _ => True) (by kernel_rfl) trivial (fun hH => ?_)
                  change wpAnyH Try.prog Region.Mode.any _ _ _ 33 _ _ _
                  refine takeH 0 98 (.bool false) rfl (by kernel_rfl) (by kernel_rfl) (by kernel_rfl) (by kernel_rfl) (fun _ _ _ h => h) (by kernel_rfl) (fun w hw => by kernel_rfl) hH ?_
                  simp only [List.setIfInBounds_toArray, List.set_cons_zero, List.set_cons_succ]
                  refine takeH 1 99 (.bool false) rfl (by kernel_rfl) (by kernel_rfl) (by kernel_rfl) (by kernel_rfl) (fun _ _ _ h => h) (by kernel_rfl) (fun w hw => by kernel_rfl) hH ?_
                  simp only [List.setIfInBounds_toArray, List.set_cons_zero, List.set_cons_succ]
                  refine takeH 2 100 (.bool false) rfl (by kernel_rfl) (by kernel_rfl) (by kernel_rfl) (by kernel_rfl) (fun _ _ _ h => h) (by kernel_rfl) (fun w hw => by (try dsimp only at hw); go_simp) hH ?_
                  simp only [List.setIfInBounds_toArray, List.set_cons_zero, List.set_cons_succ]
                  refine takeH 3 101 (.bool false) rfl (by kernel_rfl) (by kernel_rfl) (by kernel_rfl) (by kernel_rfl) (fun _ _ _ h => h) (by kernel_rfl) (fun w hw => by kernel_rfl) hH ?_
                  simp only [List.setIfInBounds_toArray, List.set_cons_zero, List.set_cons_succ]
                  refine takeH 4 102 (.bool false) rfl (by kernel_rfl) (by kernel_rfl) (by kernel_rfl) (by kernel_rfl) (fun _ _ _ h => h) (by kernel_rfl) (fun w hw => by kernel_rfl) hH ?_
                  simp only [List.setIfInBounds_toArray, List.set_cons_zero, List.set_cons_succ]
                  refine takeH 5 103 (.bool false) rfl (by kernel_rfl) (by kernel_rfl) (by kernel_rfl) (by kernel_rfl) (fun _ _ _ h => h) (by kernel_rfl) (fun w hw => by kernel_rfl) hH ?_
                  simp only [List.setIfInBounds_toArray, List.set_cons_zero, List.set_cons_succ]
                  refine skipH 6 104 rfl (by kernel_rfl) (by kernel_rfl) (by kernel_rfl) (by kernel_rfl) (fun _ _ _ h => h) (by kernel_rfl) hH ?_
                  simp only [List.setIfInBounds_toArray, List.set_cons_zero, List.set_cons_succ]
                  refine skipH 7 105 rfl (by kernel_rfl) (by kernel_rfl) (by kernel_rfl) (by kernel_rfl) (fun _ _ _ h => h) (by kernel_rfl) hH ?_
                  simp only [List.setIfInBounds_toArray, List.set_cons_zero, List.set_cons_succ]
                  refine skipH 8 106 rfl (by kernel_rfl) (by kernel_rfl) (by kernel_rfl) (by kernel_rfl) (fun _ _ _ h => h) (by kernel_rfl) hH ?_
                  simp only [List.setIfInBounds_toArray, List.set_cons_zero, List.set_cons_succ]
                  refine skipH 9 107 rfl (by kernel_rfl) (by kernel_rfl) (by kernel_rfl) (by kernel_rfl) (fun _ _ _ h => h) (by kernel_rfl) hH ?_
                  simp only [List.setIfInBounds_toArray, List.set_cons_zero, List.set_cons_succ]
                  refine skipH 10 108 rfl (by kernel_rfl) (by kernel_rfl) (by kernel_rfl) (by kernel_rfl) (fun _ _ _ h => h) (by kernel_rfl) hH ?_
                  simp only [List.setIfInBounds_toArray, List.set_cons_zero, List.set_cons_succ]
                  refine skipH 11 109 rfl (by kernel_rfl) (by kernel_rfl) (by kernel_rfl) (by kernel_rfl) (fun _ _ _ h => h) (by kernel_rfl) hH ?_
                  simp only [List.setIfInBounds_toArray, List.set_cons_zero, List.set_cons_succ]
                  refine skipH 12 110 rfl (by kernel_rfl) (by kernel_rfl) (by kernel_rfl) (by kernel_rfl) (fun _ _ _ h => h) (by kernel_rfl) hH ?_
                  simp only [List.setIfInBounds_toArray, List.set_cons_zero, List.set_cons_succ]
                  refine skipH 13 111 rfl (by kernel_rfl) (by kernel_rfl) (by kernel_rfl) (by kernel_rfl) (fun _ _ _ h => h) (by kernel_rfl) hH ?_
                  simp only [List.setIfInBounds_toArray, List.set_cons_zero, List.set_cons_succ]
                  refine skipH 14 112 rfl (by kernel_rfl) (by kernel_rfl) (by kernel_rfl) (by kernel_rfl) (fun _ _ _ h => h) (by kernel_rfl) hH ?_
                  simp only [List.setIfInBounds_toArray, List.set_cons_zero, List.set_cons_succ]
                  refine skipH 15 113 rfl (by kernel_rfl) (by kernel_rfl) (by kernel_rfl) (by kernel_rfl) (fun _ _ _ h => h) (by kernel_rfl) hH ?_
                  simp only [List.setIfInBounds_toArray, List.set_cons_zero, List.set_cons_succ]
                  refine skipH 16 114 rfl (by kernel_rfl) (by kernel_rfl) (by kernel_rfl) (by kernel_rfl) (fun _ _ _ h => h) (by kernel_rfl) hH ?_
                  simp only [List.setIfInBounds_toArray, List.set_cons_zero, List.set_cons_succ]
                  refine skipH 17 115 rfl (by kernel_rfl) (by kernel_rfl) (by kernel_rfl) (by kernel_rfl) (fun _ _ _ h => h) (by kernel_rfl) hH ?_
                  simp only [List.setIfInBounds_toArray, List.set_cons_zero, List.set_cons_succ]
                  refine skipH 18 116 rfl (by kernel_rfl) (by kernel_rfl) (by kernel_rfl) (by kernel_rfl) (fun _ _ _ h => h) (by kernel_rfl) hH ?_
                  simp only [List.setIfInBounds_toArray, List.set_cons_zero, List.set_cons_succ]
                  refine skipH 19 117 rfl (by kernel_rfl) (by kernel_rfl) (by kernel_rfl) (by kernel_rfl) (fun _ _ _ h => h) (by kernel_rfl) hH ?_
                  simp only [List.setIfInBounds_toArray, List.set_cons_zero, List.set_cons_succ]
                  refine skipH 20 118 rfl (by kernel_rfl) (by kernel_rfl) (by kernel_rfl) (by kernel_rfl) (fun _ _ _ h => h) (by kernel_rfl) hH ?_
                  simp only [List.setIfInBounds_toArray, List.set_cons_zero, List.set_cons_succ]
                  refine skipH 21 119 rfl (by kernel_rfl) (by kernel_rfl) (by kernel_rfl) (by kernel_rfl) (fun _ _ _ h => h) (by kernel_rfl) hH ?_
                  simp only [List.setIfInBounds_toArray, List.set_cons_zero, List.set_cons_succ]
                  refine takeH 22 120 (.bool false) rfl (by kernel_rfl) (by kernel_rfl) (by kernel_rfl) (by kernel_rfl) (fun _ _ _ h => h) (by kernel_rfl) (fun w hw => by kernel_rfl) hH ?_
                  simp only [List.setIfInBounds_toArray, List.set_cons_zero, List.set_cons_succ]
                  refine takeH 23 121 (.bool false) rfl (by kernel_rfl) (by kernel_rfl) (by kernel_rfl) (by kernel_rfl) (fun _ _ _ h => h) (by kernel_rfl) (fun w hw => by kernel_rfl) hH ?_
                  simp only [List.setIfInBounds_toArray, List.set_cons_zero, List.set_cons_succ]
                  refine takeH 24 122 (.bool false) rfl (by kernel_rfl) (by kernel_rfl) (by kernel_rfl) (by kernel_rfl) (fun _ _ _ h => h) (by kernel_rfl) (fun w hw => by kernel_rfl) hH ?_
                  simp only [List.setIfInBounds_toArray, List.set_cons_zero, List.set_cons_succ]
                  refine takeH 25 123 (.bool false) rfl (by kernel_rfl) (by kernel_rfl) (by kernel_rfl) (by kernel_rfl) (fun _ _ _ h => h) (by kernel_rfl) (fun w hw => by kernel_rfl) hH ?_
                  simp only [List.setIfInBounds_toArray, List.set_cons_zero, List.set_cons_succ]
                  refine takeH 26 124 (.bool true) rfl (by kernel_rfl) (by kernel_rfl) (by kernel_rfl) (by kernel_rfl) (fun _ _ _ h => h) (by kernel_rfl) (fun w hw => by (try dsimp only at hw); go_simp) hH ?_
                  simp only [List.setIfInBounds_toArray, List.set_cons_zero, List.set_cons_succ]
                  refine takeH 27 125 (.bool true) rfl (by kernel_rfl) (by kernel_rfl) (by kernel_rfl) (by kernel_rfl) (fun _ _ _ h => h) (by kernel_rfl) (fun w hw => by kernel_rfl) hH ?_
                  simp only [List.setIfInBounds_toArray, List.set_cons_zero, List.set_cons_succ]
                  refine takeH 28 126 (.slice xo 0 xc) rfl (by kernel_rfl) (by kernel_rfl) (by kernel_rfl) (by kernel_rfl) (fun _ _ _ h => h) (by kernel_rfl) (fun w hw => by kernel_rfl) hH ?_
                  simp only [List.setIfInBounds_toArray, List.set_cons_zero, List.set_cons_succ]
                  refine takeH 29 127 (.int .i64 0) rfl (by kernel_rfl) (by kernel_rfl) (by kernel_rfl) (by kernel_rfl) (fun _ _ _ h => h) (by kernel_rfl) (fun w hw => by (try dsimp only at hw); go_simp) hH ?_
                  simp only [List.setIfInBounds_toArray, List.set_cons_zero, List.set_cons_succ]
                  refine takeH 30 128 (.bool false) rfl (by kernel_rfl) (by kernel_rfl) (by kernel_rfl) (by kernel_rfl) (fun _ _ _ h => h) (by kernel_rfl) (fun w hw => by (try dsimp only at hw); go_simp) hH ?_
                  simp only [List.setIfInBounds_toArray, List.set_cons_zero, List.set_cons_succ]
                  refine takeH 31 129 (.bool false) rfl (by kernel_rfl) (by kernel_rfl) (by kernel_rfl) (by kernel_rfl) (fun _ _ _ h => h) (by kernel_rfl) (fun w hw => by kernel_rfl) hH ?_
                  simp only [List.setIfInBounds_toArray, List.set_cons_zero, List.set_cons_succ]
                  refine takeH 32 130 (.bool false) rfl (by kernel_rfl) (by kernel_rfl) (by kernel_rfl) (by kernel_rfl) (fun _ _ _ h => h) (by kernel_rfl) (fun w hw => by kernel_rfl) hH ?_
                  simp only [List.setIfInBounds_toArray, List.set_cons_zero, List.set_cons_succ]
                  refine wpAnyH_done (by kernel_rfl) ?_ _
                  clear hH
                  go_wp2_with fail
                  go_loopw [14] (fun i wr => ∃ j : Nat, j ≤ 0 ∧ i = .int .i64 j ∧ True ∧ Only (fun j => False) w6 wr) (fun i _ => 0 - (intOf i).toNat)
                  case atStart => exact ⟨0, by omega, rfl, trivial, (Only.refl _ _).drew⟩
                  case round =>
                    obtain ⟨j, hj, rfl, hby, hon⟩ := hrel
                    obtain rfl : j = 0 := by omega
                    by_cases hjl : 0 < 0
                    · omega
                    · have hT8 := (HT6.out.avoid (Y := fun j => False) (fun j e => by
                        exact e.elim)).only ((Only.of_new (fun _ => False) HB6.out).mono (fun _ _ h => h.elim))
                      have hT9 := hT8.only hon
                      have hb9 := (HB5.out.trans (HB6.out.mono HB5.out.size)).trans (hon.below (B := w.heap.size) (Nat.le_trans HB5.out.size HB6.out.size) (fun j e => by
                        exact e.elim))
                      have HT9 := Hid.mk hT9
                      have HB9 := Hid.mk hb9
                      clear hby hon hT8 hT9 hb9
                      go_wp2
                      go_meet
                      case rel => exact ⟨HB9.out, _, _, HPS.out.next, HPO5.out, HT9.out.avoid (fun j e => e.elim)⟩
              | true =>
                as_aux_lemma =>
                  obtain ⟨hxn, hxown, hxne⟩ := HYES.out rfl
                  subst hxn
                  obtain ⟨xa, rfl⟩ := Option.ne_none_iff_exists'.1 hxne
                  have hfin := HFB.out
                  rw [HHAS.out] at hfin
                  simp at hfin
                  obtain ⟨q, rfl⟩ : ∃ q : Nat, vb = q := ⟨vb.toNat, by omega⟩
                  have hq : q < B := by omega
                  rw [Int.toNat_natCast] at hxown
                  have hil := HPS.out.img
                  obtain ⟨L, hL⟩ : ∃ L, s.img.length = L := ⟨_, rfl⟩
                  rw [hL] at e0 hil
                  obtain ⟨ba, hba⟩ : ∃ ba : Addr, (⟨bi6, 0, none⟩ : Addr) = ba := ⟨_, rfl⟩
                  rw [hba] at e0
                  have hXl : ((s.img.drop (1024 * q)).take 1024).length = 1024 := by simp; omega
                  have hxb : BAt w6 (some xa) 1024 ((s.img.drop (1024 * q)).take 1024) := by
                    obtain ⟨ao', c', e', hb', _, _⟩ := owns_BAt hxown
                    cases e'
                    exact hb'
                  have hbb : BAt w6 (some (ba.add (1024 * q))) 1024 ((s.img.drop (1024 * q)).take 1024) :=
                    ⟨hXl, fun _ => ⟨_, rfl, by rw [add_block, ← hba]; exact HBI.out, fun i hi => by
                      rw [add_add, getD_window _ _ _ _ hi, ← hba]
                      have := bytes_at HIMG.out 0 (1024 * q + i) (by omega)
                      rwa [Nat.zero_add] at this⟩⟩
                  have HY6 : Hid (∀ a, (some xa : Option Addr) = some a → Bytex w6 a.block 1024) := fun a e => by
                    cases e
                    exact owns_bytex hxown _ (owns_block hxown)
                  obtain ⟨SX, hSX⟩ : ∃ SX, strOfNums ((s.img.drop (1024 * q)).take 1024) = SX := ⟨_, rfl⟩
                  have cv1 := conv_bytes w6.drew (some xa) 1024 xc _ (hxb.only (Only.refl (fun _ => False) w6).drew (fun _ _ _ x => x))
                  have cv2 := conv_bytes w6.drew (some (ba.add (1024 * q))) 1024 (L - 1024 * q) _ (hbb.only (Only.refl (fun _ => False) w6).drew (fun _ _ _ x => x))
                  rw [hSX] at cv1 cv2
                  have o1 : (1024 * (q : Int)).toNat = 1024 * q := by omega
                  have o2 : (1024 * (q : Int) + 1024).toNat - (1024 * (q : Int)).toNat = 1024 := by omega
                  have k1 : IntKind.i64.wrap (1024 * (q : Int)) = 1024 * (q : Int) := by rw [IntKind.wrap_i64]; omega
                  have k2 : IntKind.i64.wrap (1024 * (q : Int) + 1024) = 1024 * (q : Int) + 1024 := by rw [IntKind.wrap_i64]; omega
                  have j1 : (0 : Int) ≤ 1024 * (q : Int) + 1024 := by omega
                  have j2 : (0 : Int) ≤ 1024 * (q : Int) := by omega
                  have j3 : 1024 * (q : Int) ≤ max (1024 * (q : Int) + 1024) 0 := by omega
                  have j4 : ¬ L = (1024 * (q : Int)).toNat := by omega
                  have j6 : 1024 * (q : Int) + 1024 ≤ (L : Int) := by omega
                  have HSS : Hid (w6.drew.cell? ⟨m, 0, none⟩ = some (.slice (some ba) L L) ∧ w6.drew.cell? ⟨ga, 1, none⟩ = some (.int .i64 (q : Int)) ∧ (convert 27 9 (.slice (some xa) 1024 xc)).run Try.prog w6.drew = .ok (.string SX) w6.drew ∧
                      (convert 27 9 (.slice (some (ba.add (1024 * (q : Int)).toNat)) ((1024 * (q : Int) + 1024).toNat - (1024 * (q : Int)).toNat) (L - (1024 * (q : Int)).toNat))).run Try.prog w6.drew = .ok (.string SX) w6.drew) := ⟨e0, c61, cv1, by rw [o2, o1]; exact cv2⟩
                  clear HYES HNO e0 e3 c61 HIMG HBI cv1 cv2 o1 o2 hSX hxb hbb hXl hL hil hba hxown hxne hfin
                  go_wp2_with fail
                  refine wp_region_held_drew (S := fun W => W.cell? ⟨m, 0, none⟩ = some (.slice (some ba) L L) ∧ W.cell? ⟨ga, 1, none⟩ = some (.int .i64 (q : Int)) ∧ (convert 27 9 (.slice (some xa) 1024 xc)).run Try.prog W = .ok (.string SX) W ∧
                      (convert 27 9 (.slice (some (ba.add (1024 * (q : Int)).toNat)) ((1024 * (q : Int) + 1024).toNat - (1024 * (q : Int)).toNat) (L - (1024 * (q : Int)).toNat))).run Try.prog W = .ok (.string SX) W) (by kernel_rfl) HSS.out (fun hH => ?_)
                  change wpAnyH Try.prog Region.Mode.any _ _ _ 33 _ _ _
                  refine takeH 0 98 (.bool true) rfl (by kernel_rfl) (by kernel_rfl) (by kernel_rfl) (by kernel_rfl) (fun _ _ _ h => h) (by kernel_rfl) (fun w hw => by kernel_rfl) hH ?_
                  simp only [List.setIfInBounds_toArray, List.set_cons_zero, List.set_cons_succ]
                  refine takeH 1 99 (.bool true) rfl (by kernel_rfl) (by kernel_rfl) (by kernel_rfl) (by kernel_rfl) (fun _ _ _ h => h) (by kernel_rfl) (fun w hw => by kernel_rfl) hH ?_
                  simp only [List.setIfInBounds_toArray, List.set_cons_zero, List.set_cons_succ]
                  refine takeH 2 100 (.bool false) rfl (by kernel_rfl) (by kernel_rfl) (by kernel_rfl) (by kernel_rfl) (fun _ _ _ h => h) (by kernel_rfl) (fun w hw => by (try dsimp only at hw); go_simp) hH ?_
                  simp only [List.setIfInBounds_toArray, List.set_cons_zero, List.set_cons_succ]
                  refine takeH 3 101 (.bool false) rfl (by kernel_rfl) (by kernel_rfl) (by kernel_rfl) (by kernel_rfl) (fun _ _ _ h => h) (by kernel_rfl) (fun w hw => by kernel_rfl) hH ?_
                  simp only [List.setIfInBounds_toArray, List.set_cons_zero, List.set_cons_succ]
                  refine takeH 4 102 (.bool true) rfl (by kernel_rfl) (by kernel_rfl) (by kernel_rfl) (by kernel_rfl) (fun _ _ _ h => h) (by kernel_rfl) (fun w hw => by kernel_rfl) hH ?_
                  simp only [List.setIfInBounds_toArray, List.set_cons_zero, List.set_cons_succ]
                  refine takeH 5 103 (.bool true) rfl (by kernel_rfl) (by kernel_rfl) (by kernel_rfl) (by kernel_rfl) (fun _ _ _ h => h) (by kernel_rfl) (fun w hw => by kernel_rfl) hH ?_
                  simp only [List.setIfInBounds_toArray, List.set_cons_zero, List.set_cons_succ]
                  refine takeH 6 104 (.slice (some xa) 1024 xc) rfl (by kernel_rfl) (by kernel_rfl) (by kernel_rfl) (by kernel_rfl) (fun _ _ _ h => h) (by kernel_rfl) (fun w hw => by kernel_rfl) hH ?_
                  simp only [List.setIfInBounds_toArray, List.set_cons_zero, List.set_cons_succ]
                  refine takeH 7 105 (.string SX) rfl (by kernel_rfl) (by kernel_rfl) (by kernel_rfl) (by kernel_rfl) (fun _ _ _ h => h) (by kernel_rfl) (fun w hw => by (try dsimp only at hw); go_simp) hH ?_
                  simp only [List.setIfInBounds_toArray, List.set_cons_zero, List.set_cons_succ]
                  refine takeH 8 106 (.pointer (some ⟨m, 0, none⟩)) rfl (by kernel_rfl) (by kernel_rfl) (by kernel_rfl) (by kernel_rfl) (fun _ _ _ h => h) (by kernel_rfl) (fun w hw => by kernel_rfl) hH ?_
                  simp only [List.setIfInBounds_toArray, List.set_cons_zero, List.set_cons_succ]
                  refine takeH 9 107 (.pointer (some ⟨m, 0, none⟩)) rfl (by kernel_rfl) (by kernel_rfl) (by kernel_rfl) (by kernel_rfl) (fun _ _ _ h => h) (by kernel_rfl) (fun w hw => by (try dsimp only at hw); go_simp) hH ?_
                  simp only [List.setIfInBounds_toArray, List.set_cons_zero, List.set_cons_succ]
                  refine takeH 10 108 (.pointer (some ⟨m, 0, none⟩)) rfl (by kernel_rfl) (by kernel_rfl) (by kernel_rfl) (by kernel_rfl) (fun _ _ _ h => h) (by kernel_rfl) (fun w hw => by (try dsimp only at hw); go_simp) hH ?_
                  simp only [List.setIfInBounds_toArray, List.set_cons_zero, List.set_cons_succ]
                  refine takeH 11 109 (.slice (some ba) L L) rfl (by kernel_rfl) (by kernel_rfl) (by kernel_rfl) (by kernel_rfl) (fun _ _ _ h => h) (by kernel_rfl) (fun w hw => by (try dsimp only at hw); go_simp) hH ?_
                  simp only [List.setIfInBounds_toArray, List.set_cons_zero, List.set_cons_succ]
                  refine takeH 12 110 (.pointer (some ⟨ga, 1, none⟩)) rfl (by kernel_rfl) (by kernel_rfl) (by kernel_rfl) (by kernel_rfl) (fun _ _ _ h => h) (by kernel_rfl) (fun w hw => by (try dsimp only at hw); go_simp) hH ?_
                  simp only [List.setIfInBounds_toArray, List.set_cons_zero, List.set_cons_succ]
                  refine takeH 13 111 (.int .i64 (q : Int)) rfl (by kernel_rfl) (by kernel_rfl) (by kernel_rfl) (by kernel_rfl) (fun _ _ _ h => h) (by kernel_rfl) (fun w hw => by (try dsimp only at hw); go_simp) hH ?_
                  simp only [List.setIfInBounds_toArray, List.set_cons_zero, List.set_cons_succ]
                  refine takeH 14 112 (.int .i64 (1024 * (q : Int))) rfl (by kernel_rfl) (by kernel_rfl) (by kernel_rfl) (by kernel_rfl) (fun _ _ _ h => h) (by kernel_rfl) (fun w hw => by (try dsimp only at hw); go_simp) hH ?_
                  simp only [List.setIfInBounds_toArray, List.set_cons_zero, List.set_cons_succ]
                  refine takeH 15 113 (.pointer (some ⟨ga, 1, none⟩)) rfl (by kernel_rfl) (by kernel_rfl) (by kernel_rfl) (by kernel_rfl) (fun _ _ _ h => h) (by kernel_rfl) (fun w hw => by (try dsimp only at hw); go_simp) hH ?_
                  simp only [List.setIfInBounds_toArray, List.set_cons_zero, List.set_cons_succ]
                  refine takeH 16 114 (.int .i64 (q : Int)) rfl (by kernel_rfl) (by kernel_rfl) (by kernel_rfl) (by kernel_rfl) (fun _ _ _ h => h) (by kernel_rfl) (fun w hw => by (try dsimp only at hw); go_simp) hH ?_
                  simp only [List.setIfInBounds_toArray, List.set_cons_zero, List.set_cons_succ]
                  refine takeH 17 115 (.int .i64 (1024 * (q : Int))) rfl (by kernel_rfl) (by kernel_rfl) (by kernel_rfl) (by kernel_rfl) (fun _ _ _ h => h) (by kernel_rfl) (fun w hw => by (try dsimp only at hw); go_simp) hH ?_
                  simp only [List.setIfInBounds_toArray, List.set_cons_zero, List.set_cons_succ]
                  refine takeH 18 116 (.int .i64 (1024 * (q : Int) + 1024)) rfl (by kernel_rfl) (by kernel_rfl) (by kernel_rfl) (by kernel_rfl) (fun _ _ _ h => h) (by kernel_rfl) (fun w hw => by (try dsimp only at hw); go_simp) hH ?_
                  simp only [List.setIfInBounds_toArray, List.set_cons_zero, List.set_cons_succ]
                  refine takeH 19 117 (.slice (some (ba.add (1024 * (q : Int)).toNat)) ((1024 * (q : Int) + 1024).toNat - (1024 * (q : Int)).toNat) (L - (1024 * (q : Int)).toNat)) rfl (by kernel_rfl) (by kernel_rfl) (by kernel_rfl) (by kernel_rfl) (fun _ _ _ h => h) (by kernel_rfl) (fun w hw => by (try dsimp only at hw); go_simp) hH ?_
                  simp only [List.setIfInBounds_toArray, List.set_cons_zero, List.set_cons_succ]
                  refine takeH 20 118 (.string SX) rfl (by kernel_rfl) (by kernel_rfl) (by kernel_rfl) (by kernel_rfl) (fun _ _ _ h => h) (by kernel_rfl) (fun w hw => by (try dsimp only at hw); go_simp) hH ?_
                  simp only [List.setIfInBounds_toArray, List.set_cons_zero, List.set_cons_succ]
                  refine takeH 21 119 (.bool false) rfl (by kernel_rfl) (by kernel_rfl) (by kernel_rfl) (by kernel_rfl) (fun _ _ _ h => h) (by kernel_rfl) (fun w hw => by (try dsimp only at hw); go_simp) hH ?_
                  simp only [List.setIfInBounds_toArray, List.set_cons_zero, List.set_cons_succ]
                  refine takeH 22 120 (.bool false) rfl (by kernel_rfl) (by kernel_rfl) (by kernel_rfl) (by kernel_rfl) (fun _ _ _ h => h) (by kernel_rfl) (fun w hw => by kernel_rfl) hH ?_
                  simp only [List.setIfInBounds_toArray, List.set_cons_zero, List.set_cons_succ]
                  refine takeH 23 121 (.bool false) rfl (by kernel_rfl) (by kernel_rfl) (by kernel_rfl) (by kernel_rfl) (fun _ _ _ h => h) (by kernel_rfl) (fun w hw => by kernel_rfl) hH ?_
                  simp only [List.setIfInBounds_toArray, List.set_cons_zero, List.set_cons_succ]
                  refine takeH 24 122 (.bool false) rfl (by kernel_rfl) (by kernel_rfl) (by kernel_rfl) (by kernel_rfl) (fun _ _ _ h => h) (by kernel_rfl) (fun w hw => by kernel_rfl) hH ?_
                  simp only [List.setIfInBounds_toArray, List.set_cons_zero, List.set_cons_succ]
                  refine takeH 25 123 (.bool true) rfl (by kernel_rfl) (by kernel_rfl) (by kernel_rfl) (by kernel_rfl) (fun _ _ _ h => h) (by kernel_rfl) (fun w hw => by kernel_rfl) hH ?_
                  simp only [List.setIfInBounds_toArray, List.set_cons_zero, List.set_cons_succ]
                  refine takeH 26 124 (.bool false) rfl (by kernel_rfl) (by kernel_rfl) (by kernel_rfl) (by kernel_rfl) (fun _ _ _ h => h) (by kernel_rfl) (fun w hw => by (try dsimp only at hw); go_simp) hH ?_
                  simp only [List.setIfInBounds_toArray, List.set_cons_zero, List.set_cons_succ]
                  refine takeH 27 125 (.bool false) rfl (by kernel_rfl) (by kernel_rfl) (by kernel_rfl) (by kernel_rfl) (fun _ _ _ h => h) (by kernel_rfl) (fun w hw => by kernel_rfl) hH ?_
                  simp only [List.setIfInBounds_toArray, List.set_cons_zero, List.set_cons_succ]
                  refine skipH 28 126 rfl (by kernel_rfl) (by kernel_rfl) (by kernel_rfl) (by kernel_rfl) (fun _ _ _ h => h) (by kernel_rfl) hH ?_
                  simp only [List.setIfInBounds_toArray, List.set_cons_zero, List.set_cons_succ]
                  refine skipH 29 127 rfl (by kernel_rfl) (by kernel_rfl) (by kernel_rfl) (by kernel_rfl) (fun _ _ _ h => h) (by kernel_rfl) hH ?_
                  simp only [List.setIfInBounds_toArray, List.set_cons_zero, List.set_cons_succ]
                  refine skipH 30 128 rfl (by kernel_rfl) (by kernel_rfl) (by kernel_rfl) (by kernel_rfl) (fun _ _ _ h => h) (by kernel_rfl) hH ?_
                  simp only [List.setIfInBounds_toArray, List.set_cons_zero, List.set_cons_succ]
                  refine takeH 31 129 (.bool false) rfl (by kernel_rfl) (by kernel_rfl) (by kernel_rfl) (by kernel_rfl) (fun _ _ _ h => h) (by kernel_rfl) (fun w hw => by kernel_rfl) hH ?_
                  simp only [List.setIfInBounds_toArray, List.set_cons_zero, List.set_cons_succ]
                  refine takeH 32 130 (.bool false) rfl (by kernel_rfl) (by kernel_rfl) (by kernel_rfl) (by kernel_rfl) (fun _ _ _ h => h) (by kernel_rfl) (fun w hw => by kernel_rfl) hH ?_
                  simp only [List.setIfInBounds_toArray, List.set_cons_zero, List.set_cons_succ]
                  refine wpAnyH_done (by kernel_rfl) ?_ _
                  clear hH
                  clear HSS k1 k2 j1 j2 j3 j4 j6
                  go_wp2_with fail
                  go_loopw [14] (fun i wr => ∃ j : Nat, j ≤ 1024 ∧ i = .int .i64 j ∧ (∀ a, (some xa : Option Addr) = some a → Bytex wr a.block 1024) ∧ Only (fun j => ∃ a, (some xa : Option Addr) = some a ∧ j = a.block) w6 wr) (fun i _ => 1024 - (intOf i).toNat)
                  case atStart => exact ⟨0, by omega, rfl, fun a e => HY6.out a e, (Only.refl _ _).drew⟩
                  case round =>
                    obtain ⟨j, hj, rfl, hby, hon⟩ := hrel
                    by_cases hjl : j < 1024
                    · obtain ⟨_, e1, e2⟩ := HXO.out xa rfl
                      obtain ⟨g, ao', sp⟩ := xa
                      simp at e1 e2
                      subst e1 e2
                      obtain ⟨v, hc, hf⟩ := (hby _ rfl).at j hjl
                      dsimp only at hc hf
                      have HBY := Hid.mk (hby _ rfl)
                      have HON := Hid.mk hon
                      clear hby hon
                      go_wp2
                      go_roundw
                      case rel =>
                        exact ⟨j + 1, by omega, by go_num, fun a e => by cases e; exact HBY.out.set j _, HON.out.setCell (p := ⟨g, j, none⟩) (.inl ⟨_, rfl, rfl⟩) _⟩
                      case measure => (clear HBY HON; simp [intOf]; omega)
                    · have hT8 := (HT6.out.avoid (Y := fun j => ∃ a, (some xa : Option Addr) = some a ∧ j = a.block) (fun j e => by
                        obtain ⟨a, e, rfl⟩ := e; exact .inr (.inl (HXO.out a e).1))).only ((Only.of_new (fun _ => False) HB6.out).mono (fun _ _ h => h.elim))
                      have hT9 := hT8.only hon
                      have hb9 := (HB5.out.trans (HB6.out.mono HB5.out.size)).trans (hon.below (B := w.heap.size) (Nat.le_trans HB5.out.size HB6.out.size) (fun j e => by
                        obtain ⟨a, e, rfl⟩ := e; have := (HXO.out a e).1; have := HB5.out.size; omega))
                      have HT9 := Hid.mk hT9
                      have HB9 := Hid.mk hb9
                      clear hby hon hT8 hT9 hb9
                      go_wp2
                      go_meet
                      case rel => exact ⟨HB9.out, _, _, HPS.out.next, HPO5.out, HT9.out.avoid (fun j e => e.elim)⟩
          have q0 : (vw == 0) = false := by simp [hq0]
          by_cases hq1 : vw = 1
          · have q1 : (vw == 1) = true := by simp [hq1]
            clear hq1 hq0
            as_aux_lemma =>
              have hgl := lt_of_block HG5.out
              have hbl5 := HB5.out.size
              have hbt5 : BAt w5 vo vm vs := HACT0.out.bat.only (Only.of_below (fun _ => False) (B := w.heap.size) ⟨HB5.out.os, HB5.out.tape, HB5.out.output, HB5.out.size, HB5.out.block⟩ (fun j h1 h2 => by omega)) (fun _ _ _ x => x)
              have HVO : Hid (∀ a, vo = some a → 0 < vm → a.block < w.heap.size) := fun a e h0 => by
                obtain ⟨a', e', hl', _⟩ := HACT0.out.bat.2 h0
                rw [e] at e'
                cases e'
                exact hl'
              obtain ⟨v6, w6, hrun, hown, hg6⟩ := append_nil_run w5 vo vm vc vs hbt5 (by omega) HACT0.out.nilb
              have HR6 := Hid.mk hrun
              have HY6 := owns_bytey hown HACT0.out.byte
              obtain ⟨oo, oc, rfl, hO2, hO3, hO4⟩ := owns_BAt hown
              have hs6 := hg6.size
              have hcapo : vm ≤ oc := by
                rcases hown.2 with ⟨e, e0⟩ | ⟨_, _, _, e, _, _, hc, _⟩
                · cases e; omega
                · cases e; exact hc
              have HOL : Hid (∀ a, oo = some a → w5.heap.size ≤ a.block ∧ a.block < w6.heap.size) := fun a e => by
                obtain ⟨cur, hb, _⟩ := HY6 a.block (hO3 a e).2.1
                exact ⟨(hO3 a e).1, lt_of_block hb⟩
              obtain ⟨X2, hX2⟩ : ∃ X2 : Nat → Prop, X2 = fun j => j = ga ∨ ∃ a, oo = some a ∧ j = a.block := ⟨_, rfl⟩
              have hO56 : Only (fun _ => False) w5 w6 := (Only.refl (fun _ => False) w5).grown hg6 (by simp)
              have hT6 : Tri w.heap.size X2 w6 d o m s so5 s := (HT5.out.avoid (Y := X2) (fun j e => by
                rw [hX2] at e
                rcases e with e | ⟨a, e, rfl⟩
                · exact .inl e
                · exact .inr (.inl (HOL.out a e).1))).only (hO56.mono (fun _ _ h => h.elim))
              have hXlt : ∀ j, X2 j → j < w6.heap.size := fun j e => by
                rw [hX2] at e
                rcases e with rfl | ⟨a, e, rfl⟩
                · omega
                · exact (HOL.out a e).2
              have hg6a := (hO56.block ga hgl (fun h => h)).trans HG5.out
              have c61 : w6.cell? ⟨ga, 1, none⟩ = some (.int .i64 vb) := blk_cell hg6a 1
              have HC9 := Hid.mk (tri_write_d hT6 hXlt (by omega) (2 * k) (by rw [HPS.out.img]; omega) HPS.out.sane (by omega) vb oo vm oc vs hO2 hcapo (by omega) (fun a e _ => .inl (by rw [hX2]; exact .inr ⟨a, e, rfl⟩)))
              have HG6 := Hid.mk hg6a
              have HY6 := Hid.mk HY6
              have HO3 := Hid.mk hO3
              have HO4 := Hid.mk hO4
              have HX2 := Hid.mk hX2
              have HXLT := Hid.mk hXlt
              have HB6 := Hid.mk (HB5.out.trans (hO56.below hbl5 (fun _ h => h.elim)))
              have HBT6 := Hid.mk (hbt5.only hO56 (fun _ _ _ x => x))
              clear hrun hown hg6 hO2 hO3 hO4 hX2 hO56 hT6 hXlt hg6a hbt5
              go_wp2_with (at_builtin; refine wpList_append_known rfl _ _ 27 rfl _ _ _ _ rfl rfl HR6.out ?_)
              refine HC9.out.mono ?_
              rintro e w7 ⟨rfl, hT7, hO7⟩
              have hs7 := hO7.size
              have HY7 : Hid (∀ a, oo = some a → Bytey w7 a.block vm) := fun a e => by
                obtain ⟨cur, hb, hc⟩ := HY6.out a.block (HO3.out a e).2.1
                exact ⟨cur, (hO7.block _ (lt_of_block hb) (fun h => h.2 (by rw [HX2.out]; exact .inr ⟨a, e, rfl⟩))).trans hb, hc⟩
              have HT7 := Hid.mk hT7
              have HG7 := Hid.mk ((hO7.block ga (by omega) (fun h => h.2 (by rw [HX2.out]; exact .inl rfl))).trans HG6.out)
              have HB7 := Hid.mk (HB6.out.trans (hO7.below HB6.out.size (fun j e => e.1)))
              have HBT7 : Hid (BAt w7 vo vm vs) := by
                rcases Nat.eq_zero_or_pos vm with h0 | h0
                · exact ⟨HBT6.out.1, fun h => by omega⟩
                · exact HBT6.out.only hO7 (fun a e _ h => by have := HVO.out a e h0; have := h.1; omega)
              clear hT7 hO7 HC9 HR6 HY6 HT5 HG5 HB5 HG6 HB6 HBT6 c50 c51 c52 c53 c61
              generalize hres : (wrS s vb vs).1 = x at *
              have HRES := Hid.mk hres
              clear hres
              go_wp2_with fail
              go_loopw [17] (fun i wr => ∃ j : Nat, j ≤ vm ∧ i = .int .i64 j ∧ (∀ a, oo = some a → Bytey wr a.block vm) ∧ Only (fun j => ∃ a, oo = some a ∧ j = a.block) w7 wr) (fun i _ => vm - (intOf i).toNat)
              case atStart => exact ⟨0, by omega, rfl, HY7.out, Only.refl _ _⟩
              case round =>
                obtain ⟨j, hj, rfl, hby, hon⟩ := hrel
                by_cases hjl : j < vm
                · obtain ⟨a, rfl⟩ : ∃ a, oo = some a := Option.ne_none_iff_exists'.1 (HO4.out (by omega))
                  obtain ⟨_, _, e1, e2⟩ := HO3.out a rfl
                  obtain ⟨g, ao', sp⟩ := a
                  simp at e1 e2
                  subst e1 e2
                  obtain ⟨v, hv0, hv1, hc, hf⟩ := (hby _ rfl).at j hjl
                  dsimp only at hc hf
                  have HBY := Hid.mk (hby _ rfl)
                  have HON := Hid.mk hon
                  clear hby hon
                  go_wp2
                  go_roundw
                  case rel =>
                    have hbd := xor_bound v
                    exact ⟨j + 1, by omega, by go_num, fun a e => by cases e; exact HBY.out.set j _ hbd.1 hbd.2, HON.out.setCell (p := ⟨g, j, none⟩) (.inl ⟨_, rfl, rfl⟩) _⟩
                  case measure => (clear HBY HON; simp [intOf]; omega)
                · obtain rfl : vm = j := by omega
                  have hT8 : Tri w.heap.size X2 wr d o m (wrS s vb vs).2 so5 s := HT7.out.only (hon.mono (fun j _ e => by rw [HX2.out]; exact .inr e))
                  have hs8 := hon.size
                  have hbt8 : BAt wr vo vm vs := by
                    rcases Nat.eq_zero_or_pos vm with h0 | h0
                    · exact ⟨HBT7.out.1, fun h => by omega⟩
                    · exact HBT7.out.only hon (fun a e _ h => by
                        obtain ⟨a2, e2, e3⟩ := h
                        have := HVO.out a e h0
                        have := (HOL.out a2 e2).1
                        omega)
                  have hg8 := (hon.block ga (by omega) (fun h => by
                    obtain ⟨a2, e2, e3⟩ := h
                    have := (HOL.out a2 e2).1
                    omega)).trans HG7.out
                  have c81 : wr.cell? ⟨ga, 1, none⟩ = some (.int .i64 vb) := blk_cell hg8 1
                  have c83 : wr.cell? ⟨ga, 3, none⟩ = some (.slice vo vm vc) := blk_cell hg8 3
                  have HC11 := Hid.mk (tri_mwrite hT8 (fun j e => by have := HXLT.out j e; omega) (by omega) (2 * k) (by rw [HPS.out.img]; omega) HPS.out.sane (by omega) vb vo vm vc vs hbt8 hbc (by omega) (fun a e h0 => .inr (HVO.out a e h0)))
                  have HB8 := Hid.mk (HB7.out.trans (hon.below (B := w.heap.size) HB7.out.size (fun j e => by
                    obtain ⟨a2, e2, e3⟩ := e
                    have := (HOL.out a2 e2).1
                    omega)))
                  have hxx : (x != x) = false := by simp
                  clear hby hon hT8 hbt8 hg8
                  go_wp2_with (go_at_call 11; refine HC11.out.mono ?_; rintro e w9 ⟨rfl, hT9, hO9⟩; have HT9 := Hid.mk hT9; have HO9 := Hid.mk hO9; clear hT9 hO9; rw [HRES.out])
                  go_meet
                  case rel =>
                    exact ⟨HB8.out.trans (HO9.out.below HB8.out.size (fun j e => e.1)), _, _, HPS.out.write vb vs, HPO5.out, HT9.out.avoid (fun j e => e.elim)⟩
          have q1 : (vw == 1) = false := by simp [hq1]
          by_cases hq2 : vw = 2
          · have q2 : (vw == 2) = true := by simp [hq2]
            clear hq1 hq0 hq2
            as_aux_lemma =>
              go_wp2_with fail
              refine (tri_cut HT5.out (fun j e => by subst e; exact lt_of_block HG5.out) HB5.out.size vn).mono ?_
              rintro e w6 ⟨rfl, hT6, hO6⟩
              obtain ⟨hm1, hm2, hm3, bi6, lv6, hm6, _⟩ := hT6.model
              have hgl := lt_of_block HG5.out
              have hs6 := hO6.size
              have e2 := blk_cell hm6 2
              have f2 := blk_free hm6 2
              simp at e2
              have hg6 := (hO6.block ga hgl (fun e => e.2 rfl)).trans HG5.out
              have c62 : w6.cell? ⟨ga, 2, none⟩ = some (.int .i64 vn) := blk_cell hg6 2
              have hmg : ¬ ga = m := fun e => hm3 e.symm
              have HT6 := Hid.mk hT6
              have HB6 := Hid.mk (HB5.out.trans (hO6.below HB5.out.size (fun j e => e.1)))
              clear hT6 hO6 hm6 hg6
              by_cases hneg : vn < 0
              · go_wp2
                go_meet
                case rel =>
                  have hfl := HT6.out.flags (W' := (w6.setCell ⟨m, 2, none⟩ (.int .i64 vn)).setCell ⟨m, 2, none⟩ (.int .i64 (-1))) (sm' := { s with cut := decide (0 ≤ vn), left := max vn 0 }) (fun j e => by subst e; omega) HB6.out.size rfl rfl
                    (fun bi lv hb => by have := blk_set (i := 2) (u := .int .i64 (-1)) (blk_set (i := 2) (u := .int .i64 vn) hb); rw [this]; have : ¬ 0 ≤ vn := (by omega); simp [mcut, this])
                    (((Only.refl (fun j => j = m) w6).setCell (p := ⟨m, 2, none⟩) (.inl rfl) _).setCell (p := ⟨m, 2, none⟩) (.inl rfl) _)
                  exact ⟨HB6.out.trans (hfl.2.below HB6.out.size (fun j e => e.1)), _, _, HPS.out.cut vn hn0.2, HPO5.out, hfl.1.avoid (fun j e => e.elim)⟩
              · go_wp2
                go_meet
                case rel =>
                  have hfl := HT6.out.flags (W' := w6.setCell ⟨m, 2, none⟩ (.int .i64 vn)) (sm' := { s with cut := decide (0 ≤ vn), left := max vn 0 }) (fun j e => by subst e; omega) HB6.out.size rfl rfl
                    (fun bi lv hb => by have := blk_set (i := 2) (u := .int .i64 vn) hb; rw [this]; have h0 : 0 ≤ vn := (by omega); have h1 : max vn 0 = vn := (by omega); simp [mcut, h0, h1])
                    ((Only.refl (fun j => j = m) w6).setCell (p := ⟨m, 2, none⟩) (.inl rfl) _)
                  exact ⟨HB6.out.trans (hfl.2.below HB6.out.size (fun j e => e.1)), _, _, HPS.out.cut vn hn0.2, HPO5.out, hfl.1.avoid (fun j e => e.elim)⟩
          · have q2 : (vw == 2) = false := by simp [hq2]
            clear hq1 hq0 hq2
            as_aux_lemma =>
              go_wp2_with fail
              refine (tri_start HT5.out (fun j e => by subst e; exact lt_of_block HG5.out) HB5.out.size).mono ?_
              rintro e w6 ⟨rfl, hT6, hO6⟩
              obtain ⟨hm1, hm2, hm3, bi6, lv6, hm6, _⟩ := hT6.model
              have hgl := lt_of_block HG5.out
              have hs6 := hO6.size
              have e2 := blk_cell hm6 2
              have e3 := blk_cell hm6 3
              have f2 := blk_free hm6 2
              have f3 := blk_free hm6 3
              simp at e2 e3
              have HT6 := Hid.mk hT6
              have HB6 := Hid.mk (HB5.out.trans (hO6.below HB5.out.size (fun j e => e.1)))
              clear hT6 hO6 hm6
              go_wp2
              go_meet
              case rel =>
                have hfl := HT6.out.flags (W' := (w6.setCell ⟨m, 3, none⟩ (.bool false)).setCell ⟨m, 2, none⟩ (.int .i64 (-1))) (sm' := { s with dead := false, cut := false, left := 0 }) (fun j e => by subst e; omega) HB6.out.size rfl rfl
                  (fun bi lv hb => by have := blk_set (i := 2) (u := .int .i64 (-1)) (blk_set (i := 3) (u := .bool false) hb); rw [this]; simp [mcut])
                  (((Only.refl (fun j => j = m) w6).setCell (p := ⟨m, 3, none⟩) (.inl rfl) _).setCell (p := ⟨m, 2, none⟩) (.inl rfl) _)
                exact ⟨HB6.out.trans (hfl.2.below HB6.out.size (fun j e => e.1)), _, _, HPS.out.start, HPO5.out, hfl.1.avoid (fun j e => e.elim)⟩
        case rest =>
          as_aux_lemma =>
            obtain ⟨hbr, s6, so6, hps6, hpo6, htr6⟩ := hcut
            obtain ⟨F6, hdk6⟩ := htr6.drew.disk
            obtain ⟨_, _, _, bi6, lv6, hm6, _⟩ := htr6.model
            have c63 : wc.drew.cell? ⟨m, 3, none⟩ = some (.bool s6.dead) := blk_cell hm6 3
            have HDE := dead_any _ wc.drew d s6 hdk6
            have HR := Hid.mk (show Below w.heap.size w wc.drew ∧ ∃ s so, PlI s B (k + 1) ∧ PlI so B (k + 1) ∧ Tri w.heap.size (fun _ => False) wc.drew d o m s so s from ⟨hbr.drew, s6, so6, hps6, hpo6, htr6.drew⟩)
            generalize s6.dead = dd at *
            have HDE := Hid.mk HDE
            clear hbr hps6 hpo6 htr6 hdk6 hm6 HG5 HPO5 HT5 HB5 HPS c50 c51 c52 c53 HACT0 hbk0 hn0 hw0 hbc hbig h3 h3d
            go_wp2_with fail
            refine wp_region_held_drew (S := fun W => W.cell? ⟨m, 3, none⟩ = some (.bool dd)) (by kernel_rfl) c63 (fun hH => ?_)
            change wpAnyH Try.prog Region.Mode.any _ _ _ 7 _ _ _
            refine takeH 0 194 (.pointer (some ⟨d, 0, none⟩)) rfl (by kernel_rfl) (by kernel_rfl) (by kernel_rfl) (by kernel_rfl) (fun _ _ _ h => h) (by kernel_rfl) (fun w hw => by kernel_rfl) hH ?_
            simp only [List.setIfInBounds_toArray, List.set_cons_zero, List.set_cons_succ]
            refine takeH 2 196 (.pointer (some ⟨m, 0, none⟩)) rfl (by kernel_rfl) (by kernel_rfl) (by kernel_rfl) (by kernel_rfl) (fun _ _ _ h => h) (by kernel_rfl) (fun w hw => by kernel_rfl) hH ?_
            simp only [List.setIfInBounds_toArray, List.set_cons_zero, List.set_cons_succ]
            refine takeH 3 197 (.pointer (some ⟨m, 0, none⟩)) rfl (by kernel_rfl) (by kernel_rfl) (by kernel_rfl) (by kernel_rfl) (fun _ _ _ h => h) (by kernel_rfl) (fun w hw => by (try dsimp only at hw); go_simp) hH ?_
            simp only [List.setIfInBounds_toArray, List.set_cons_zero, List.set_cons_succ]
            refine takeH 4 198 (.pointer (some ⟨m, 3, none⟩)) rfl (by kernel_rfl) (by kernel_rfl) (by kernel_rfl) (by kernel_rfl) (fun _ _ _ h => h) (by kernel_rfl) (fun w hw => by (try dsimp only at hw); go_simp) hH ?_
            simp only [List.setIfInBounds_toArray, List.set_cons_zero, List.set_cons_succ]
            refine takeH 5 199 (.bool dd) rfl (by kernel_rfl) (by kernel_rfl) (by kernel_rfl) (by kernel_rfl) (fun _ _ _ h => h) (by kernel_rfl) (fun w hw => by (try dsimp only at hw); go_simp) hH ?_
            simp only [List.setIfInBounds_toArray, List.set_cons_zero, List.set_cons_succ]
            refine stepH_call1 1 195 rfl (by kernel_rfl) (by kernel_rfl) (by kernel_rfl) 14 (.tmp 194) #[24] (by kernel_rfl) (enters_of Try.func14 (by kernel_rfl) rfl) (.pointer (some ⟨d, 0, none⟩)) (by kernel_rfl) HDE.out ?_
            rintro e w7 ⟨rfl, hw7⟩
            subst w7
            refine ⟨_, rfl, hH, ?_⟩
            simp only [List.setIfInBounds_toArray, List.set_cons_zero, List.set_cons_succ]
            have hdd : (dd != dd) = false := by simp
            refine takeH 6 200 (.bool false) rfl (by kernel_rfl) (by kernel_rfl) (by kernel_rfl) (by kernel_rfl) (fun _ _ _ h => h) (by kernel_rfl) (fun w hw => by (try dsimp only at hw); go_simp) hH ?_
            simp only [List.setIfInBounds_toArray, List.set_cons_zero, List.set_cons_succ]
            refine wpAnyH_done (by kernel_rfl) ?_ _
            clear hdd HDE hH c63
            go_wp2
            go_roundw
            case rel => exact ⟨k + 1, by omega, by go_num, HR.out.1, HR.out.2⟩
            case measure => (clear HR; simp [intOf]; omega)
      · obtain rfl : len = k := by omega
        as_aux_lemma =>
          obtain ⟨F, hdk⟩ := HTR.out.disk
          have HLOG := Hid.mk (log_any _ wr d s hdk (by have := HPS.out.sane.log; omega) (fun j hj => by rw [HPS.out.sane.dat j hj]; omega))
          clear hdk HA
          go_wp2_with fail
          refine HLOG.out.mono ?_
          rintro e w6 ⟨g0, cells, rfl, r1, r2, r3, hB6⟩
          obtain ⟨ao1, cap1, e1, _, hLR1⟩ := logR_of r1 r3
          cases e1
          have hT6 := HTR.out.only ((Only.of_new (fun _ => False) hB6).mono (fun _ _ h => h.elim))
          obtain ⟨F6, hdk6⟩ := hT6.drew.disk
          obtain ⟨_, _, _, bi6, lv6, hm6, hbi6, himg6, cells2, hw2, hlc2⟩ := hT6.model
          obtain ⟨ao2, cap2, rfl, _, hLR2⟩ := logR_of hw2 hlc2
          have e0 := blk_cell hm6 0
          have e1 := blk_cell hm6 1
          simp at e0 e1
          have HBL := blocks_any _ w6.drew d s hdk6 (by rw [HPS.out.img]; omega)
          rw [HPS.out.img, Nat.mul_div_cancel_left _ (by omega)] at HBL
          have HIM := image_any _ w6.drew d s hdk6 (by rw [HPS.out.img]; omega)
          have hil := HPS.out.img
          obtain ⟨N, hN⟩ : ∃ N, s.log.length = N := ⟨_, rfl⟩
          have hN9 : N ≤ 400 := by have := HPS.out.sane.log; omega
          obtain ⟨L, hL⟩ : ∃ L, s.img.length = L := ⟨_, rfl⟩
          obtain ⟨ba, hba⟩ : ∃ ba : Addr, (⟨bi6, 0, none⟩ : Addr) = ba := ⟨_, rfl⟩
          rw [hL] at e0 HIM
          rw [hba] at e0
          rw [hN] at e1
          obtain ⟨SI, hSI⟩ : ∃ SI, strOfNums s.img = SI := ⟨_, rfl⟩
          have hib : BAt w6 (some ba) L s.img := ⟨hL, fun _ => ⟨_, rfl, by rw [← hba]; exact hbi6, fun i hi => by
            rw [← hba]
            have := bytes_at himg6 0 i (by omega)
            rwa [Nat.zero_add] at this⟩⟩
          have HK : Hid (∀ W, Below w6.heap.size w6 W → W.cell? ⟨m, 0, none⟩ = some (.slice (some ba) L L) ∧ W.cell? ⟨m, 1, none⟩ = some (.slice ao2 N cap2) ∧ (convert 27 9 (.slice (some ba) L L)).run Try.prog W = .ok (.string SI) W) := fun W hW => by
            refine ⟨(hW.cell (p := ⟨m, 0, none⟩) (lt_of_block hm6)).trans e0, (hW.cell (p := ⟨m, 1, none⟩) (lt_of_block hm6)).trans e1, ?_⟩
            rw [← hSI]
            exact conv_bytes _ _ _ _ _ (hib.only (Only.of_new (fun _ => False) hW) (fun _ _ _ x => x))
          have HSI := Hid.mk hSI
          have HN := Hid.mk hN
          have HBL := Hid.mk HBL
          have HIM := Hid.mk HIM
          have HLR1 := Hid.mk hLR1
          have HLR2 := Hid.mk hLR2
          have HB6 := Hid.mk hB6
          have HWB := Hid.mk (HBW.out.trans (hB6.mono HBW.out.size))
          rw [hN]
          clear r1 r2 r3 hLR1 hLR2 hT6 hdk6 hm6 himg6 hw2 hlc2 hib hSI hN hB6 HLOG HTR e0 e1 hil
          go_wp2_with fail
          refine wp_region_held_drew (S := fun W => W.cell? ⟨m, 0, none⟩ = some (.slice (some ba) L L) ∧ W.cell? ⟨m, 1, none⟩ = some (.slice ao2 N cap2) ∧ (convert 27 9 (.slice (some ba) L L)).run Try.prog W = .ok (.string SI) W) (by kernel_rfl) (HK.out _ ⟨rfl, rfl, rfl, Nat.le_refl _, fun _ _ => rfl⟩) (fun hH => ?_)
          change wpAnyH Try.prog Region.Mode.any _ _ _ 25 _ _ _
          refine takeH 0 203 (.slice (some ⟨g0, 0, none⟩) N N) rfl (by kernel_rfl) (by kernel_rfl) (by kernel_rfl) (by kernel_rfl) (fun _ _ _ h => h) (by kernel_rfl) (fun w hw => by kernel_rfl) hH ?_
          simp only [List.setIfInBounds_toArray, List.set_cons_zero, List.set_cons_succ]
          refine takeH 1 204 (.int .i64 (N : Int)) rfl (by kernel_rfl) (by kernel_rfl) (by kernel_rfl) (by kernel_rfl) (fun _ _ _ h => h) (by kernel_rfl) (fun w hw => by (try dsimp only at hw); go_simp) hH ?_
          simp only [List.setIfInBounds_toArray, List.set_cons_zero, List.set_cons_succ]
          refine takeH 2 205 (.pointer (some ⟨m, 0, none⟩)) rfl (by kernel_rfl) (by kernel_rfl) (by kernel_rfl) (by kernel_rfl) (fun _ _ _ h => h) (by kernel_rfl) (fun w hw => by kernel_rfl) hH ?_
          simp only [List.setIfInBounds_toArray, List.set_cons_zero, List.set_cons_succ]
          refine takeH 3 206 (.pointer (some ⟨m, 0, none⟩)) rfl (by kernel_rfl) (by kernel_rfl) (by kernel_rfl) (by kernel_rfl) (fun _ _ _ h => h) (by kernel_rfl) (fun w hw => by (try dsimp only at hw); go_simp) hH ?_
          simp only [List.setIfInBounds_toArray, List.set_cons_zero, List.set_cons_succ]
          refine takeH 4 207 (.pointer (some ⟨m, 1, none⟩)) rfl (by kernel_rfl) (by kernel_rfl) (by kernel_rfl) (by kernel_rfl) (fun _ _ _ h => h) (by kernel_rfl) (fun w hw => by (try dsimp only at hw); go_simp) hH ?_
          simp only [List.setIfInBounds_toArray, List.set_cons_zero, List.set_cons_succ]
          refine takeH 5 208 (.slice ao2 N cap2) rfl (by kernel_rfl) (by kernel_rfl) (by kernel_rfl) (by kernel_rfl) (fun _ _ _ h => h) (by kernel_rfl) (fun w hw => by (try dsimp only at hw); go_simp) hH ?_
          simp only [List.setIfInBounds_toArray, List.set_cons_zero, List.set_cons_succ]
          refine takeH 6 209 (.int .i64 (N : Int)) rfl (by kernel_rfl) (by kernel_rfl) (by kernel_rfl) (by kernel_rfl) (fun _ _ _ h => h) (by kernel_rfl) (fun w hw => by (try dsimp only at hw); go_simp) hH ?_
          simp only [List.setIfInBounds_toArray, List.set_cons_zero, List.set_cons_succ]
          refine takeH 7 210 (.bool false) rfl (by kernel_rfl) (by kernel_rfl) (by kernel_rfl) (by kernel_rfl) (fun _ _ _ h => h) (by kernel_rfl) (fun w hw => by (try dsimp only at hw); go_simp) hH ?_
          simp only [List.setIfInBounds_toArray, List.set_cons_zero, List.set_cons_succ]
          refine takeH 8 211 (.bool false) rfl (by kernel_rfl) (by kernel_rfl) (by kernel_rfl) (by kernel_rfl) (fun _ _ _ h => h) (by kernel_rfl) (fun w hw => by kernel_rfl) hH ?_
          simp only [List.setIfInBounds_toArray, List.set_cons_zero, List.set_cons_succ]
          refine takeH 9 212 (.pointer (some ⟨d, 0, none⟩)) rfl (by kernel_rfl) (by kernel_rfl) (by kernel_rfl) (by kernel_rfl) (fun _ _ _ h => h) (by kernel_rfl) (fun w hw => by kernel_rfl) hH ?_
          simp only [List.setIfInBounds_toArray, List.set_cons_zero, List.set_cons_succ]
          refine takeH 11 214 (.int .i64 (B : Int)) rfl (by kernel_rfl) (by kernel_rfl) (by kernel_rfl) (by kernel_rfl) (fun _ _ _ h => h) (by kernel_rfl) (fun w hw => by kernel_rfl) hH ?_
          simp only [List.setIfInBounds_toArray, List.set_cons_zero, List.set_cons_succ]
          refine stepH_call1 10 213 rfl (by kernel_rfl) (by kernel_rfl) (by kernel_rfl) 16 (.tmp 212) #[24] (by kernel_rfl) (enters_of Try.func16 (by kernel_rfl) rfl) (.pointer (some ⟨d, 0, none⟩)) (by kernel_rfl) HBL.out ?_
          rintro e w7 ⟨rfl, hw7⟩
          subst w7
          refine ⟨_, rfl, hH, ?_⟩
          simp only [List.setIfInBounds_toArray, List.set_cons_zero, List.set_cons_succ]
          refine takeH 12 215 (.bool false) rfl (by kernel_rfl) (by kernel_rfl) (by kernel_rfl) (by kernel_rfl) (fun _ _ _ h => h) (by kernel_rfl) (fun w hw => by (try dsimp only at hw); go_simp) hH ?_
          simp only [List.setIfInBounds_toArray, List.set_cons_zero, List.set_cons_succ]
          refine takeH 13 216 (.bool false) rfl (by kernel_rfl) (by kernel_rfl) (by kernel_rfl) (by kernel_rfl) (fun _ _ _ h => h) (by kernel_rfl) (fun w hw => by kernel_rfl) hH ?_
          simp only [List.setIfInBounds_toArray, List.set_cons_zero, List.set_cons_succ]
          refine takeH 14 217 (.bool false) rfl (by kernel_rfl) (by kernel_rfl) (by kernel_rfl) (by kernel_rfl) (fun _ _ _ h => h) (by kernel_rfl) (fun w hw => by kernel_rfl) hH ?_
          simp only [List.setIfInBounds_toArray, List.set_cons_zero, List.set_cons_succ]
          refine takeH 15 218 (.pointer (some ⟨d, 0, none⟩)) rfl (by kernel_rfl) (by kernel_rfl) (by kernel_rfl) (by kernel_rfl) (fun _ _ _ h => h) (by kernel_rfl) (fun w hw => by kernel_rfl) hH ?_
          simp only [List.setIfInBounds_toArray, List.set_cons_zero, List.set_cons_succ]
          refine takeH 18 221 (.pointer (some ⟨m, 0, none⟩)) rfl (by kernel_rfl) (by kernel_rfl) (by kernel_rfl) (by kernel_rfl) (fun _ _ _ h => h) (by kernel_rfl) (fun w hw => by kernel_rfl) hH ?_
          simp only [List.setIfInBounds_toArray, List.set_cons_zero, List.set_cons_succ]
          refine takeH 19 222 (.pointer (some ⟨m, 0, none⟩)) rfl (by kernel_rfl) (by kernel_rfl) (by kernel_rfl) (by kernel_rfl) (fun _ _ _ h => h) (by kernel_rfl) (fun w hw => by (try dsimp only at hw); go_simp) hH ?_
          simp only [List.setIfInBounds_toArray, List.set_cons_zero, List.set_cons_succ]
          refine takeH 20 223 (.pointer (some ⟨m, 0, none⟩)) rfl (by kernel_rfl) (by kernel_rfl) (by kernel_rfl) (by kernel_rfl) (fun _ _ _ h => h) (by kernel_rfl) (fun w hw => by (try dsimp only at hw); go_simp) hH ?_
          simp only [List.setIfInBounds_toArray, List.set_cons_zero, List.set_cons_succ]
          refine takeH 21 224 (.slice (some ba) L L) rfl (by kernel_rfl) (by kernel_rfl) (by kernel_rfl) (by kernel_rfl) (fun _ _ _ h => h) (by kernel_rfl) (fun w hw => by (try dsimp only at hw); go_simp) hH ?_
          simp only [List.setIfInBounds_toArray, List.set_cons_zero, List.set_cons_succ]
          refine takeH 22 225 (.string SI) rfl (by kernel_rfl) (by kernel_rfl) (by kernel_rfl) (by kernel_rfl) (fun _ _ _ h => h) (by kernel_rfl) (fun w hw => by (try dsimp only at hw); go_simp) hH ?_
          simp only [List.setIfInBounds_toArray, List.set_cons_zero, List.set_cons_succ]
          refine stepH_call1 16 219 rfl (by kernel_rfl) (by kernel_rfl) (by kernel_rfl) 17 (.tmp 218) #[24] (by kernel_rfl) (enters_of Try.func17 (by kernel_rfl) rfl) (.pointer (some ⟨d, 0, none⟩)) (by kernel_rfl) HIM.out ?_
          rintro e w7 ⟨v7, rfl, hown7, hnn7, hB7⟩
          obtain ⟨io, ic, rfl, hib7, _, _⟩ := owns_BAt hown7
          have cv7 := conv_bytes w7 io _ ic s.img hib7
          rw [HSI.out] at cv7
          have hB7' : Below w6.heap.size w6 w7 := ⟨hB7.os, hB7.tape, hB7.output, hB7.size, hB7.block⟩
          have hH7 := HK.out w7 hB7'
          have HB7 := Hid.mk hB7'
          clear hown7 hnn7 hib7 hB7' hB7
          refine ⟨_, rfl, hH7, ?_⟩
          simp only [List.setIfInBounds_toArray, List.set_cons_zero, List.set_cons_succ]
          refine stepH 17 220 (.string SI) rfl (by kernel_rfl) (by kernel_rfl) (by kernel_rfl) (by go_simp) hH7 ?_
          simp only [List.setIfInBounds_toArray, List.set_cons_zero, List.set_cons_succ]
          refine takeH 23 226 (.bool false) rfl (by kernel_rfl) (by kernel_rfl) (by kernel_rfl) (by kernel_rfl) (fun _ _ _ h => h) (by kernel_rfl) (fun w hw => by (try dsimp only at hw); go_simp) hH7 ?_
          simp only [List.setIfInBounds_toArray, List.set_cons_zero, List.set_cons_succ]
          refine takeH 24 227 (.bool false) rfl (by kernel_rfl) (by kernel_rfl) (by kernel_rfl) (by kernel_rfl) (fun _ _ _ h => h) (by kernel_rfl) (fun w hw => by kernel_rfl) hH7 ?_
          simp only [List.setIfInBounds_toArray, List.set_cons_zero, List.set_cons_succ]
          refine wpAnyH_done (by kernel_rfl) ?_ _
          have HM1 := Hid.mk hH7.2.1
          have HM1L := Hid.mk (cell_lt hH7.2.1)
          have HL1 := Hid.mk (HLR1.out.below HB7.out)
          have HL2 := Hid.mk (HLR2.out.below HB7.out)
          have HW7 := Hid.mk (HWB.out.trans (HB7.out.mono HWB.out.size))
          clear hH hH7 cv7 HLR1 HLR2 HB7 HK HBL HIM HSI
          go_wp2_with fail
          go_loopw [19] (fun i wr => ∃ j : Nat, j ≤ N ∧ i = .int .i64 j ∧ Below w7.heap.size w7 wr) (fun i _ => N - (intOf i).toNat)
          case atStart => exact ⟨0, by omega, rfl, Below.refl _ _⟩
          case round =>
            obtain ⟨j, hj, rfl, hbw⟩ := hrel
            have HBJ := Hid.mk hbw
            clear hbw
            by_cases hjl : j < N
            · have hjl' : j < s.log.length := by rw [HN.out]; exact hjl
              obtain ⟨bl1, gd1, cp1, q1, q2, q3, q4, q5, q6⟩ := (HL1.out.below HBJ.out).below (W' := wr.drew) ⟨rfl, rfl, rfl, Nat.le_refl _, fun _ _ => rfl⟩ j hjl'
              obtain ⟨bl2, gd2, cp2, p1, p2, p3, p4, p5, p6⟩ := (HL2.out.below HBJ.out).below (W' := wr.drew) ⟨rfl, rfl, rfl, Nat.le_refl _, fun _ _ => rfl⟩ j hjl'
              cases q1
              have hcm : wr.drew.cell? ⟨m, 1, none⟩ = some (.slice ao2 N cap2) := (HBJ.out.cell (p := ⟨m, 1, none⟩) HM1L.out).trans HM1.out
              have hao : wr.drew.cell? ⟨m, 1, none⟩ = some (.slice (some ⟨bl2, 0, none⟩) N cap2) := by rw [hcm, p1]
              have cv1 := conv_bytes wr.drew _ _ cp1 _ q6
              have cv2 := conv_bytes wr.drew _ _ cp2 _ p6
              generalize strOfNums (s.log.getD j (0, [])).2 = SX at *
              generalize (s.log.getD j (0, [])).2.length = xl at *
              generalize (s.log.getD j (0, [])).1 = qq at *
              have HSS : Hid (wr.drew.cell? ⟨g0, j * 2, none⟩ = some (.int .i64 qq) ∧ wr.drew.cell? ⟨g0, j * 2 + 1, none⟩ = some (.slice (some ⟨gd1, 0, none⟩) xl cp1) ∧ wr.drew.cell? ⟨m, 1, none⟩ = some (.slice (some ⟨bl2, 0, none⟩) N cap2) ∧
                  wr.drew.cell? ⟨bl2, j * 2, none⟩ = some (.int .i64 qq) ∧ wr.drew.cell? ⟨bl2, j * 2 + 1, none⟩ = some (.slice (some ⟨gd2, 0, none⟩) xl cp2) ∧ (convert 27 9 (.slice (some ⟨gd1, 0, none⟩) xl cp1)).run Try.prog wr.drew = .ok (.string SX) wr.drew ∧
                  (convert 27 9 (.slice (some ⟨gd2, 0, none⟩) xl cp2)).run Try.prog wr.drew = .ok (.string SX) wr.drew) := ⟨q4, q5, hao, p4, p5, cv1, cv2⟩
              clear q2 q3 q4 q5 q6 p1 p2 p3 p4 p5 p6 cv1 cv2 hcm hao hjl' HL1 HL2 HM1 HM1L
              go_wp2_with fail
              refine wp_region_held_drew (S := fun W => W.cell? ⟨g0, j * 2, none⟩ = some (.int .i64 qq) ∧ W.cell? ⟨g0, j * 2 + 1, none⟩ = some (.slice (some ⟨gd1, 0, none⟩) xl cp1) ∧ W.cell? ⟨m, 1, none⟩ = some (.slice (some ⟨bl2, 0, none⟩) N cap2) ∧
                  W.cell? ⟨bl2, j * 2, none⟩ = some (.int .i64 qq) ∧ W.cell? ⟨bl2, j * 2 + 1, none⟩ = some (.slice (some ⟨gd2, 0, none⟩) xl cp2) ∧ (convert 27 9 (.slice (some ⟨gd1, 0, none⟩) xl cp1)).run Try.prog W = .ok (.string SX) W ∧
                  (convert 27 9 (.slice (some ⟨gd2, 0, none⟩) xl cp2)).run Try.prog W = .ok (.string SX) W) (by kernel_rfl) HSS.out (fun hH => ?_)
              change wpAnyH Try.prog Region.Mode.any _ _ _ 32 _ _ _
              refine takeH 0 234 (.slice (some ⟨g0, 0, none⟩) N N) rfl (by kernel_rfl) (by kernel_rfl) (by kernel_rfl) (by kernel_rfl) (fun _ _ _ h => h) (by kernel_rfl) (fun w hw => by kernel_rfl) hH ?_
              simp only [List.setIfInBounds_toArray, List.set_cons_zero, List.set_cons_succ]
              refine takeH 1 235 (.int .i64 (j : Int)) rfl (by kernel_rfl) (by kernel_rfl) (by kernel_rfl) (by kernel_rfl) (fun _ _ _ h => h) (by kernel_rfl) (fun w hw => by kernel_rfl) hH ?_
              simp only [List.setIfInBounds_toArray, List.set_cons_zero, List.set_cons_succ]
              refine takeH 2 236 (.pointer (some ⟨g0, j * 2, none⟩)) rfl (by kernel_rfl) (by kernel_rfl) (by kernel_rfl) (by kernel_rfl) (fun _ _ _ h => h) (by kernel_rfl) (fun w hw => by (try dsimp only at hw); go_simp) hH ?_
              simp only [List.setIfInBounds_toArray, List.set_cons_zero, List.set_cons_succ]
              refine takeH 3 237 (.pointer (some ⟨g0, j * 2, none⟩)) rfl (by kernel_rfl) (by kernel_rfl) (by kernel_rfl) (by kernel_rfl) (fun _ _ _ h => h) (by kernel_rfl) (fun w hw => by (try dsimp only at hw); go_simp) hH ?_
              simp only [List.setIfInBounds_toArray, List.set_cons_zero, List.set_cons_succ]
              refine takeH 4 238 (.int .i64 qq) rfl (by kernel_rfl) (by kernel_rfl) (by kernel_rfl) (by kernel_rfl) (fun _ _ _ h => h) (by kernel_rfl) (fun w hw => by (try dsimp only at hw); go_simp) hH ?_
              simp only [List.setIfInBounds_toArray, List.set_cons_zero, List.set_cons_succ]
              refine takeH 5 239 (.pointer (some ⟨m, 0, none⟩)) rfl (by kernel_rfl) (by kernel_rfl) (by kernel_rfl) (by kernel_rfl) (fun _ _ _ h => h) (by kernel_rfl) (fun w hw => by kernel_rfl) hH ?_
              simp only [List.setIfInBounds_toArray, List.set_cons_zero, List.set_cons_succ]
              refine takeH 6 240 (.pointer (some ⟨m, 0, none⟩)) rfl (by kernel_rfl) (by kernel_rfl) (by kernel_rfl) (by kernel_rfl) (fun _ _ _ h => h) (by kernel_rfl) (fun w hw => by (try dsimp only at hw); go_simp) hH ?_
              simp only [List.setIfInBounds_toArray, List.set_cons_zero, List.set_cons_succ]
              refine takeH 7 241 (.pointer (some ⟨m, 1, none⟩)) rfl (by kernel_rfl) (by kernel_rfl) (by kernel_rfl) (by kernel_rfl) (fun _ _ _ h => h) (by kernel_rfl) (fun w hw => by (try dsimp only at hw); go_simp) hH ?_
              simp only [List.setIfInBounds_toArray, List.set_cons_zero, List.set_cons_succ]
              refine takeH 8 242 (.slice (some ⟨bl2, 0, none⟩) N cap2) rfl (by kernel_rfl) (by kernel_rfl) (by kernel_rfl) (by kernel_rfl) (fun _ _ _ h => h) (by kernel_rfl) (fun w hw => by (try dsimp only at hw); go_simp) hH ?_
              simp only [List.setIfInBounds_toArray, List.set_cons_zero, List.set_cons_succ]
              refine takeH 9 243 (.int .i64 (j : Int)) rfl (by kernel_rfl) (by kernel_rfl) (by kernel_rfl) (by kernel_rfl) (fun _ _ _ h => h) (by kernel_rfl) (fun w hw => by kernel_rfl) hH ?_
              simp only [List.setIfInBounds_toArray, List.set_cons_zero, List.set_cons_succ]
              refine takeH 10 244 (.pointer (some ⟨bl2, j * 2, none⟩)) rfl (by kernel_rfl) (by kernel_rfl) (by kernel_rfl) (by kernel_rfl) (fun _ _ _ h => h) (by kernel_rfl) (fun w hw => by (try dsimp only at hw); go_simp) hH ?_
              simp only [List.setIfInBounds_toArray, List.set_cons_zero, List.set_cons_succ]
              refine takeH 11 245 (.pointer (some ⟨bl2, j * 2, none⟩)) rfl (by kernel_rfl) (by kernel_rfl) (by kernel_rfl) (by kernel_rfl) (fun _ _ _ h => h) (by kernel_rfl) (fun w hw => by (try dsimp only at hw); go_simp) hH ?_
              simp only [List.setIfInBounds_toArray, List.set_cons_zero, List.set_cons_succ]
              refine takeH 12 246 (.int .i64 qq) rfl (by kernel_rfl) (by kernel_rfl) (by kernel_rfl) (by kernel_rfl) (fun _ _ _ h => h) (by kernel_rfl) (fun w hw => by (try dsimp only at hw); go_simp) hH ?_
              simp only [List.setIfInBounds_toArray, List.set_cons_zero, List.set_cons_succ]
              refine takeH 13 247 (.bool false) rfl (by kernel_rfl) (by kernel_rfl) (by kernel_rfl) (by kernel_rfl) (fun _ _ _ h => h) (by kernel_rfl) (fun w hw => by (try dsimp only at hw); go_simp) hH ?_
              simp only [List.setIfInBounds_toArray, List.set_cons_zero, List.set_cons_succ]
              refine takeH 14 248 (.bool false) rfl (by kernel_rfl) (by kernel_rfl) (by kernel_rfl) (by kernel_rfl) (fun _ _ _ h => h) (by kernel_rfl) (fun w hw => by kernel_rfl) hH ?_
              simp only [List.setIfInBounds_toArray, List.set_cons_zero, List.set_cons_succ]
              refine takeH 15 249 (.slice (some ⟨g0, 0, none⟩) N N) rfl (by kernel_rfl) (by kernel_rfl) (by kernel_rfl) (by kernel_rfl) (fun _ _ _ h => h) (by kernel_rfl) (fun w hw => by kernel_rfl) hH ?_
              simp only [List.setIfInBounds_toArray, List.set_cons_zero, List.set_cons_succ]
              refine takeH 16 250 (.int .i64 (j : Int)) rfl (by kernel_rfl) (by kernel_rfl) (by kernel_rfl) (by kernel_rfl) (fun _ _ _ h => h) (by kernel_rfl) (fun w hw => by kernel_rfl) hH ?_
              simp only [List.setIfInBounds_toArray, List.set_cons_zero, List.set_cons_succ]
              refine takeH 17 251 (.pointer (some ⟨g0, j * 2, none⟩)) rfl (by kernel_rfl) (by kernel_rfl) (by kernel_rfl) (by kernel_rfl) (fun _ _ _ h => h) (by kernel_rfl) (fun w hw => by (try dsimp only at hw); go_simp) hH ?_
              simp only [List.setIfInBounds_toArray, List.set_cons_zero, List.set_cons_succ]
              refine takeH 18 252 (.pointer (some ⟨g0, j * 2 + 1, none⟩)) rfl (by kernel_rfl) (by kernel_rfl) (by kernel_rfl) (by kernel_rfl) (fun _ _ _ h => h) (by kernel_rfl) (fun w hw => by (try dsimp only at hw); go_simp) hH ?_
              simp only [List.setIfInBounds_toArray, List.set_cons_zero, List.set_cons_succ]
              refine takeH 19 253 (.slice (some ⟨gd1, 0, none⟩) xl cp1) rfl (by kernel_rfl) (by kernel_rfl) (by kernel_rfl) (by kernel_rfl) (fun _ _ _ h => h) (by kernel_rfl) (fun w hw => by (try dsimp only at hw); go_simp) hH ?_
              simp only [List.setIfInBounds_toArray, List.set_cons_zero, List.set_cons_succ]
              refine takeH 20 254 (.string SX) rfl (by kernel_rfl) (by kernel_rfl) (by kernel_rfl) (by kernel_rfl) (fun _ _ _ h => h) (by kernel_rfl) (fun w hw => by (try dsimp only at hw); go_simp) hH ?_
              simp only [List.setIfInBounds_toArray, List.set_cons_zero, List.set_cons_succ]
              refine takeH 21 255 (.pointer (some ⟨m, 0, none⟩)) rfl (by kernel_rfl) (by kernel_rfl) (by kernel_rfl) (by kernel_rfl) (fun _ _ _ h => h) (by kernel_rfl) (fun w hw => by kernel_rfl) hH ?_
              simp only [List.setIfInBounds_toArray, List.set_cons_zero, List.set_cons_succ]
              refine takeH 22 256 (.pointer (some ⟨m, 0, none⟩)) rfl (by kernel_rfl) (by kernel_rfl) (by kernel_rfl) (by kernel_rfl) (fun _ _ _ h => h) (by kernel_rfl) (fun w hw => by (try dsimp only at hw); go_simp) hH ?_
              simp only [List.setIfInBounds_toArray, List.set_cons_zero, List.set_cons_succ]
              refine takeH 23 257 (.pointer (some ⟨m, 1, none⟩)) rfl (by kernel_rfl) (by kernel_rfl) (by kernel_rfl) (by kernel_rfl) (fun _ _ _ h => h) (by kernel_rfl) (fun w hw => by (try dsimp only at hw); go_simp) hH ?_
              simp only [List.setIfInBounds_toArray, List.set_cons_zero, List.set_cons_succ]
              refine takeH 24 258 (.slice (some ⟨bl2, 0, none⟩) N cap2) rfl (by kernel_rfl) (by kernel_rfl) (by kernel_rfl) (by kernel_rfl) (fun _ _ _ h => h) (by kernel_rfl) (fun w hw => by (try dsimp only at hw); go_simp) hH ?_
              simp only [List.setIfInBounds_toArray, List.set_cons_zero, List.set_cons_succ]
              refine takeH 25 259 (.int .i64 (j : Int)) rfl (by kernel_rfl) (by kernel_rfl) (by kernel_rfl) (by kernel_rfl) (fun _ _ _ h => h) (by kernel_rfl) (fun w hw => by kernel_rfl) hH ?_
              simp only [List.setIfInBounds_toArray, List.set_cons_zero, List.set_cons_succ]
              refine takeH 26 260 (.pointer (some ⟨bl2, j * 2, none⟩)) rfl (by kernel_rfl) (by kernel_rfl) (by kernel_rfl) (by kernel_rfl) (fun _ _ _ h => h) (by kernel_rfl) (fun w hw => by (try dsimp only at hw); go_simp) hH ?_
              simp only [List.setIfInBounds_toArray, List.set_cons_zero, List.set_cons_succ]
              refine takeH 27 261 (.pointer (some ⟨bl2, j * 2 + 1, none⟩)) rfl (by kernel_rfl) (by kernel_rfl) (by kernel_rfl) (by kernel_rfl) (fun _ _ _ h => h) (by kernel_rfl) (fun w hw => by (try dsimp only at hw); go_simp) hH ?_
              simp only [List.setIfInBounds_toArray, List.set_cons_zero, List.set_cons_succ]
              refine takeH 28 262 (.slice (some ⟨gd2, 0, none⟩) xl cp2) rfl (by kernel_rfl) (by kernel_rfl) (by kernel_rfl) (by kernel_rfl) (fun _ _ _ h => h) (by kernel_rfl) (fun w hw => by (try dsimp only at hw); go_simp) hH ?_
              simp only [List.setIfInBounds_toArray, List.set_cons_zero, List.set_cons_succ]
              refine takeH 29 263 (.string SX) rfl (by kernel_rfl) (by kernel_rfl) (by kernel_rfl) (by kernel_rfl) (fun _ _ _ h => h) (by kernel_rfl) (fun w hw => by (try dsimp only at hw); go_simp) hH ?_
              simp only [List.setIfInBounds_toArray, List.set_cons_zero, List.set_cons_succ]
              refine takeH 30 264 (.bool false) rfl (by kernel_rfl) (by kernel_rfl) (by kernel_rfl) (by kernel_rfl) (fun _ _ _ h => h) (by kernel_rfl) (fun w hw => by (try dsimp only at hw); go_simp) hH ?_
              simp only [List.setIfInBounds_toArray, List.set_cons_zero, List.set_cons_succ]
              refine takeH 31 265 (.bool false) rfl (by kernel_rfl) (by kernel_rfl) (by kernel_rfl) (by kernel_rfl) (fun _ _ _ h => h) (by kernel_rfl) (fun w hw => by kernel_rfl) hH ?_
              simp only [List.setIfInBounds_toArray, List.set_cons_zero, List.set_cons_succ]
              refine wpAnyH_done (by kernel_rfl) ?_ _
              clear hH HSS
              go_wp2
              go_roundw
              case rel => exact ⟨j + 1, by omega, by go_num, HBJ.out.drew⟩
              case measure => (clear HBJ HW7 HWB HN; simp [intOf]; omega)
            · obtain rfl : N = j := by omega
              go_wp2
              go_ret
              exact ⟨rfl, HW7.out.trans (HBJ.out.mono HW7.out.size)⟩
end Go.Proofs.Ytochgjajlojfeaa
