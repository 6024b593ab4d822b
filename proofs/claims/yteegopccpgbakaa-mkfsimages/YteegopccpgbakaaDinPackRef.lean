/-
  PackInode of the reference.
-/
import Derived.Test.YteegopccpgbakaaDinAlive
namespace Go.Proofs.Yteegopccpgbakaa
open Go Go.Proofs Go.RowKit Go.Shelf
namespace Din
/-- What the reference asks ahead of the direct ones. -/
def preB (l : List Int) : Bool := decide (0 ≤ l.getD 0 0) && (decide (l.getD 0 0 ≤ 2) && ((!decide (l.getD 0 0 = 0) || eqB l (zeros 13)) && (fitB 65535 (l.getD 1 0) && (fitB 4294967295 (l.getD 2 0) && (fitB 4294967295 (l.getD 11 0) && fitB 4294967295 (l.getD 12 0))))))
def dirL (l : List Int) : List Int := (l.drop 3).take 8
theorem kind_iff (k : Int) : kindB k = (decide (0 ≤ k) && decide (k ≤ 2)) := by
  rw [Bool.eq_iff_iff]
  simp [kindB]
  omega
theorem fit_low (k : Int) (h : decide (0 ≤ k) = true) (h2 : decide (k ≤ 2) = true) : fitB 65535 k = true := by
  simp at h h2
  exact fitB_iff.2 (by omega)
theorem fine_pre (l : List Int) (hl : l.length = 13) : fineL l = (preB l && fitL 4294967295 (dirL l)) := by
  have h1 : fitL 65535 (halfL l) = (fitB 65535 (l.getD 0 0) && fitB 65535 (l.getD 1 0)) := by simp [fitL, halfL]
  have h2 : fitL 4294967295 (l.drop 2) = (fitB 4294967295 (l.getD 2 0) && (fitL 4294967295 (dirL l) && (fitB 4294967295 (l.getD 11 0) && fitB 4294967295 (l.getD 12 0)))) := by
    obtain ⟨a0, a1, a2, a3, a4, a5, a6, a7, a8, a9, a10, a11, a12, rfl⟩ := list13 l hl
    simp [fitL, dirL, Bool.and_assoc]
  unfold fineL preB
  rw [h1, h2, kind_iff]
  cases e0 : decide (0 ≤ l.getD 0 0) with
  | false => rfl
  | true =>
    cases e1 : decide (l.getD 0 0 ≤ 2) with
    | false => rfl
    | true =>
      rw [fit_low _ e0 e1]
      generalize fitB 65535 (l.getD 1 0) = x1
      generalize fitB 4294967295 (l.getD 2 0) = x2
      generalize fitL 4294967295 (dirL l) = x3
      generalize fitB 4294967295 (l.getD 11 0) = x4
      generalize fitB 4294967295 (l.getD 12 0) = x5
      generalize (!decide (l.getD 0 0 = 0) || eqB l (zeros 13)) = x6
      cases x1 <;> cases x2 <;> cases x3 <;> cases x4 <;> cases x5 <;> cases x6 <;> rfl
theorem pre_parts {l : List Int} (h : preB l = true) : (0 ≤ l.getD 0 0 ∧ l.getD 0 0 ≤ 2) ∧ (0 ≤ l.getD 1 0 ∧ l.getD 1 0 ≤ 65535) ∧ (0 ≤ l.getD 2 0 ∧ l.getD 2 0 ≤ 4294967295) ∧ (0 ≤ l.getD 11 0 ∧ l.getD 11 0 ≤ 4294967295) ∧ (0 ≤ l.getD 12 0 ∧ l.getD 12 0 ≤ 4294967295) := by
  unfold preB at h
  simp only [Bool.and_eq_true, decide_eq_true_eq, fitB_iff] at h
  exact ⟨⟨h.1, h.2.1⟩, h.2.2.2.1, h.2.2.2.2.1, h.2.2.2.2.2.1, h.2.2.2.2.2.2⟩
theorem ino_parts (l : List Int) (hl : l.length = 13) : ((leL (l.getD 0 0) 2 ++ leL (l.getD 1 0) 2 ++ leL (l.getD 2 0) 4) ++ leLs 4 (dirL l) ++ leL (l.getD 11 0) 4 ++ leL (l.getD 12 0) 4) ++ zeros 16 = inoL l := by
  obtain ⟨a0, a1, a2, a3, a4, a5, a6, a7, a8, a9, a10, a11, a12, rfl⟩ := list13 l hl
  simp [inoL, halfL, leLs, dirL]
theorem dir_at (l : List Int) (k : Nat) (hk : k < 8) : (dirL l).getD k 0 = l.getD (3 + k) 0 := by
  simp [dirL, List.getD, hk]
theorem dir_length (l : List Int) (hl : l.length = 13) : (dirL l).length = 8 := by simp [dirL, hl]
set_option maxRecDepth 100000 in
set_option maxHeartbeats 8000000 in
theorem rpack_any (w : World) (l : List Int) (hl : l.length = 13) : Calls Try.prog 19 #[inoV l] w fun e w' => Below w.heap.size w w' ∧ ((fineL l = false ∧ e = .returned (.tuple #[.slice none 0 0, .bool false])) ∨
    (fineL l = true ∧ ∃ v', e = .returned (.tuple #[v', .bool true]) ∧ w'.ownsRow w.heap.size 5 1 v' 64 (By (inoL l)))) := by
  obtain ⟨W1, hW1⟩ : ∃ W1, W1 = w.alloc (.cells (Iy l).toArray 45) := ⟨_, rfl⟩
  have hB1 : Below w.heap.size w W1 := by rw [hW1]; exact (Below.refl _ w).alloc (Nat.le_refl _) _
  have hN1 : NAt w.heap.size l W1 := by rw [hW1]; exact NAt.new w l
  obtain ⟨b, hb⟩ : ∃ b, b = w.heap.size := ⟨_, rfl⟩
  rw [← hb] at hN1 hB1 ⊢
  have HW1 := Hid.mk hW1
  have HBE := Hid.mk hb
  clear hW1 hb
  have HN1 := Hid.mk hN1
  have HB1 := Hid.mk hB1
  have HPRE : Hid (preB l = preB l) := Hid.mk rfl
  have HC : Hid (∀ W', NAt b l W' → W'.cell? ⟨b, 0, none⟩ = some (.int .i64 (l.getD 0 0)) ∧ W'.cell? ⟨b, 1, none⟩ = some (.int .i64 (l.getD 1 0)) ∧ W'.cell? ⟨b, 2, none⟩ = some (.int .i64 (l.getD 2 0)) ∧ W'.cell? ⟨b, 11, none⟩ = some (.int .i64 (l.getD 11 0)) ∧ W'.cell? ⟨b, 12, none⟩ = some (.int .i64 (l.getD 12 0))) := Hid.mk (fun W' h => ⟨h.cell 0 (by omega), h.cell 1 (by omega), h.cell 2 (by omega), h.cell 11 (by omega), h.cell 12 (by omega)⟩)
  have HFP := Hid.mk (fine_pre l hl)
  have HPP : Hid (preB l = true → _) := Hid.mk (pre_parts (l := l))
  have HIP := Hid.mk (ino_parts l hl)
  have HPD : Hid (preB l = (decide (0 ≤ l.getD 0 0) && (decide (l.getD 0 0 ≤ 2) && ((!decide (l.getD 0 0 = 0) || eqB l (zeros 13)) && (fitB 65535 (l.getD 1 0) && (fitB 4294967295 (l.getD 2 0) && (fitB 4294967295 (l.getD 11 0) && fitB 4294967295 (l.getD 12 0)))))))) := Hid.mk rfl
  clear hN1 hB1 HPRE
  have HZ : Hid (eqB l (zeros 13) = true → l.getD 1 0 = 0 ∧ l.getD 2 0 = 0 ∧ l.getD 11 0 = 0 ∧ l.getD 12 0 = 0) := Hid.mk (fun h => by
    have e : l = zeros 13 := by simpa [eqB] using h
    rw [e]
    exact ⟨rfl, rfl, rfl, rfl⟩)
  generalize l.getD 0 0 = K at *
  generalize l.getD 1 0 = L at *
  generalize l.getD 2 0 = S at *
  generalize l.getD 11 0 = G at *
  generalize l.getD 12 0 = D at *
  obtain ⟨c0, c1, c2, c11, c12⟩ := HC.out W1 HN1.out
  go_enter Try.func19, Try.ntmps19
  go_upto_region 1 with (refine wpL_box (.tmp 0) rfl rfl l rfl ?_)
  rw [← HBE.out, ← HW1.out]
  go_cut [47] from 6 to 46 (fun v wx => v = .bool (!preB l) ∧ wx = W1)
  case first =>
    by_cases k0 : K < 0
    · have HV : Hid (preB l = false) := Hid.mk (by rw [HPD.out, decide_eq_false (show ¬ 0 ≤ K by omega)]; rfl)
      go_wp2_with fail
      go_meet
      case rel => exact ⟨by rw [HV.out]; rfl, rfl⟩
    · have d0 : decide (0 ≤ K) = true := decide_eq_true (by omega)
      by_cases k2 : 2 < K
      · have HV : Hid (preB l = false) := Hid.mk (by rw [HPD.out, d0, decide_eq_false (show ¬ K ≤ 2 by omega)]; rfl)
        clear d0
        go_wp2_with fail
        go_meet
        case rel => exact ⟨by rw [HV.out]; rfl, rfl⟩
      · have d2 : decide (K ≤ 2) = true := decide_eq_true (by omega)
        by_cases kz : K = 0
        · subst kz
          cases he : eqB l (zeros 13) with
          | false =>
            have HV : Hid (preB l = false) := Hid.mk (by rw [HPD.out, he]; rfl)
            have HE := Hid.mk he
            clear he d0 d2
            go_wp2_with (first
              | (refine wpL_load (.tmp 1) rfl rfl b l rfl HN1.out hl ?_)
              | (refine wpL_build rfl rfl ?_)
              | (refine wpL_neq (.tmp 19) (.tmp 20) 45 rfl rfl l (zeros 13) false HE.out rfl rfl hl (zeros_length 13) ?_))
            go_meet
            case rel => exact ⟨by rw [HV.out]; rfl, rfl⟩
          | true =>
            obtain ⟨rfl, rfl, rfl, rfl⟩ := HZ.out he
            have HV : Hid (preB l = true) := Hid.mk (by rw [HPD.out, he]; decide)
            have HE := Hid.mk he
            have HF2 : Hid (fitB 65535 0 = true) := Hid.mk (by decide)
            have HF4 : Hid (fitB 4294967295 0 = true) := Hid.mk (by decide)
            clear he d0 d2
            go_wp2_with (first
              | (refine wpL_load (.tmp 1) rfl rfl b l rfl HN1.out hl ?_)
              | (refine wpL_build rfl rfl ?_)
              | (refine wpL_neq (.tmp 19) (.tmp 20) 45 rfl rfl l (zeros 13) true HE.out rfl rfl hl (zeros_length 13) ?_)
              | (go_at_call 38; have hF := HF2.out; refine (rfits2_any _ 0).mono ?_; rintro e w3 ⟨rfl, hw⟩; subst w3; rw [hF]; clear hF HF2)
              | (go_at_call 38; refine (rfits4_any _ 0).mono ?_; rintro e w3 ⟨rfl, hw⟩; subst w3; rw [HF4.out]))
            go_meet
            case rel => exact ⟨by rw [HV.out]; rfl, rfl⟩
        · have bz : (K == 0) = false := by simp [kz]
          have hpd : preB l = (fitB 65535 L && (fitB 4294967295 S && (fitB 4294967295 G && fitB 4294967295 D))) := by rw [HPD.out, d0, d2, decide_eq_false kz]; rfl
          have HPE := Hid.mk hpd
          clear hpd d0 d2
          cases f1 : fitB 65535 L with
          | false =>
            have HV : Hid (preB l = false) := Hid.mk (by rw [HPE.out, f1]; rfl)
            have F1 := Hid.mk f1
            clear f1
            go_wp2_with (first
              | (go_at_call 38; have hF := F1.out; refine (rfits2_any _ L).mono ?_; rintro e w3 ⟨rfl, hw⟩; subst w3; rw [hF]; clear hF F1))
            go_meet
            case rel => exact ⟨by rw [HV.out]; rfl, rfl⟩
          | true =>
            have F1 := Hid.mk f1
            clear f1
            cases f2 : fitB 4294967295 S with
            | false =>
              have HV : Hid (preB l = false) := Hid.mk (by rw [HPE.out, F1.out, f2]; rfl)
              have F2 := Hid.mk f2
              clear f2
              go_wp2_with (first
                | (go_at_call 38; have hF := F1.out; refine (rfits2_any _ L).mono ?_; rintro e w3 ⟨rfl, hw⟩; subst w3; rw [hF]; clear hF F1)
                | (go_at_call 38; have hF := F2.out; refine (rfits4_any _ S).mono ?_; rintro e w3 ⟨rfl, hw⟩; subst w3; rw [hF]; clear hF F2))
              go_meet
              case rel => exact ⟨by rw [HV.out]; rfl, rfl⟩
            | true =>
              have F2 := Hid.mk f2
              clear f2
              cases f3 : fitB 4294967295 G with
              | false =>
                have HV : Hid (preB l = false) := Hid.mk (by rw [HPE.out, F1.out, F2.out, f3]; rfl)
                have F3 := Hid.mk f3
                clear f3
                go_wp2_with (first
                  | (go_at_call 38; have hF := F1.out; refine (rfits2_any _ L).mono ?_; rintro e w3 ⟨rfl, hw⟩; subst w3; rw [hF]; clear hF F1)
                  | (go_at_call 38; have hF := F2.out; refine (rfits4_any _ S).mono ?_; rintro e w3 ⟨rfl, hw⟩; subst w3; rw [hF]; clear hF F2)
                  | (go_at_call 38; have hF := F3.out; refine (rfits4_any _ G).mono ?_; rintro e w3 ⟨rfl, hw⟩; subst w3; rw [hF]; clear hF F3))
                go_meet
                case rel => exact ⟨by rw [HV.out]; rfl, rfl⟩
              | true =>
                have F3 := Hid.mk f3
                clear f3
                cases f4 : fitB 4294967295 D with
                | false =>
                  have HV : Hid (preB l = false) := Hid.mk (by rw [HPE.out, F1.out, F2.out, F3.out, f4]; rfl)
                  have F4 := Hid.mk f4
                  clear f4
                  go_wp2_with (first
                    | (go_at_call 38; have hF := F1.out; refine (rfits2_any _ L).mono ?_; rintro e w3 ⟨rfl, hw⟩; subst w3; rw [hF]; clear hF F1)
                    | (go_at_call 38; have hF := F2.out; refine (rfits4_any _ S).mono ?_; rintro e w3 ⟨rfl, hw⟩; subst w3; rw [hF]; clear hF F2)
                    | (go_at_call 38; have hF := F3.out; refine (rfits4_any _ G).mono ?_; rintro e w3 ⟨rfl, hw⟩; subst w3; rw [hF]; clear hF F3)
                    | (go_at_call 38; have hF := F4.out; refine (rfits4_any _ D).mono ?_; rintro e w3 ⟨rfl, hw⟩; subst w3; rw [hF]; clear hF F4))
                  go_meet
                  case rel => exact ⟨by rw [HV.out]; rfl, rfl⟩
                | true =>
                  have F4 := Hid.mk f4
                  clear f4
                  have HV : Hid (preB l = true) := Hid.mk (by rw [HPE.out, F1.out, F2.out, F3.out, F4.out]; rfl)
                  go_wp2_with (first
                    | (go_at_call 38; have hF := F1.out; refine (rfits2_any _ L).mono ?_; rintro e w3 ⟨rfl, hw⟩; subst w3; rw [hF]; clear hF F1)
                    | (go_at_call 38; have hF := F2.out; refine (rfits4_any _ S).mono ?_; rintro e w3 ⟨rfl, hw⟩; subst w3; rw [hF]; clear hF F2)
                    | (go_at_call 38; have hF := F3.out; refine (rfits4_any _ G).mono ?_; rintro e w3 ⟨rfl, hw⟩; subst w3; rw [hF]; clear hF F3)
                    | (go_at_call 38; have hF := F4.out; refine (rfits4_any _ D).mono ?_; rintro e w3 ⟨rfl, hw⟩; subst w3; rw [hF]; clear hF F4))
                  go_meet
                  case rel => exact ⟨by rw [HV.out]; rfl, rfl⟩
  case rest =>
    obtain ⟨rfl, hwc⟩ := hcut
    subst hwc
    cases hpre : preB l with
    | false =>
      have HD := Hid.mk (show fineL l = false by rw [HFP.out, hpre]; rfl)
      clear hpre
      go_wp2_with fail
      go_ret2
      exact ⟨HB1.out, .inl ⟨HD.out, rfl⟩⟩
    | true =>
      obtain ⟨⟨k0, k2⟩, ⟨l0, l1⟩, ⟨s0, s1⟩, ⟨g0, g1⟩, ⟨d0, d1⟩⟩ := HPP.out hpre
      have HFE : Hid (fineL l = fitL 4294967295 (dirL l)) := Hid.mk (by rw [HFP.out, hpre]; rfl)
      obtain ⟨B, hB⟩ : ∃ B, B = wc.heap.size := ⟨_, rfl⟩
      have hbB : b < B := by rw [hB]; exact HN1.out.lt
      have HBs : Hid (B ≤ wc.heap.size) := Hid.mk (by omega)
      have HDL := Hid.mk (dir_length l hl)
      have HDA := Hid.mk (dir_at l)
      rw [Bool.not_true]
      clear hpre HFP HPP hB c0 c1 c2 c11 c12 HZ HPD
      go_wp2_with fail
      refine wp_region_held_drew (S := NAt b l) (by kernel_rfl) HN1.out (fun hH => ?_)
      change wpAnyH Try.prog Region.Mode.any _ _ _ 10 _ _ _
      refine takeH 0 48 (.pointer (some ⟨b, 0, none⟩)) rfl (by kernel_rfl) (by kernel_rfl) (by kernel_rfl) (by kernel_rfl) (fun _ _ _ h => h) (by kernel_rfl) (fun w hw => by (try dsimp only at hw); go_simp) hH ?_
      simp only [List.setIfInBounds_toArray, List.set_cons_zero, List.set_cons_succ]
      refine takeH 1 49 (.int .i64 K) rfl (by kernel_rfl) (by kernel_rfl) (by kernel_rfl) (by kernel_rfl) (fun _ _ _ h => h) (by kernel_rfl) (fun w hw => by (have h := HC.out _ hw; obtain ⟨e0, e1, e2, e11, e12⟩ := h; go_simp)) hH ?_
      simp only [List.setIfInBounds_toArray, List.set_cons_zero, List.set_cons_succ]
      refine takeH 3 51 (.pointer (some ⟨b, 1, none⟩)) rfl (by kernel_rfl) (by kernel_rfl) (by kernel_rfl) (by kernel_rfl) (fun _ _ _ h => h) (by kernel_rfl) (fun w hw => by (try dsimp only at hw); go_simp) hH ?_
      simp only [List.setIfInBounds_toArray, List.set_cons_zero, List.set_cons_succ]
      refine takeH 4 52 (.int .i64 L) rfl (by kernel_rfl) (by kernel_rfl) (by kernel_rfl) (by kernel_rfl) (fun _ _ _ h => h) (by kernel_rfl) (fun w hw => by (have h := HC.out _ hw; obtain ⟨e0, e1, e2, e11, e12⟩ := h; go_simp)) hH ?_
      simp only [List.setIfInBounds_toArray, List.set_cons_zero, List.set_cons_succ]
      refine takeH 6 54 (.pointer (some ⟨b, 2, none⟩)) rfl (by kernel_rfl) (by kernel_rfl) (by kernel_rfl) (by kernel_rfl) (fun _ _ _ h => h) (by kernel_rfl) (fun w hw => by (try dsimp only at hw); go_simp) hH ?_
      simp only [List.setIfInBounds_toArray, List.set_cons_zero, List.set_cons_succ]
      refine takeH 7 55 (.int .i64 S) rfl (by kernel_rfl) (by kernel_rfl) (by kernel_rfl) (by kernel_rfl) (fun _ _ _ h => h) (by kernel_rfl) (fun w hw => by (have h := HC.out _ hw; obtain ⟨e0, e1, e2, e11, e12⟩ := h; go_simp)) hH ?_
      simp only [List.setIfInBounds_toArray, List.set_cons_zero, List.set_cons_succ]
      have HB0 : Hid (Below B wc.drew wc.drew) := Hid.mk (Below.refl _ _)
      have HBd : Hid (B ≤ wc.drew.heap.size) := HBs
      refine stepH_call 2 50 rfl (by kernel_rfl) (by kernel_rfl) (by kernel_rfl) 31 #[.const (.slice none 0 0), .tmp 49, .const (.int .i64 2)] #[26, 3, 3] (by kernel_rfl) (enters_of Try.func31 (by kernel_rfl) rfl) #[.slice none 0 0, .int .i64 K, .int .i64 2] (by kernel_rfl) (rput_any wc.drew B (.slice none 0 0) 0 2 [] K (.inl (World.ownsRow_nil wc.drew B 5 1)) HBd.out (by omega) (by omega) (by omega) (by omega) (by omega)) ?_
      rintro e Wa ⟨va, rfl, ho, hb⟩
      have HOa := Hid.mk ho
      have HBWa := Hid.mk (HB0.out.trans hb)
      clear ho hb
      have hNWa : NAt b l Wa := NAt.below (W := wc.drew) HN1.out HBWa.out hbB
      refine ⟨_, rfl, hNWa, ?_⟩
      simp only [List.setIfInBounds_toArray, List.set_cons_zero, List.set_cons_succ]
      refine stepH_call 5 53 rfl (by kernel_rfl) (by kernel_rfl) (by kernel_rfl) 31 #[.tmp 50, .tmp 52, .const (.int .i64 2)] #[26, 3, 3] (by kernel_rfl) (enters_of Try.func31 (by kernel_rfl) rfl) #[va, .int .i64 L, .int .i64 2] (by kernel_rfl) (rput_any Wa B va 2 2 _ L (.inl HOa.out) (Nat.le_trans HBd.out HBWa.out.size) (by omega) (by omega) (by omega) (by omega) (by omega)) ?_
      rintro e Wb ⟨vb, rfl, ho, hb⟩
      have HOb := Hid.mk ho
      have HBWb := Hid.mk (HBWa.out.trans hb)
      clear ho hb
      have hNWb : NAt b l Wb := NAt.below (W := wc.drew) HN1.out HBWb.out hbB
      refine ⟨_, rfl, hNWb, ?_⟩
      simp only [List.setIfInBounds_toArray, List.set_cons_zero, List.set_cons_succ]
      refine stepH_call 8 56 rfl (by kernel_rfl) (by kernel_rfl) (by kernel_rfl) 31 #[.tmp 53, .tmp 55, .const (.int .i64 4)] #[26, 3, 3] (by kernel_rfl) (enters_of Try.func31 (by kernel_rfl) rfl) #[vb, .int .i64 S, .int .i64 4] (by kernel_rfl) (rput_any Wb B vb 4 4 _ S (.inl HOb.out) (Nat.le_trans HBd.out HBWb.out.size) (by omega) (by omega) (by omega) (by omega) (by omega)) ?_
      rintro e Wd ⟨vd, rfl, ho, hb⟩
      have HOd := Hid.mk ho
      have HBWd := Hid.mk (HBWb.out.trans hb)
      clear ho hb
      have hNWd : NAt b l Wd := NAt.below (W := wc.drew) HN1.out HBWd.out hbB
      refine ⟨_, rfl, hNWd, ?_⟩
      simp only [List.setIfInBounds_toArray, List.set_cons_zero, List.set_cons_succ]
      refine takeH 9 4 (vd) rfl (by kernel_rfl) (by kernel_rfl) (by kernel_rfl) (by kernel_rfl) (fun _ _ _ h => h) (by kernel_rfl) (fun w hw => by kernel_rfl) hNWd ?_
      simp only [List.setIfInBounds_toArray, List.set_cons_zero, List.set_cons_succ]
      refine wpAnyH_done (by kernel_rfl) ?_ _
      have HO : Hid (Wd.ownsRow B 5 1 vd (8 + 4 * 0) (By (leL K 2 ++ leL L 2 ++ leL S 4 ++ leLs 4 ((dirL l).take 0)))) := Hid.mk (by have h := HOd.out; simpa [leLs] using h)
      have HBB : Hid (Below b w Wd) := Hid.mk (HB1.out.drew.trans (HBWd.out.mono (by omega)))
      have HND := Hid.mk hNWd
      have HSD : Hid (B ≤ Wd.heap.size) := Hid.mk (Nat.le_trans HBd.out HBWd.out.size)
      clear hH HOa HOb HOd HBWa HBWb HBWd hNWa hNWb hNWd HB0 HBd
      go_wp2_with fail
      go_loopw [4, 5] (fun bv i wr => ∃ k : Nat, k ≤ 8 ∧ i = .int .i64 k ∧ wr.ownsRow B 5 1 bv (8 + 4 * k) (By (leL K 2 ++ leL L 2 ++ leL S 4 ++ leLs 4 ((dirL l).take k))) ∧ NAt b l wr ∧ Below b w wr ∧ B ≤ wr.heap.size ∧ ∀ j, j < k → fitB 4294967295 ((dirL l).getD j 0) = true) (fun _ i _ => 8 - (intOf i).toNat)
      case atStart => exact ⟨0, by omega, rfl, HO.out, HND.out, HBB.out, HSD.out, fun j hj => by omega⟩
      case round =>
        obtain ⟨k, hk, rfl, ho, hN, hBw, hs, hall⟩ := hrel
        have HO2 := Hid.mk ho
        have HN2 := Hid.mk hN
        have HB2 := Hid.mk hBw
        have HS2 := Hid.mk hs
        have HA := Hid.mk hall
        clear ho hN hBw hs hall HO HND HBB HSD
        by_cases hlt : k < 8
        · have hc := HN2.out.cell (3 + k) (by omega)
          rw [← HDA.out k hlt] at hc
          cases hf : fitB 4294967295 ((dirL l).getD k 0) with
          | false =>
            have HD := Hid.mk (show fineL l = false by rw [HFE.out]; exact fitL_no (by rw [HDL.out]; exact hlt) hf)
            have HF := Hid.mk hf
            clear hf
            generalize (dirL l).getD k 0 = x at *
            go_wp2_with (go_at_call 38; refine (rfits4_any _ x).mono ?_; rintro e w3 ⟨rfl, hw⟩; subst w3; rw [HF.out])
            go_ret2
            exact ⟨HB2.out, .inl ⟨HD.out, rfl⟩⟩
          | true =>
            have hxb := fitB_iff.1 hf
            have HA2 : Hid (∀ j, j < k + 1 → fitB 4294967295 ((dirL l).getD j 0) = true) := Hid.mk (fun j hj => by
              rcases Nat.lt_or_ge j k with h | h
              · exact HA.out j h
              · obtain rfl : j = k := by omega
                exact hf)
            have HF := Hid.mk hf
            have HT := Hid.mk (take_snoc (dirL l) k (by rw [HDL.out]; exact hlt))
            clear hf
            generalize (dirL l).getD k 0 = x at *
            have HPT := Hid.mk (rput_any wr B _ (8 + 4 * k) 4 _ x (.inl HO2.out) HS2.out (by omega) (by omega) (by omega) (by omega) (by omega))
            go_wp2_with (first
              | (go_at_call 38; refine (rfits4_any _ x).mono ?_; rintro e w3 ⟨rfl, hw⟩; subst w3; rw [HF.out])
              | (go_at_call 31; refine HPT.out.mono ?_; rintro e w4 ⟨v4, rfl, ho4, hb4⟩; have HO4 := Hid.mk ho4; have HN4 := Hid.mk (HN2.out.below hb4 hbB); have HB4 := Hid.mk (HB2.out.trans (hb4.mono (by omega))); have HS4 := Hid.mk (Nat.le_trans HS2.out hb4.size); clear ho4 hb4))
            go_roundw
            case rel => exact ⟨k + 1, by omega, by go_num, by rw [HT.out, leLs_snoc, ← List.append_assoc]; exact HO4.out, HN4.out, HB4.out, HS4.out, HA2.out⟩
            case measure => simp [intOf]; omega
        · have hge : (8 : Int) ≤ k := by omega
          obtain rfl : k = 8 := by omega
          have HD := Hid.mk (show fineL l = true by rw [HFE.out]; exact fitL_all (by rw [HDL.out]; exact HA.out))
          have HT := Hid.mk (List.take_of_length_le (l := dirL l) (i := 8) (by rw [HDL.out]; omega))
          rw [HT.out] at HO2
          go_wp2_with fail
          refine wp_region_held_drew (S := NAt b l) (by kernel_rfl) HN2.out (fun hH => ?_)
          change wpAnyH Try.prog Region.Mode.any _ _ _ 10 _ _ _
          have HB0 : Hid (Below B wr.drew wr.drew) := Hid.mk (Below.refl _ _)
          have HBd : Hid (B ≤ wr.drew.heap.size) := HS2
          refine takeH 0 73 (u4) rfl (by kernel_rfl) (by kernel_rfl) (by kernel_rfl) (by kernel_rfl) (fun _ _ _ h => h) (by kernel_rfl) (fun w hw => by kernel_rfl) hH ?_
          simp only [List.setIfInBounds_toArray, List.set_cons_zero, List.set_cons_succ]
          refine takeH 1 74 (.pointer (some ⟨b, 11, none⟩)) rfl (by kernel_rfl) (by kernel_rfl) (by kernel_rfl) (by kernel_rfl) (fun _ _ _ h => h) (by kernel_rfl) (fun w hw => by (try dsimp only at hw); go_simp) hH ?_
          simp only [List.setIfInBounds_toArray, List.set_cons_zero, List.set_cons_succ]
          refine takeH 2 75 (.int .i64 G) rfl (by kernel_rfl) (by kernel_rfl) (by kernel_rfl) (by kernel_rfl) (fun _ _ _ h => h) (by kernel_rfl) (fun w hw => by (have h := HC.out _ hw; obtain ⟨e0, e1, e2, e11, e12⟩ := h; go_simp)) hH ?_
          simp only [List.setIfInBounds_toArray, List.set_cons_zero, List.set_cons_succ]
          refine takeH 4 77 (.pointer (some ⟨b, 12, none⟩)) rfl (by kernel_rfl) (by kernel_rfl) (by kernel_rfl) (by kernel_rfl) (fun _ _ _ h => h) (by kernel_rfl) (fun w hw => by (try dsimp only at hw); go_simp) hH ?_
          simp only [List.setIfInBounds_toArray, List.set_cons_zero, List.set_cons_succ]
          refine takeH 5 78 (.int .i64 D) rfl (by kernel_rfl) (by kernel_rfl) (by kernel_rfl) (by kernel_rfl) (fun _ _ _ h => h) (by kernel_rfl) (fun w hw => by (have h := HC.out _ hw; obtain ⟨e0, e1, e2, e11, e12⟩ := h; go_simp)) hH ?_
          simp only [List.setIfInBounds_toArray, List.set_cons_zero, List.set_cons_succ]
          refine stepH_call 3 76 rfl (by kernel_rfl) (by kernel_rfl) (by kernel_rfl) 31 #[.tmp 73, .tmp 75, .const (.int .i64 4)] #[26, 3, 3] (by kernel_rfl) (enters_of Try.func31 (by kernel_rfl) rfl) #[u4, .int .i64 G, .int .i64 4] (by kernel_rfl) (rput_any wr.drew B u4 40 4 _ G (.inl HO2.out) HBd.out (by omega) (by omega) (by omega) (by omega) (by omega)) ?_
          rintro e We ⟨ve, rfl, ho, hb⟩
          have HOe := Hid.mk ho
          have HBWe := Hid.mk (HB0.out.trans hb)
          clear ho hb
          have hNWe : NAt b l We := NAt.below (W := wr.drew) HN2.out HBWe.out hbB
          refine ⟨_, rfl, hNWe, ?_⟩
          simp only [List.setIfInBounds_toArray, List.set_cons_zero, List.set_cons_succ]
          refine stepH_call 6 79 rfl (by kernel_rfl) (by kernel_rfl) (by kernel_rfl) 31 #[.tmp 76, .tmp 78, .const (.int .i64 4)] #[26, 3, 3] (by kernel_rfl) (enters_of Try.func31 (by kernel_rfl) rfl) #[ve, .int .i64 D, .int .i64 4] (by kernel_rfl) (rput_any We B ve 44 4 _ D (.inl HOe.out) (Nat.le_trans HBd.out HBWe.out.size) (by omega) (by omega) (by omega) (by omega) (by omega)) ?_
          rintro e Wf ⟨vf, rfl, ho, hb⟩
          have HOf := Hid.mk ho
          have HBWf := Hid.mk (HBWe.out.trans hb)
          clear ho hb
          have hNWf : NAt b l Wf := NAt.below (W := wr.drew) HN2.out HBWf.out hbB
          refine ⟨_, rfl, hNWf, ?_⟩
          simp only [List.setIfInBounds_toArray, List.set_cons_zero, List.set_cons_succ]
          refine stepH_call 7 80 rfl (by kernel_rfl) (by kernel_rfl) (by kernel_rfl) 32 #[.tmp 79, .const (.int .i64 64)] #[26, 3] (by kernel_rfl) (enters_of Try.func32 (by kernel_rfl) rfl) #[vf, .int .i64 64] (by kernel_rfl) (fill_any Wf B vf 48 64 _ HOf.out (Nat.le_trans HBd.out HBWf.out.size) (by omega) (by omega)) ?_
          rintro e Wg ⟨vg, rfl, ho, hb⟩
          have HOg := Hid.mk ho
          have HBWg := Hid.mk (HBWf.out.trans hb)
          clear ho hb
          have hNWg : NAt b l Wg := NAt.below (W := wr.drew) HN2.out HBWg.out hbB
          refine ⟨_, rfl, hNWg, ?_⟩
          simp only [List.setIfInBounds_toArray, List.set_cons_zero, List.set_cons_succ]
          refine takeH 8 2 (vg) rfl (by kernel_rfl) (by kernel_rfl) (by kernel_rfl) (by kernel_rfl) (fun _ _ _ h => h) (by kernel_rfl) (fun w hw => by kernel_rfl) hNWg ?_
          simp only [List.setIfInBounds_toArray, List.set_cons_zero, List.set_cons_succ]
          refine takeH 9 3 (.bool true) rfl (by kernel_rfl) (by kernel_rfl) (by kernel_rfl) (by kernel_rfl) (fun _ _ _ h => h) (by kernel_rfl) (fun w hw => by kernel_rfl) hNWg ?_
          simp only [List.setIfInBounds_toArray, List.set_cons_zero, List.set_cons_succ]
          refine wpAnyH_done (by kernel_rfl) ?_ _
          have HFIN : Hid (Below b w Wg) := Hid.mk (HB2.out.drew.trans (HBWg.out.mono (by omega)))
          have HOW : Hid (Wg.ownsRow b 5 1 vg 64 (By (inoL l))) := Hid.mk (owns_base (by have h := HOg.out; rwa [HIP.out] at h) (Nat.le_of_lt hbB))
          clear hH HOe HOf HOg HBWe HBWf HBWg hNWe hNWf hNWg HB0 HBd
          go_wp2_with fail
          go_ret2
          exact ⟨HFIN.out, .inr ⟨HD.out, vg, rfl, HOW.out⟩⟩
end Din
end Go.Proofs.Yteegopccpgbakaa
