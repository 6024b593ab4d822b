/-
  image: the walk.
-/
import Derived.Test.YtejnmpnioeamhaaGreatWhImg3
namespace Go.Proofs.YtejnmpnioeamhaaGreat
open Go Go.Proofs Go.RowKit Go.Shelf
namespace Mk
open Sup (superL headL maskL nI nD bD)
open Din (inoL fineL inoV NAt)
open Ent (blockL okB EAt Ey entV noS noE)
set_option maxRecDepth 100000 in
set_option maxHeartbeats 16000000 in
theorem image_root (n : Nat) (G I D : Int) (hg : good G I D = true) (xs : List Int) (hx : ImgIs G I D xs) (hn : n = totN G I D * 1024) : ImgYes n G I D xs := by
  have hb := good_iff.1 hg
  obtain ⟨N, rfl⟩ : ∃ N : Nat, G = (N : Int) := ⟨G.toNat, by omega⟩
  obtain ⟨d, rfl⟩ : ∃ d : Nat, D = (d : Int) := ⟨D.toNat, by omega⟩
  obtain ⟨b1, b2, b3'⟩ := blk_is hg
  obtain ⟨i1, i2, i3⟩ := ino_is hg
  obtain ⟨-, t2, t3, -⟩ := tot_is hg
  have hxl := hx.len
  rw [← hn] at t3 hxl
  have HPL := Hid.mk (fun ino => ino_place hg hx ino)
  rw [← hn] at HPL
  have HN2 : Hid (((2 + I).toNat + 1) * 1024 ≤ n) := Hid.mk (by have h := (tot_is hg).2.2.2; omega)
  have HFR : Hid (fineL (rootL I) = true) := Hid.mk (fine_root I (by omega) (by omega))
  have HG := Hid.mk hg
  have HX := Hid.mk hx
  have hn0 : 0 < n := by omega
  intro w p t gl c go co gd cd ae cm hdr hea
  obtain ⟨z, hz⟩ : ∃ z : Nat, (2 + I) = (z : Int) := ⟨(2 + I).toNat, by omega⟩
  have HZ := Hid.mk hz
  have HZN : Hid ((2 + I).toNat = z) := Hid.mk (by omega)
  have hz3 : z * 1024 + 1024 ≤ n := by have := HN2.out; omega
  have HHD : Hid (∀ k : Nat, k < N → hdI N I d k = ((1 + k * perN I d : Nat) : Int) ∧ (1 + k * perN I d) * 1024 + 1024 ≤ n ∧ piece xs ((1 + k * perN I d) * 1024) 1024 = headL k I d (onL k) (onL k)) := Hid.mk (fun k hk => by
    have hk2 : (k : Int) < (N : Int) := by omega
    refine ⟨(hd_at hg k hk2).2, ?_, hx.head k hk2⟩
    rw [hn]
    have h1 : (k + 1) * perN I d ≤ (N : Int).toNat * perN I d := Nat.mul_le_mul_right _ (by omega)
    have h2 : 1 ≤ perN I d := by unfold perN; omega
    have h3 : (k + 1) * perN I d = k * perN I d + perN I d := Nat.succ_mul _ _
    unfold totN
    omega)
  clear hz
  have HDC : Hid (∀ W, Below w.heap.size w W → DrC p n (blkN N d) (inoN N I + 1) N I d t gl gd (.slice (some ae) 32 cm) W) := Hid.mk (fun W hB => (hdr.new hB).dc (by omega))
  have HEA : Hid (∀ W, Below w.heap.size w W → EAt W (some ae) 32 freeL) := Hid.mk (fun W hB => hea.below hB)
  have hdc := HDC.out w (Below.refl _ _)
  obtain ⟨k0, k1, k2, k3⟩ := hdr.tn.rp.dk.d4
  have r0 := hdc.r0
  have hBA : Below w.heap.size w (w.alloc (.cells #[.int .i64 N, .int .i64 I, .int .i64 d] 23)) := (Below.refl _ w).alloc (Nat.le_refl _) _
  obtain ⟨j0, j1, j2, j3⟩ := (hdr.new hBA).tn.rp.dk.d4
  have s0 := (HDC.out _ hBA).r0
  obtain ⟨m, hm⟩ : ∃ m, m = (d + 7) / 8 := ⟨_, rfl⟩
  have HME : Hid ((m : Int) = ((d : Int) + 7) / 8) := Hid.mk (by omega)
  have hm1 : 1 ≤ m ∧ m ≤ 126 := by omega
  clear hm
  obtain ⟨g4, cap, gi, gt, B, W2, W3, W4, u1, u2, u3, u4, u5, hcap, hig⟩ := image_start w p.g n N I d xs hdr.tn.rp.dk.row hxl hn0 t3 (by omega) _ rfl (fI 1) (fD m 0)
  have HA := Hid.mk u1
  have HM1 := Hid.mk u2
  have HM2 := Hid.mk u3
  have HIG := Hid.mk hig
  obtain ⟨v20, v21, v22⟩ := u4
  obtain ⟨v30, v31, v32⟩ := u5
  generalize blkN N d = nb at *
  generalize inoN N I = ni at *
  clear hdr hea hx hn hg hdc u1 u2 u3 hig hxl t2 b1 i1
  go_enter Tryz.func23, Tryz.ntmps23
  go_wp2_with (first
    | (at_builtin; refine wpList_append_known rfl (.const (.slice none 0 0)) (.tmp 42) 26 rfl _ _ _ _ rfl rfl HA.out ?_)
    | (at_make; refine wpList_make_known rfl (.tmp 45) (.tmp 45) 95 rfl _ _ _ _ rfl rfl HM1.out ?_)
    | (at_make; refine wpList_make_known rfl (.tmp 48) (.tmp 48) 95 rfl _ _ _ _ rfl rfl HM2.out ?_))
  clear k0 k1 k2 k3 r0 j0 j1 j2 j3 s0 hBA v20 v21 v22 v30 v31 v32 HA HM1 HM2
  generalize hb3 : w.heap.size = b3 at *
  go_loopw [7] (fun i wr => ∃ k : Nat, i = .int .i64 (k : Int) ∧ k ≤ N ∧ IgAt w b3 g4 gi gt B n cap N k k N I d xs (fI 1) (fD m 0) wr) (fun i _ => N - (intOf i).toNat)
  case atStart => exact ⟨0, rfl, Nat.zero_le _, HIG.out⟩
  case round =>
    obtain ⟨k, rfl, hk, hig⟩ := hrel
    obtain ⟨c0, c1, c2⟩ := hig.geo.g3
    have HIG2 := Hid.mk hig
    clear hig HIG
    by_cases hlt : k < N
    · obtain ⟨ga, Wa, ra, iga, bga, hBa⟩ := HIG2.out.made 8 (by omega)
      obtain ⟨rb, igb⟩ := iga.puti k hlt ⟨ga, 0, none⟩ 8 8 _ bga hBa (k + 1) (fI 1) (fun i hi => by
        by_cases e : i = k
        · exact .inl ⟨e, by simp [fI]⟩
        · exact .inr ⟨e, by omega, rfl⟩)
      generalize Wa.setCell ⟨gi, k, none⟩ (.slice (some ⟨ga, 0, none⟩) 8 8) = Wb at *
      obtain ⟨gc, Wc, rc, igc, bgc, hBc⟩ := igb.made m (by omega)
      obtain ⟨rd, igd⟩ := igc.putd k hlt ⟨gc, 0, none⟩ m m _ bgc hBc (k + 1) (fD m 0) (fun i hi => by
        by_cases e : i = k
        · exact .inl ⟨e, by simp [fD]⟩
        · exact .inr ⟨e, by omega, rfl⟩)
      generalize Wc.setCell ⟨gt, k, none⟩ (.slice (some ⟨gc, 0, none⟩) m m) = Wd at *
      obtain ⟨e0, e1, e2⟩ := igb.geo.g3
      have HRA := Hid.mk ra
      have HRB0 := Hid.mk rb
      rw [HME.out] at rc
      have HRC := Hid.mk rc
      have HRD0 := Hid.mk rd
      have HIG3 := Hid.mk igd
      clear ra rb rc rd iga igb igc igd bga bgc hBa hBc HIG2
      go_wp2_with (first
        | (at_make; refine wpList_make_known rfl (.const (.int .i64 8)) (.const (.int .i64 8)) 26 rfl _ _ _ _ rfl rfl HRA.out ?_; clear HRA; have HRB := HRB0; clear HRB0)
        | (at_make; refine wpList_make_known rfl (.tmp 65) (.tmp 65) 26 rfl _ _ _ _ rfl rfl HRC.out ?_; clear HRC; have HRD := HRD0; clear HRD0)
        | (have hgd := HRB; refine wpL_put (.tmp 59) (.tmp 58) rfl rfl _ _ Wb rfl rfl HRB.out ?_; clear HRB hgd)
        | (have hgd := HRD; refine wpL_put (.tmp 67) (.tmp 66) rfl rfl _ _ Wd rfl rfl HRD.out ?_; clear HRD hgd))
      go_roundw
      case rel => exact ⟨k + 1, by go_num, by omega, HIG3.out⟩
      case measure => simp [intOf]; omega
    · obtain rfl : N = k := by omega
      go_wp2
      clear c0 c1 c2 hlt hk
      go_loopw [8] (fun i wr => ∃ ino : Nat, i = .int .i64 (ino : Int) ∧ 1 ≤ ino ∧ ino ≤ ni + 1 ∧ IgAt w b3 g4 gi gt B n cap N N N N I d xs (fI ino) (fD m 0) wr) (fun i _ => ni + 1 - (intOf i).toNat)
      case atStart => exact ⟨1, rfl, by omega, by omega, HIG2.out⟩
      case round =>
        obtain ⟨ino, rfl, hi1, hi2, hig⟩ := hrel
        obtain ⟨c0, c1, c2⟩ := hig.geo.g3
        have r2 := (HDC.out _ (by rw [← hb3]; exact hig.below)).r2
        have HIG3 := Hid.mk hig
        clear hig HIG2
        by_cases hlt : ino < ni + 1
        · obtain ⟨a, o, p1, p2, p3, p4, p5, p6, p7, p8⟩ := HPL.out ino hi1 (by omega)
          have HIA : Hid (∀ W, Calls Tryz.prog 39 #[geo N I d, .int .i64 (ino : Int)] W fun e w' => e = .returned (.tuple #[.int .i64 (a : Int), .int .i64 (o : Int), .bool true]) ∧ Below W.heap.size W w') := Hid.mk (fun W => by
            have h := rinodeat_any W N I d ino
            rwa [p1, p2, p3] at h)
          have HP7 := Hid.mk p7
          have HP8 := Hid.mk p8
          clear p1 p2 p3 p7 p8
          by_cases hone : ino = 1
          · have hig1 := HIG3.out
            rw [hone] at hig1
            have HIG5 := Hid.mk hig1
            have HON := Hid.mk hone
            have HGR : Hid (∀ W, Calls Tryz.prog 53 #[geo N I d, .int .i64 (ino : Int)] W fun e w' => ∃ b, e = .returned (.tuple #[.int .i64 0, .int .i64 0, .bool b]) ∧ Below W.heap.size W w') := Hid.mk (fun W => by
              have h := rgroup_any W N I d ino
              obtain ⟨h1, h2⟩ := HP8.out HON.out
              rw [h1, h2] at h
              exact h.mono (fun e w' hh => ⟨_, hh.1, hh.2⟩))
            clear hig1 hone HIG3 HP8
            go_wp2_with (first
              | (go_at_call 39; refine (HIA.out _).mono ?_; rintro e w1 ⟨rfl, hB⟩; have hj1 := HIG5.out.new hB; obtain ⟨X4, b4, ra4, hn4, hB4, hb4⟩ := Din.alloc24_any w1; have hj4 := hj1.new hB4; have hd4 := HDC.out X4 (by rw [← hb3]; exact hj4.below); have q2 := hd4.r2; have qb := hd4.tb ino hlt; rw [if_pos HON.out] at qb; have HQL0 := Hid.mk hd4.ino; obtain ⟨Y4, ry4, hny, hoy⟩ := Din.store24_run (m := rootL I) hn4 rfl rfl; have hjy := hj1.new (hB4.trans (hoy.below hB4.size (fun k e => by rw [e]; exact hb4))); have HBB := Hid.mk (Nat.le_trans hj1.ord.2.2.2.2.2 hb4); clear c0 c1 c2 r2; obtain ⟨c0, c1, c2⟩ := hjy.geo.g3; have HI4 := Hid.mk hjy; have HN4 := Hid.mk hny; have HR4 := Hid.mk ra4; have HRY0 := Hid.mk ry4; clear hB hj1 ra4 hn4 hB4 hj4 hd4 hny hoy hjy ry4 hb4)
              | (have hgd := HR4; refine Din.wpL_alloc rfl rfl _ X4 HR4.out ?_; clear HR4 hgd; have HQL := HQL0; clear HQL0)
              | (have hgd := HQL; refine wpL_loadi (.tmp 100) rfl rfl _ _ rfl HQL.out ?_; clear HQL hgd; have HRY := HRY0; clear HRY0)
              | (have hgd := HRY; refine Din.wpL_store (.tmp 12) (.tmp 101) rfl rfl _ _ Y4 rfl rfl HRY.out ?_; clear HRY hgd))
            go_wp2_with (first
              | (go_at_call 53; refine (HGR.out _).mono ?_; rintro e w6 ⟨bb, rfl, hB6⟩; have hj6 := HI4.out.new hB6; obtain ⟨a0, c6, g1, g2⟩ := hj6.ri.get 0 8 (by omega) (by simp [fI, zeros]); have HI6 := Hid.mk hj6; have HG2 := Hid.mk g2; have HN6 := Hid.mk (HN4.out.below hB6 HN4.out.lt); clear hj6 g2 hB6 HN4 HI4 c0 c1 c2 q2 qb))
            go_wp2_with (first
              | (go_at_call 54; refine (HI6.out.with1 a0 c6 HG2.out (by omega) b4 _ HN6.out HBB.out).mono ?_; rintro e w7 ⟨a7, c7, W8, rfl, rs8, hj8, hn8⟩; have HI8 := Hid.mk hj8; have HR8 := Hid.mk rs8; have HN80 := Hid.mk hn8; clear hj8 rs8 hn8 HG2 HI6 HN6)
              | (have hgd := HR8; refine wpL_put (.tmp 117) (.tmp 116) rfl rfl _ _ W8 rfl rfl HR8.out ?_; clear HR8 hgd; have HN8 := HN80; clear HN80)
              | (have hgd := HN8; refine Din.wpL_load (.tmp 12) rfl rfl b4 (rootL I) rfl HN8.out rfl ?_; clear HN8 hgd))
            go_wp2_with (first
              | (go_at_call 55; refine (Din.rpack_yes _ (rootL I) rfl HFR.out).mono ?_; rintro e w9 ⟨ao, c9, rfl, hba, hB9⟩; obtain ⟨W10, rc10, hj10⟩ := (HI8.out.new hB9).copy (a * 1024 + o) 64 c9 _ ao hba (by omega) (by omega) (by have h := HP7.out; rwa [if_pos HON.out] at h); have hd10 := HDC.out W10 (by rw [← hb3]; exact hj10.below); have q2 := hd10.r2; have qb := hd10.tb ino hlt; rw [if_pos HON.out] at qb; have q16 := hd10.t16; have HI10 := Hid.mk hj10; have HR10 := Hid.mk rc10; clear hba hB9 rc10 hj10 hd10 HI8)
              | (have hgd := HR10; refine wpList_copy_known rfl (.tmp 128) (.tmp 129) 26 26 rfl _ _ _ _ rfl rfl HR10.out ?_; clear HR10 hgd))
            clear q2 q16
            go_loopw [19] (fun i wr => i = .int .i64 0 ∧ IgAt w b3 g4 gi gt B n cap N N N N I d xs (fI 2) (fD m 0) wr) (fun _ _ => 0)
            case atStart => exact ⟨rfl, HI10.out⟩
            case round =>
              obtain ⟨rfl, hj⟩ := hrel
              have q16 := (HDC.out wr (by rw [← hb3]; exact hj.below)).t16
              have HJ1 := Hid.mk hj
              clear hj HI10
              go_wp2
              clear q16
              go_loopw [22] (fun i wr => (i = .int .i64 0 ∨ i = .int .i64 1) ∧ IgAt w b3 g4 gi gt B n cap N N N N I d xs (fI 2) (fD m 0) wr) (fun i _ => 1 - (intOf i).toNat)
              case atStart => exact ⟨.inl rfl, HJ1.out⟩
              case round =>
                obtain ⟨hcs, hj⟩ := hrel
                have hd := HDC.out wr (by rw [← hb3]; exact hj.below)
                obtain ⟨cd2, s13⟩ := hd.t13
                have d0 := hd.d0
                have HJ2 := Hid.mk hj
                have HE2 := Hid.mk (HEA.out wr (by rw [← hb3]; exact hj.below))
                clear hj HJ1 hd
                rcases hcs with rfl | rfl
                · go_wp2_with (first
                    | (go_at_call 57; refine (HJ2.out.ents HX.out HN2.out ae cm HE2.out).mono ?_; rintro e w11 ⟨ap, cp, W12, rfl, r12, h12, hB11⟩; have hd := HDC.out w11 (by rw [← hb3]; exact hB11); obtain ⟨c15, s15⟩ := hd.t15; have l0 := hd.l0; rw [HZ.out] at l0; rw [HZN.out] at r12; have HR12 := Hid.mk r12; have HJ3 := Hid.mk h12; clear r12 h12 hB11 hd s13 d0)
                    | (have hgd := HR12; refine wpList_copy_known rfl (.tmp 209) (.tmp 210) 26 26 rfl _ _ _ _ rfl rfl HR12.out ?_; clear HR12 hgd))
                  go_roundw
                  case rel => exact ⟨.inr rfl, HJ3.out⟩
                  case measure => simp [intOf]
                · go_wp2
                  go_roundw
                  case rel => exact ⟨ino + 1, by go_num, by omega, by omega, by rw [HON.out]; exact HJ2.out⟩
                  case measure => simp [intOf]; omega
          · go_wp2_with (first
              | (go_at_call 39; refine (HIA.out _).mono ?_; rintro e w1 ⟨rfl, hB⟩; have hj1 := HIG3.out.new hB; obtain ⟨X4, b4, ra4, hn4, hB4, -⟩ := Din.alloc24_any w1; have hj4 := hj1.new hB4; have hd4 := HDC.out X4 (by rw [← hb3]; exact hj4.below); have q2 := hd4.r2; have qb := hd4.tb ino hlt; rw [if_neg hone] at qb; have HI4 := Hid.mk hj4; have HN4 := Hid.mk hn4; have HR4 := Hid.mk ra4; clear hB hj1 ra4 hn4 hB4 hj4 hd4 c0 c1 c2 r2)
              | (refine Din.wpL_alloc rfl rfl _ X4 HR4.out ?_)
              | (refine Din.wpL_load (.tmp 12) rfl rfl b4 (zeros 13) rfl HN4.out rfl ?_)
              | (go_at_call 55; refine (Din.rpack_yes _ (zeros 13) rfl free_bytes.1).mono ?_; rintro e w5 ⟨ao, c5, rfl, hba, hB5⟩; rw [free_bytes.2] at hba; obtain ⟨W6, rc6, hj6⟩ := (HI4.out.new hB5).copy (a * 1024 + o) 64 c5 (zeros 64) ao hba (by omega) (by omega) (by have h := HP7.out; rwa [if_neg hone] at h); have hd6 := HDC.out W6 (by rw [← hb3]; exact hj6.below); clear q2 qb; have q2 := hd6.r2; have qb := hd6.tb ino hlt; rw [if_neg hone] at qb; have HI6 := Hid.mk hj6; have HR6 := Hid.mk rc6; clear hba hB5 rc6 hj6 hd6 HI4 HN4 HR4)
              | (refine wpList_copy_known rfl (.tmp 128) (.tmp 129) 26 26 rfl _ _ _ _ rfl rfl HR6.out ?_))
            go_roundw
            case rel => exact ⟨ino + 1, by go_num, by omega, by omega, by rw [fI_step ino (by omega)]; exact HI6.out⟩
            case measure => simp [intOf]; omega
        · have hge : ¬ (ino : Int) < (ni : Int) + 1 := by omega
          have HIN : Hid (1 < ino) := Hid.mk (by omega)
          go_wp2
          clear c0 c1 c2 r2 hlt hi1 hi2 hge
          go_loopw [25] (fun i wr => (i = .int .i64 0 ∧ IgAt w b3 g4 gi gt B n cap N N N N I d xs (fI ino) (fD m 0) wr) ∨ (∃ k : Nat, 1 ≤ k ∧ k ≤ nb ∧ i = .int .i64 (k : Int) ∧ IgAt w b3 g4 gi gt B n cap N N N N I d xs (fI ino) (fD m 1) wr)) (fun i _ => nb - (intOf i).toNat)
          case atStart => exact .inl ⟨rfl, HIG3.out⟩
          case round =>
            rcases hrel with ⟨rfl, hig⟩ | ⟨k, hk1, hk2, rfl, hig⟩
            · have hd := HDC.out _ (by rw [← hb3]; exact hig.below)
              have r1 := hd.r1
              have cb := hd.cb 0 (by omega)
              obtain ⟨c0, c1, c2⟩ := hig.geo.g3
              have HIG5 := Hid.mk hig
              clear hig hd HIG3
              go_wp2
              obtain ⟨a0, c6, g1, g2⟩ := HIG5.out.drew.rd.get 0 m (by omega) (by simp [fD, zeros])
              have HG2 := Hid.mk g2
              have HCW := Hid.mk (HIG5.out.drew.with3 hm1 a0 c6 g2 (by omega))
              clear g2
              have hd0 : ¬ d = 0 := by omega
              have hN0 : ¬ N = 0 := by omega
              refine wp_region_held_drew (S := fun W => W.cell? ⟨b3, 2, none⟩ = some (.int .i64 (d : Int))) (by kernel_rfl) c2 (fun hH => ?_)
              change wpAnyH Tryz.prog Region.Mode.any _ _ _ 19 _ _ _
              refine takeH 0 228 (.slice (some ⟨gt, 0, none⟩) N N) rfl (by kernel_rfl) (by kernel_rfl) (by kernel_rfl) (by kernel_rfl) (fun _ _ _ h => h) (by kernel_rfl) (fun w hw => by kernel_rfl) hH ?_
              simp only [List.setIfInBounds_toArray, List.set_cons_zero, List.set_cons_succ]
              refine takeH 1 229 (.int .i64 0) rfl (by kernel_rfl) (by kernel_rfl) (by kernel_rfl) (by kernel_rfl) (fun _ _ _ h => h) (by kernel_rfl) (fun w hw => by kernel_rfl) hH ?_
              simp only [List.setIfInBounds_toArray, List.set_cons_zero, List.set_cons_succ]
              refine takeH 2 230 (.pointer (some ⟨b3, 2, none⟩)) rfl (by kernel_rfl) (by kernel_rfl) (by kernel_rfl) (by kernel_rfl) (fun _ _ _ h => h) (by kernel_rfl) (fun w hw => by (try dsimp only at hw); go_simp) hH ?_
              simp only [List.setIfInBounds_toArray, List.set_cons_zero, List.set_cons_succ]
              refine takeH 3 231 (.int .i64 (d : Int)) rfl (by kernel_rfl) (by kernel_rfl) (by kernel_rfl) (by kernel_rfl) (fun _ _ _ h => h) (by kernel_rfl) (fun w hw => by (try dsimp only at hw); go_simp) hH ?_
              simp only [List.setIfInBounds_toArray, List.set_cons_zero, List.set_cons_succ]
              refine takeH 4 232 (.int .i64 0) rfl (by kernel_rfl) (by kernel_rfl) (by kernel_rfl) (by kernel_rfl) (fun _ _ _ h => h) (by kernel_rfl) (fun w hw => by (try dsimp only at hw); go_simp; first | done | rfl) hH ?_
              simp only [List.setIfInBounds_toArray, List.set_cons_zero, List.set_cons_succ]
              refine takeH 5 233 (.slice (some ⟨gt, 0, none⟩) N N) rfl (by kernel_rfl) (by kernel_rfl) (by kernel_rfl) (by kernel_rfl) (fun _ _ _ h => h) (by kernel_rfl) (fun w hw => by kernel_rfl) hH ?_
              simp only [List.setIfInBounds_toArray, List.set_cons_zero, List.set_cons_succ]
              refine takeH 6 234 (.int .i64 0) rfl (by kernel_rfl) (by kernel_rfl) (by kernel_rfl) (by kernel_rfl) (fun _ _ _ h => h) (by kernel_rfl) (fun w hw => by kernel_rfl) hH ?_
              simp only [List.setIfInBounds_toArray, List.set_cons_zero, List.set_cons_succ]
              refine takeH 7 235 (.pointer (some ⟨b3, 2, none⟩)) rfl (by kernel_rfl) (by kernel_rfl) (by kernel_rfl) (by kernel_rfl) (fun _ _ _ h => h) (by kernel_rfl) (fun w hw => by (try dsimp only at hw); go_simp) hH ?_
              simp only [List.setIfInBounds_toArray, List.set_cons_zero, List.set_cons_succ]
              refine takeH 8 236 (.int .i64 (d : Int)) rfl (by kernel_rfl) (by kernel_rfl) (by kernel_rfl) (by kernel_rfl) (fun _ _ _ h => h) (by kernel_rfl) (fun w hw => by (try dsimp only at hw); go_simp) hH ?_
              simp only [List.setIfInBounds_toArray, List.set_cons_zero, List.set_cons_succ]
              refine takeH 9 237 (.int .i64 0) rfl (by kernel_rfl) (by kernel_rfl) (by kernel_rfl) (by kernel_rfl) (fun _ _ _ h => h) (by kernel_rfl) (fun w hw => by (try dsimp only at hw); go_simp; first | done | rfl) hH ?_
              simp only [List.setIfInBounds_toArray, List.set_cons_zero, List.set_cons_succ]
              refine takeH 10 238 (.pointer (some ⟨gt, 0, none⟩)) rfl (by kernel_rfl) (by kernel_rfl) (by kernel_rfl) (by kernel_rfl) (fun _ _ _ h => h) (by kernel_rfl) (fun w hw => by (try dsimp only at hw); go_simp) hH ?_
              simp only [List.setIfInBounds_toArray, List.set_cons_zero, List.set_cons_succ]
              refine takeH 12 240 (.int .i64 0) rfl (by kernel_rfl) (by kernel_rfl) (by kernel_rfl) (by kernel_rfl) (fun _ _ _ h => h) (by kernel_rfl) (fun w hw => by kernel_rfl) hH ?_
              simp only [List.setIfInBounds_toArray, List.set_cons_zero, List.set_cons_succ]
              refine takeH 13 241 (.pointer (some ⟨b3, 2, none⟩)) rfl (by kernel_rfl) (by kernel_rfl) (by kernel_rfl) (by kernel_rfl) (fun _ _ _ h => h) (by kernel_rfl) (fun w hw => by (try dsimp only at hw); go_simp) hH ?_
              simp only [List.setIfInBounds_toArray, List.set_cons_zero, List.set_cons_succ]
              refine takeH 14 242 (.int .i64 (d : Int)) rfl (by kernel_rfl) (by kernel_rfl) (by kernel_rfl) (by kernel_rfl) (fun _ _ _ h => h) (by kernel_rfl) (fun w hw => by (try dsimp only at hw); go_simp) hH ?_
              simp only [List.setIfInBounds_toArray, List.set_cons_zero, List.set_cons_succ]
              refine takeH 15 243 (.int .i64 0) rfl (by kernel_rfl) (by kernel_rfl) (by kernel_rfl) (by kernel_rfl) (fun _ _ _ h => h) (by kernel_rfl) (fun w hw => by (try dsimp only at hw); go_simp) hH ?_
              simp only [List.setIfInBounds_toArray, List.set_cons_zero, List.set_cons_succ]
              refine stepH 11 239 (.slice (some a0) m c6) rfl (by kernel_rfl) (by kernel_rfl) (by kernel_rfl) (by go_simp) hH ?_
              simp only [List.setIfInBounds_toArray, List.set_cons_zero, List.set_cons_succ]
              refine stepH_call 16 244 rfl (by kernel_rfl) (by kernel_rfl) (by kernel_rfl) 54 #[.tmp 239, .tmp 243, .const (.bool true)] #[26, 3, 4] (by kernel_rfl) (enters_of Tryz.func54 (by kernel_rfl) rfl) #[.slice (some a0) m c6, .int .i64 0, .bool true] (by kernel_rfl) HCW.out ?_
              rintro e w7 ⟨a7, c7, W8, rfl, rs8, hj8, hj7⟩
              obtain ⟨-, -, e2⟩ := hj7.geo.g3
              obtain ⟨-, -, f2⟩ := hj8.geo.g3
              have HI8 := Hid.mk hj8
              have HR8 := Hid.mk rs8
              clear hj7 hj8 rs8 HCW HG2
              refine ⟨_, rfl, e2, ?_⟩
              simp only [List.setIfInBounds_toArray, List.set_cons_zero, List.set_cons_succ]
              refine takeH 17 245 (.pointer (some ⟨gt, 0, none⟩)) rfl (by kernel_rfl) (by kernel_rfl) (by kernel_rfl) (by kernel_rfl) (fun _ _ _ h => h) (by kernel_rfl) (fun w hw => by (try dsimp only at hw); go_simp) e2 ?_
              simp only [List.setIfInBounds_toArray, List.set_cons_zero, List.set_cons_succ]
              refine stepH_one 18 (by kernel_rfl) ?_
              refine opH_store 18 W8 rfl (by kernel_rfl) (by kernel_rfl) (exec_store (p := .tmp 245) (x := .tmp 244) rfl (by kernel_rfl) (by kernel_rfl) HR8.out) f2 ?_
              refine wpAnyH_done (by kernel_rfl) ?_ _
              clear hH e2 f2 c0 c1 c2 r1 cb
              go_wp2
              go_roundw
              case rel => exact .inr ⟨1, Nat.le_refl _, by omega, rfl, HI8.out⟩
              case measure => simp [intOf]; omega
            · have hd := HDC.out _ (by rw [← hb3]; exact hig.below)
              have r1 := hd.r1
              have HCB := Hid.mk hd.cb
              have HIG5 := Hid.mk hig
              clear hig hd HIG3
              by_cases hlt : k < nb
              · have hi : (k : Int) < nb := by omega
                have cb := HCB.out k hlt
                rw [decide_eq_false (show ¬ k = 0 by omega)] at cb
                go_wp2
                go_roundw
                case rel => exact .inr ⟨k + 1, by omega, by omega, by go_num, HIG5.out⟩
                case measure => simp [intOf]; omega
              · have hi : ¬ (k : Int) < nb := by omega
                have hi2 : (nb : Int) ≤ k := by omega
                obtain rfl : k = nb := by omega
                go_wp2
                go_loopw [26] (fun i wr => ∃ k : Nat, i = .int .i64 (k : Int) ∧ k ≤ N ∧ IgAt w b3 g4 gi gt B n cap N N N N I d xs (fI ino) (fD m 1) wr) (fun i _ => N - (intOf i).toNat)
                case atStart => exact ⟨0, rfl, Nat.zero_le _, HIG5.out⟩
                case round =>
                  obtain ⟨k, rfl, hk, hig⟩ := hrel
                  obtain ⟨c0, c1, c2⟩ := hig.geo.g3
                  have HIG6 := Hid.mk hig
                  clear hig HIG5 HCB r1
                  by_cases hlt : k < N
                  · have hi : (k : Int) < N := by omega
                    obtain ⟨e1, e2, e3⟩ := HHD.out k hlt
                    obtain ⟨h, hh⟩ : ∃ h : Nat, h = 1 + k * perN I d := ⟨_, rfl⟩
                    rw [← hh] at e1 e2 e3
                    have HRH : Hid (∀ W, Calls Tryz.prog 47 #[geo N I d, .int .i64 (k : Int)] W fun e w' => ∃ b, e = .returned (.tuple #[.int .i64 (h : Int), .bool b]) ∧ Below W.heap.size W w') := Hid.mk (fun W => by
                      have h0 := rhead_any W N I d k
                      rw [e1] at h0
                      exact h0.mono (fun e w' hw => ⟨_, hw⟩))
                    have HE3 := Hid.mk e3
                    have HH := Hid.mk hh
                    clear e1 e3 hh
                    go_wp2_with (go_at_call 47; refine (HRH.out _).mono ?_; rintro e w1 ⟨bb, rfl, hB⟩; have hj1 := HIG6.out.new hB; have HI1 := Hid.mk hj1; clear hj1 hB)
                    clear c0 c1 c2
                    obtain ⟨a1, c1, f1, g1⟩ := HI1.out.ri.get k 8 hlt (by unfold fI; split <;> simp [zeros, withI_length])
                    obtain ⟨a2, c2, f2, g2⟩ := HI1.out.rd.get k m hlt (by unfold fD; split <;> simp [zeros, withI_length])
                    obtain ⟨d0, d1, d2⟩ := HI1.out.geo.g3
                    have HCW := Hid.mk (fun W (hW : IgAt w b3 g4 gi gt B n cap N N N N I d xs (fI ino) (fD m 1) W) g1 g2 => ig_heads hW HG.out k h (by omega) HIN.out (by omega) e2 HE3.out a1 a2 c1 c2 g1 g2)
                    have HG1 := Hid.mk g1
                    have HG2 := Hid.mk g2
                    have hh1 : (h : Int) * 1024 ≤ n := by omega
                    have hh2 : ¬ cap = h * 1024 := by omega
                    have hw2 : IntKind.i64.wrap ((h : Int) * 1024) = (h : Int) * 1024 := by rw [IntKind.wrap_i64]; omega
                    have hh4 : (0 : Int) ≤ (h : Int) * 1024 := by omega
                    have hh3 : ((h : Int) * 1024).toNat = h * 1024 := by omega
                    clear g1 g2
                    refine wp_region_held_drew (S := fun W => W.heap[b3]? = w1.heap[b3]? ∧ W.heap[gi]? = w1.heap[gi]? ∧ W.heap[gt]? = w1.heap[gt]?) (by kernel_rfl) ⟨rfl, rfl, rfl⟩ (fun hH => ?_)
                    change wpAnyH Tryz.prog Region.Mode.any _ _ _ 16 _ _ _
                    refine takeH 0 258 (.slice (some ⟨g4, 0, none⟩) n cap) rfl (by kernel_rfl) (by kernel_rfl) (by kernel_rfl) (by kernel_rfl) (fun _ _ _ h => h) (by kernel_rfl) (fun w hw => by kernel_rfl) hH ?_
                    simp only [List.setIfInBounds_toArray, List.set_cons_zero, List.set_cons_succ]
                    refine takeH 1 259 (.int .i64 (h : Int)) rfl (by kernel_rfl) (by kernel_rfl) (by kernel_rfl) (by kernel_rfl) (fun _ _ _ h => h) (by kernel_rfl) (fun w hw => by kernel_rfl) hH ?_
                    simp only [List.setIfInBounds_toArray, List.set_cons_zero, List.set_cons_succ]
                    refine takeH 2 260 (.int .i64 ((h : Int) * 1024)) rfl (by kernel_rfl) (by kernel_rfl) (by kernel_rfl) (by kernel_rfl) (fun _ _ _ h => h) (by kernel_rfl) (fun w hw => by (clear hw; go_simp)) hH ?_
                    simp only [List.setIfInBounds_toArray, List.set_cons_zero, List.set_cons_succ]
                    refine takeH 3 261 (.slice (some ⟨g4, h * 1024, none⟩) (n - h * 1024) (cap - h * 1024)) rfl (by kernel_rfl) (by kernel_rfl) (by kernel_rfl) (by kernel_rfl) (fun _ _ _ h => h) (by kernel_rfl) (fun w hw => by (clear hw; go_simp)) hH ?_
                    simp only [List.setIfInBounds_toArray, List.set_cons_zero, List.set_cons_succ]
                    refine takeH 4 262 (geo N I d) rfl (by kernel_rfl) (by kernel_rfl) (by kernel_rfl) (by kernel_rfl) (fun _ _ _ h => h) (by kernel_rfl) (fun w hw => by (obtain ⟨q0, q1, q2⟩ := hw; have e0 : w.cell? ⟨b3, 0, none⟩ = some (.int .i64 (N : Int)) := (World.cell?_of_block (w := w1) q0).trans d0; have e1 : w.cell? ⟨b3, 1, none⟩ = some (.int .i64 I) := (World.cell?_of_block (w := w1) q0).trans d1; have e2 : w.cell? ⟨b3, 2, none⟩ = some (.int .i64 (d : Int)) := (World.cell?_of_block (w := w1) q0).trans d2; clear q0 q1 q2; go_simp)) hH ?_
                    simp only [List.setIfInBounds_toArray, List.set_cons_zero, List.set_cons_succ]
                    refine takeH 5 263 (.int .i64 (k : Int)) rfl (by kernel_rfl) (by kernel_rfl) (by kernel_rfl) (by kernel_rfl) (fun _ _ _ h => h) (by kernel_rfl) (fun w hw => by kernel_rfl) hH ?_
                    simp only [List.setIfInBounds_toArray, List.set_cons_zero, List.set_cons_succ]
                    refine takeH 6 264 (.slice (some ⟨gi, 0, none⟩) N N) rfl (by kernel_rfl) (by kernel_rfl) (by kernel_rfl) (by kernel_rfl) (fun _ _ _ h => h) (by kernel_rfl) (fun w hw => by kernel_rfl) hH ?_
                    simp only [List.setIfInBounds_toArray, List.set_cons_zero, List.set_cons_succ]
                    refine takeH 7 265 (.int .i64 (k : Int)) rfl (by kernel_rfl) (by kernel_rfl) (by kernel_rfl) (by kernel_rfl) (fun _ _ _ h => h) (by kernel_rfl) (fun w hw => by kernel_rfl) hH ?_
                    simp only [List.setIfInBounds_toArray, List.set_cons_zero, List.set_cons_succ]
                    refine takeH 8 266 (.pointer (some ⟨gi, k, none⟩)) rfl (by kernel_rfl) (by kernel_rfl) (by kernel_rfl) (by kernel_rfl) (fun _ _ _ h => h) (by kernel_rfl) (fun w hw => by (clear hw; go_simp)) hH ?_
                    simp only [List.setIfInBounds_toArray, List.set_cons_zero, List.set_cons_succ]
                    refine takeH 9 267 (.slice (some a1) 8 c1) rfl (by kernel_rfl) (by kernel_rfl) (by kernel_rfl) (by kernel_rfl) (fun _ _ _ h => h) (by kernel_rfl) (fun w hw => by (obtain ⟨q0, q1, q2⟩ := hw; have e0 : w.cell? ⟨gi, k, none⟩ = some (.slice (some a1) 8 c1) := (World.cell?_of_block (w := w1) q1).trans f1; clear q0 q1 q2; go_simp)) hH ?_
                    simp only [List.setIfInBounds_toArray, List.set_cons_zero, List.set_cons_succ]
                    refine takeH 10 268 (.slice (some ⟨gt, 0, none⟩) N N) rfl (by kernel_rfl) (by kernel_rfl) (by kernel_rfl) (by kernel_rfl) (fun _ _ _ h => h) (by kernel_rfl) (fun w hw => by kernel_rfl) hH ?_
                    simp only [List.setIfInBounds_toArray, List.set_cons_zero, List.set_cons_succ]
                    refine takeH 11 269 (.int .i64 (k : Int)) rfl (by kernel_rfl) (by kernel_rfl) (by kernel_rfl) (by kernel_rfl) (fun _ _ _ h => h) (by kernel_rfl) (fun w hw => by kernel_rfl) hH ?_
                    simp only [List.setIfInBounds_toArray, List.set_cons_zero, List.set_cons_succ]
                    refine takeH 12 270 (.pointer (some ⟨gt, k, none⟩)) rfl (by kernel_rfl) (by kernel_rfl) (by kernel_rfl) (by kernel_rfl) (fun _ _ _ h => h) (by kernel_rfl) (fun w hw => by (clear hw; go_simp)) hH ?_
                    simp only [List.setIfInBounds_toArray, List.set_cons_zero, List.set_cons_succ]
                    refine takeH 13 271 (.slice (some a2) m c2) rfl (by kernel_rfl) (by kernel_rfl) (by kernel_rfl) (by kernel_rfl) (fun _ _ _ h => h) (by kernel_rfl) (fun w hw => by (obtain ⟨q0, q1, q2⟩ := hw; have e0 : w.cell? ⟨gt, k, none⟩ = some (.slice (some a2) m c2) := (World.cell?_of_block (w := w1) q2).trans f2; clear q0 q1 q2; go_simp)) hH ?_
                    simp only [List.setIfInBounds_toArray, List.set_cons_zero, List.set_cons_succ]
                    refine stepH_call 14 272 rfl (by kernel_rfl) (by kernel_rfl) (by kernel_rfl) 58 #[.tmp 262, .tmp 263, .tmp 267, .tmp 271] #[23, 3, 26, 26] (by kernel_rfl) (enters_of Tryz.func58 (by kernel_rfl) rfl) #[geo N I d, .int .i64 (k : Int), .slice (some a1) 8 c1, .slice (some a2) m c2] (by kernel_rfl) (HCW.out _ HI1.out.drew HG1.out HG2.out) ?_
                    rintro e w7 ⟨ap, cp, W8, rfl, rs8, hj8, hsm⟩
                    have HI8 := Hid.mk hj8
                    have HR8 := Hid.mk rs8
                    have k7 : w7.heap[b3]? = w1.heap[b3]? ∧ w7.heap[gi]? = w1.heap[gi]? ∧ w7.heap[gt]? = w1.heap[gt]? := ⟨(hsm b3 (.inl rfl)).1, (hsm gi (.inr (.inl rfl))).1, (hsm gt (.inr (.inr rfl))).1⟩
                    have k8 : W8.heap[b3]? = w1.heap[b3]? ∧ W8.heap[gi]? = w1.heap[gi]? ∧ W8.heap[gt]? = w1.heap[gt]? := ⟨(hsm b3 (.inl rfl)).2, (hsm gi (.inr (.inl rfl))).2, (hsm gt (.inr (.inr rfl))).2⟩
                    clear hj8 rs8 hsm HCW
                    refine ⟨_, rfl, k7, ?_⟩
                    simp only [List.setIfInBounds_toArray, List.set_cons_zero, List.set_cons_succ]
                    refine stepH_run 15 273 (.int .i64 (1024 : Nat)) W8 rfl (by kernel_rfl) (by kernel_rfl) (by kernel_rfl) (Din.exec_copy (d := .tmp 261) (s := .tmp 272) rfl (by kernel_rfl) (by kernel_rfl) HR8.out) k8 ?_
                    simp only [List.setIfInBounds_toArray, List.set_cons_zero, List.set_cons_succ]
                    refine wpAnyH_done (by kernel_rfl) ?_ _
                    clear hH k7 k8 f1 f2 d0 d1 d2
                    go_wp2
                    go_roundw
                    case rel => exact ⟨k + 1, by go_num, by omega, HI8.out⟩
                    case measure => simp [intOf]; omega
                  · have hi : ¬ (k : Int) < N := by omega
                    have hi2 : (N : Int) ≤ k := by omega
                    go_wp2
                    go_ret
                    obtain ⟨ao, cc, he, hba, -, -⟩ := owns_BAt HIG6.out.out
                    cases he
                    exact ⟨g4, cap, hcap, rfl, hba, by rw [← hb3] at *; exact HIG6.out.below⟩
end Mk
end Go.Proofs.YtejnmpnioeamhaaGreat
