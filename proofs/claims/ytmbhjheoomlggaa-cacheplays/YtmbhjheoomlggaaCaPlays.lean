/-
  CachePlays: the walk.
-/
import Derived.Test.YtmbhjheoomlggaaCaPl2
namespace Go.Proofs.Ytmbhjheoomlggaa
open Go Go.Proofs Go.RowKit Go.Shelf
set_option maxRecDepth 100000 in
set_option maxHeartbeats 16000000 in
theorem plays_in (w : World) (size : Int) (ao : Option Addr) (n cc : Nat) (A : Nat → ActV) (hA : ActsAt w ao n A) (hn : n ≤ 200) : Calls Try.prog 3 #[.int .i64 size, .slice ao n cc] w fun e w' => e = .returned (.bool true) ∧ Below w.heap.size w w' := by
  have HAL := Hid.mk (alive_any w)
  have h1 : ¬ (200 : Int) < (n : Int) := by omega
  obtain ⟨sz, hsz⟩ : ∃ sz, sz = szN size := ⟨_, rfl⟩
  have HN := Hid.mk hn
  have HD1 : Hid (∀ W, Below w.heap.size w W → Calls Try.prog 9 #[.int .i64 8] W fun e w' => ∃ dd, e = .returned (ptV dd) ∧ Hid (Dk.DiskAt (fun k => W.heap.size ≤ k) w' dd (newS 8) ∧ Below W.heap.size W w')) := Hid.mk (fun W hB => (cd_made W 8 (by omega)).mono (by
    rintro e w' ⟨dd, rfl, _, hd, hB'⟩
    exact ⟨dd, rfl, Hid.mk ⟨hd, hB'⟩⟩))
  have HCN : Hid (∀ (W0 W1 W2 : World) (d : Nat), Dk.DiskAt (fun k => W0.heap.size ≤ k) W1 d (newS 8) → W0.heap.size ≤ W1.heap.size → Below W1.heap.size W1 W2 → Calls Try.prog 10 #[ptV d, .int .i64 size] W2 fun e w' => ∃ c, e = .returned (ptV c) ∧ Hid (CdAt (fun k => (W0.heap.size ≤ k ∧ k < W1.heap.size) ∨ W2.heap.size ≤ k) w' c d sz 0 [] (newS 8) ∧ Below W2.heap.size W2 w')) := Hid.mk (fun W0 W1 W2 d hd _ hB => by
    have h2 : Dk.DiskAt (fun k => W0.heap.size ≤ k ∧ k < W1.heap.size) W1 d (newS 8) := hd.mono (fun k hk h => ⟨h, hk.lt⟩)
    have h3 := h2.only (Only.of_new (fun _ => False) hB) (fun _ _ _ h => h)
    refine (cd_new _ d _ h3 size).mono ?_
    rintro e w' ⟨c, rfl, _, hC, hB'⟩
    rw [hsz]
    exact ⟨c, rfl, Hid.mk ⟨hC, hB'⟩⟩)
  have HACT : Hid (∀ W j, Below w.heap.size w W → j < n → ∃ ab off, ao = some ⟨ab, off, none⟩ ∧ W.cell? ⟨ab, off + j * 4, none⟩ = some (.int .i64 (A j).way) ∧ W.cell? ⟨ab, off + j * 4 + 1, none⟩ = some (.int .i64 (A j).blk) ∧ W.cell? ⟨ab, off + j * 4 + 2, none⟩ = some (.int .i64 (A j).v) ∧ W.cell? ⟨ab, off + j * 4 + 3, none⟩ = some (.int .i64 (A j).n) ∧ (Lit.int .i64 (A j).blk).wf = true ∧ (A j).n ≤ 9223372036854775807) := Hid.mk (fun W j hB hj => by
    obtain ⟨ab, off, e, hl, hc⟩ := hA (by omega)
    obtain ⟨x0, x1, x2, x3, x4⟩ := hc j hj
    have hb := hB.block ab hl
    exact ⟨ab, off, e, (World.cell?_of_block (w := w) hb).trans x0, (World.cell?_of_block (w := w) hb).trans x1, (World.cell?_of_block (w := w) hb).trans x2, (World.cell?_of_block (w := w) hb).trans x3, x4⟩)
  have HSZ := Hid.mk hsz
  clear hA hn hsz
  have K1 := HD1
  have K2 := HD1
  clear HD1
  go_enter Try.func3, Try.ntmps3
  go_upto_if 45 with (first
    | (go_at_call 8; refine HAL.out.mono ?_; rintro e w1 ⟨rfl, hb1⟩; have HB1 := Hid.mk hb1; clear hb1 HAL)
    | (go_at_call 9; have KN := K1; refine (KN.out _ HB1.out).mono ?_; rintro e w2 ⟨d, rfl, H2⟩; have HB2 : Hid (Below w.heap.size w w2) := Hid.mk (HB1.out.trans (H2.out.2.mono HB1.out.size)); clear K1 KN)
    | (go_at_call 9; have KN := K2; refine (KN.out _ HB2.out).mono ?_; rintro e w3 ⟨e, rfl, H3⟩; clear K2 KN)
    | (go_at_call 10; refine (HCN.out _ _ _ _ H2.out.1 H2.out.2.size H3.out.2).mono ?_; rintro e w4 ⟨c, rfl, H4⟩; clear HCN))
  have HP0 : Hid (∀ W4, Below w4.heap.size w4 W4 → W4.heap.size = w4.heap.size + 1 → W4.heap[w4.heap.size]? = some (.cells #[.slice none 0 0, .int .i64 (sz : Nat), ptV e, .int .i64 0] 31 (0, 0)) → Pq (fun _ => False) w W4 c d w4.heap.size e sz 0 [] (newS 8) 0 (.slice none 0 0) [] (newS 8)) := Hid.mk (fun W4 hb hs hm => pq_new HB1.out H2.out.2 H3.out.1 H3.out.2 H4.out.1 H4.out.2 hb hs hm)
  go_cut [9] from 44 to 48 (fun v W => v = ptV w4.heap.size ∧ Hid (Pq (fun _ => False) w W c d w4.heap.size e sz 0 [] (newS 8) 0 (.slice none 0 0) [] (newS 8)))
  case first =>
    by_cases q : size < 1
    · go_wp2
      go_meet
      case rel =>
        refine ⟨rfl, Hid.mk (HP0.out _ ((Below.refl _ w4).alloc (Nat.le_refl _) _) (by simp) ?_)⟩
        rw [blk_new w4 _]
        have := HSZ.out
        unfold szN at this
        rw [this, show max size 1 = 1 by omega]
        rfl
    · go_wp2
      go_meet
      case rel =>
        refine ⟨rfl, Hid.mk (HP0.out _ ((Below.refl _ w4).alloc (Nat.le_refl _) _) (by simp) ?_)⟩
        rw [blk_new w4 _]
        have := HSZ.out
        unfold szN at this
        rw [show (sz : Int) = size by omega]
  case rest =>
  obtain ⟨rfl, HPQ⟩ := hcut
  clear HP0 H2 H3 H4 HB1 HB2 HSZ
  generalize w4.heap.size = mm at HPQ ⊢
  go_wp2
  go_loopw [10] (fun jv wr => ∃ j : Nat, jv = .int .i64 j ∧ Hid (j ≤ n ∧ ∃ reads lv ms s, Pq (fun _ => False) w wr c d mm e sz reads (ms.map Md.kb) s reads lv ms s ∧ Ok j sz reads (ms.map Md.kb) s)) (fun jv _ => n - (intOf jv).toNat)
  case atStart => exact ⟨0, rfl, Hid.mk ⟨Nat.zero_le _, 0, _, [], _, HPQ.out, ok_new sz⟩⟩
  case round =>
    obtain ⟨j, rfl, HJ⟩ := hrel
    obtain ⟨reads, lv, ms, s, HP, HO⟩ : ∃ reads lv ms s, Hid (Pq (fun _ => False) w wr c d mm e sz reads (ms.map Md.kb) s reads lv ms s) ∧ Hid (Ok j sz reads (ms.map Md.kb) s) := by
      obtain ⟨_, reads, lv, ms, s, h1, h2⟩ := HJ.out
      exact ⟨reads, lv, ms, s, Hid.mk h1, Hid.mk h2⟩
    have HJN := Hid.mk HJ.out.1
    clear HJ HPQ
    have HBW : Hid (Below w.heap.size w wr) := Hid.mk (by obtain ⟨_, _, _, h⟩ := HP.out; exact h.bel)
    by_cases hlt : (j : Int) < (n : Int)
    · obtain ⟨ab, off, rfl, t0, t1, t2, t3, hwf, han⟩ := HACT.out wr j HBW.out (by omega)
      generalize (A j).way = wy at t0
      generalize (A j).blk = bk at t1 hwf
      generalize (A j).v = av at t2
      generalize (A j).n = an at t3 han
      have HAN := Hid.mk han
      have z1 : (0 : Int) ≤ (j : Int) := by omega
      have z2 : ((j : Int)).toNat = j := by simp
      have HLT : Hid (j < n) := Hid.mk (by omega)
      have HWF := Hid.mk hwf
      generalize hW6 : wr.alloc (.cells #[.int .i64 wy, .int .i64 bk, .int .i64 av, .int .i64 an] 33) = W6
      have HZ : Hid (Pq (fun k => k = wr.heap.size) w W6 c d mm e sz reads (ms.map Md.kb) s reads lv ms s ∧ W6.heap[wr.heap.size]? = some (.cells #[.int .i64 wy, .int .i64 bk, .int .i64 av, .int .i64 an] 33 (0, 0))) := Hid.mk (by rw [← hW6]; exact ⟨HP.out.side ((Only.refl _ wr).alloc _) (fun k hk => by subst hk; exact ⟨by simp, .inr (Nat.le_refl _)⟩), blk_new wr _⟩)
      have HAT := Hid.mk (q_at HZ.out.1 (by have h1 := HO.out.len; have h2 := HN.out; have h3 := HJN.out; rw [List.length_map] at h1; omega) bk)
      rw [← hW6] at HAT
      have HW6 := Hid.mk hW6
      clear hwf han HP HACT hW6
      go_upto_block 2 with (go_at_call 11; refine HAT.out.mono ?_; rintro e' w6 ⟨rfl, hw6⟩; subst hw6)
      rw [HW6.out]
      clear HW6 HAT t0 t1 t2 t3
      have HEND : Hid (∀ W reads' lv' ms' s', Pq (fun k => k = wr.heap.size) w W c d mm e sz reads' (ms'.map Md.kb) s' reads' lv' ms' s' → Ok (j + 1) sz reads' (ms'.map Md.kb) s' → ∃ reads lv ms s, Pq (fun _ => False) w W c d mm e sz reads (ms.map Md.kb) s reads lv ms s ∧ Ok (j + 1) sz reads (ms.map Md.kb) s) := Hid.mk (fun W reads' lv' ms' s' h1 h2 => ⟨_, _, _, _, h1.side (Only.refl _ _) (fun k hk => hk.elim), h2⟩)
      have HCELL : Hid (∀ W : World, W.heap[wr.heap.size]? = some (.cells #[.int .i64 wy, .int .i64 bk, .int .i64 av, .int .i64 an] 33 (0, 0)) → W.cell? ⟨wr.heap.size, 1, none⟩ = some (.int .i64 bk) ∧ W.cell? ⟨wr.heap.size, 2, none⟩ = some (.int .i64 av) ∧ W.cell? ⟨wr.heap.size, 3, none⟩ = some (.int .i64 an)) := Hid.mk (fun W hb => ⟨(blk_cell hb 1).trans rfl, (blk_cell hb 2).trans rfl, (blk_cell hb 3).trans rfl⟩)
      obtain ⟨k1, k2, k3⟩ := HCELL.out _ HZ.out.2
      go_cut [12, 13, 14, 15, 16, 17, 18, 19, 20, 21, 22, 23] from 51 to 266 (fun _ _ _ _ _ _ _ _ _ _ _ _ W => Hid (∃ reads lv ms s, Pq (fun _ => False) w W c d mm e sz reads (ms.map Md.kb) s reads lv ms s ∧ Ok (j + 1) sz reads (ms.map Md.kb) s))
      case first =>
        by_cases y0 : wy = 0
        · subst y0
          as_aux_lemma =>
            have HFI : Hid (Fine reads (ms.map Md.kb) s) := Hid.mk (HO.out.fine (by have h2 := HN.out; have h3 := HJN.out; omega))
            have HL9 : Hid (ms.length ≤ 200) := Hid.mk (by have h1 := HO.out.len; have h2 := HN.out; have h3 := HJN.out; rw [List.length_map] at h1; omega)
            have HXL : Hid (wr.heap.size < W6.heap.size) := Hid.mk (HZ.out.1.xlt _ rfl)
            have HOP : Hid (0 ≤ reads ∧ reads ≤ 200 ∧ (∀ m ∈ ms, m.kb.pins ≤ 900000) ∧ s.img.length ≤ 20480000) := Hid.mk (by
              have h2 := HN.out
              have h3 := HJN.out
              have h4 := HO.out.r0
              have h5 := HO.out.r1
              refine ⟨h4, by omega, fun m hm => ?_, by rw [HO.out.img]; omega⟩
              have := HO.out.pins m.kb (List.mem_map.2 ⟨m, hm, rfl⟩)
              omega)
            have HNUM : Hid (((ms.map Md.kb).map (·.num)).Nodup) := Hid.mk HZ.out.1.nums
            cases hg : gotK s (ms.map Md.kb) bk with
            | none =>
              have HGN := Hid.mk hg
              have HG := Hid.mk (q_get_no HZ.out.1 bk HWF.out HFI.out hg)
              obtain ⟨SX, hSX⟩ : ∃ SX, SX = strOfNums [] := ⟨_, rfl⟩
              have HSX := Hid.mk hSX
              clear hg hSX
              go_wp2_with (first
                | (go_at_call 12; refine HG.out.mono ?_; rintro e' w7 ⟨rfl, hq7, hk7⟩; obtain ⟨l1, l2, l3⟩ := HCELL.out w7 ((hk7 _ rfl).trans HZ.out.2); have HM := Hid.mk (q_mget_no hq7 (by have := HL9.out; omega) HOP.out.2.2.2 HOP.out.1 (by have := HOP.out.2.1; omega) bk HNUM.out HGN.out); clear hq7 hk7 HG)
                | (go_at_call 13; refine HM.out.mono ?_; rintro e' w8 ⟨rfl, lv', ms', hk', hq8, _⟩; rw [HO.out.sta] at hk'; have HK := Hid.mk hk'; rw [← hk'] at hq8; have H8 := Hid.mk hq8; clear hk' hq8 HM)
                | (refine wpL_convB (.tmp 91) rfl rfl none 0 0 [] rfl (BAt.nil2 _) SX HSX.out ?_)
                | (refine wpL_convB (.tmp 93) rfl rfl none 0 0 [] rfl (BAt.nil2 _) SX HSX.out ?_))
              go_loopw [17] (fun iv wr2 => iv = .int .i64 0 ∧ Hid (wr2 = w8)) (fun _ _ => 0)
              case atStart => exact ⟨rfl, Hid.mk rfl⟩
              case round =>
                obtain ⟨rfl, hw8⟩ := hrel
                go_wp2
                go_meet
                case rel => exact Hid.mk (by rw [hw8.out]; exact HEND.out _ _ _ _ _ H8.out (by rw [HK.out]; exact HO.out.got_no))
            | some x =>
              have HGN := Hid.mk hg
              have HG := Hid.mk (q_get_yes HZ.out.1 bk HWF.out HFI.out x hg)
              obtain ⟨SX, hSX⟩ : ∃ SX, SX = strOfNums x.dat := ⟨_, rfl⟩
              have HSX := Hid.mk hSX
              clear hg hSX
              go_wp2_with (first
                | (go_at_call 12; refine HG.out.mono ?_; rintro e' w7 ⟨g, cap, rfl, hgs, hrow, hq7, hk7⟩; obtain ⟨l1, l2, l3⟩ := HCELL.out w7 ((hk7 _ rfl).trans HZ.out.2); have HM := Hid.mk (q_mget_yes hq7 (by have := HL9.out; omega) HOP.out.2.2.2 HOP.out.1 (by have := HOP.out.2.1; omega) HOP.out.2.2.1 bk x HNUM.out HGN.out); have HROW := Hid.mk hrow; clear hq7 hk7 HG hgs hrow)
                | (go_at_call 13; refine HM.out.mono ?_; rintro e' w8 ⟨xg, xc, rfl, hrow8, lv', ms', hk', hq8, hk8⟩; have HK := Hid.mk hk'; rw [← hk'] at hq8; have H8 := Hid.mk hq8; have HR8 := Hid.mk (row_kx HROW.out (hk8 g (.inr rfl))); have HB1 := Hid.mk (row_bat HR8.out); have HB2 := Hid.mk (row_bat hrow8); clear hk' hq8 HM hk8 hrow8 HROW)
                | (refine wpL_convB (.tmp 91) rfl rfl (some ⟨g, 0, none⟩) 1024 cap x.dat rfl HB1.out SX HSX.out ?_)
                | (refine wpL_convB (.tmp 93) rfl rfl (some ⟨xg, 0, none⟩) 1024 xc x.dat rfl HB2.out SX HSX.out ?_))
              have HROW8 : Hid (∃ zs, w8.ownsRow W6.heap.size 5 1 (.slice (some ⟨g, 0, none⟩) 1024 cap) 1024 (By zs)) := Hid.mk ⟨_, HR8.out⟩
              clear HB1 HB2 HR8
              go_loopw [17] (fun iv wr2 => ∃ t : Nat, iv = .int .i64 t ∧ Hid (t ≤ 1024) ∧ Hid (∃ zs, wr2.ownsRow W6.heap.size 5 1 (.slice (some ⟨g, 0, none⟩) 1024 cap) 1024 (By zs)) ∧ Hid (Only (fun k => k = g) w8 wr2)) (fun iv _ => 1024 - (intOf iv).toNat)
              case atStart => exact ⟨0, rfl, Hid.mk (Nat.zero_le _), HROW8, Hid.mk (Only.refl _ _)⟩
              case round =>
                obtain ⟨t, rfl, ht, HRW, HON⟩ := hrel
                clear HROW8
                by_cases htl : (t : Int) < 1024
                · have ht2 : t < 1024 := by omega
                  obtain ⟨zs, hzs⟩ := HRW.out
                  obtain ⟨v1, v2, _⟩ := owns_cell hzs t ht2
                  have HZS := Hid.mk hzs
                  generalize zs.getD t 0 = zv at v1
                  have u1 : IntKind.i64.wrap ((t : Int) + 1) = (t : Int) + 1 := by rw [IntKind.wrap_i64]; omega
                  have u2 : (0 : Int) ≤ (t : Int) := by omega
                  have HT2 := Hid.mk ht2
                  clear hzs HRW ht2
                  go_wp2
                  go_roundw
                  case rel => exact ⟨t + 1, by go_num, Hid.mk HT2.out, Hid.mk ⟨_, owns_set HZS.out t _⟩, Hid.mk (HON.out.setCell (p := ⟨g, t, none⟩) (.inl rfl) _)⟩
                  case measure => (have := HT2.out; clear HZS HON; simp [intOf]; omega)
                · go_wp2
                  go_meet
                  case rel => exact Hid.mk (HEND.out _ _ _ _ _ (H8.out.side (HON.out.mono (fun k _ hk => .inr hk)) (fun k hk => ⟨Nat.lt_of_lt_of_le (H8.out.xlt k (.inl hk)) HON.out.size, .inl (.inl hk)⟩)) (by rw [HK.out]; exact HO.out.got HGN.out))
        · skip
          by_cases y1 : wy = 1
          · subst y1
            as_aux_lemma =>
              have HFI : Hid (Fine reads (ms.map Md.kb) s) := Hid.mk (HO.out.fine (by have h2 := HN.out; have h3 := HJN.out; omega))
              have hl9 : ms.length ≤ 900000 := by have h1 := HO.out.len; have h2 := HN.out; have h3 := HJN.out; rw [List.length_map] at h1; omega
              rcases at_fnd (n := bk) HZ.out.1.nums with ⟨ha, hf⟩ | ⟨k, hk, ha, hnum, hf, hflt, hupd⟩
              · rw [ha]
                have HS := Hid.mk (q_mshrink HZ.out.1 hl9)
                have er : relB (ms.map Md.kb) bk = false := by unfold relB; rw [hf]
                have el : relL sz (ms.map Md.kb) bk = ms.map Md.kb := by unfold relL; rw [hf]
                have HEL := Hid.mk el
                have HER := Hid.mk er
                clear el er hl9 hf
                go_wp2_with (first
                  | (go_at_call 14; refine HS.out.mono ?_; rintro e' w7 ⟨rfl, lv', ms', hk', hq7, hk7⟩; rw [HO.out.sta] at hk'; obtain ⟨l1, _, _⟩ := HCELL.out w7 ((hk7 _ rfl).trans HZ.out.2); have HRL := Hid.mk (q_release hq7 bk HWF.out HFI.out); rw [HER.out, HEL.out, ← hk'] at HRL; have HK := Hid.mk hk'; clear hk' hq7 hk7 HS)
                  | (go_at_call 15; refine HRL.out.mono ?_; rintro e' w8 ⟨rfl, hq8, _⟩; have H8 := Hid.mk hq8; clear hq8 HRL))
                go_meet
                case rel => exact Hid.mk (HEND.out _ _ _ _ _ H8.out (by rw [HK.out]; exact HO.out.more))
              · rw [ha]
                obtain ⟨c0, _, _, hcs⟩ := q_cells HZ.out.1
                obtain ⟨g, cp, hlv, hcap, hcc⟩ := hcs k hk
                subst hlv
                obtain ⟨d0, d1, d2, d3, dfz⟩ := hcc k hk
                have df1 := dfz (k * 4 + 1)
                obtain ⟨x, xg, xc, hx⟩ : ∃ x xg xc, ms.getD k md0 = ⟨x, xg, xc⟩ := ⟨_, _, _, rfl⟩
                rw [hx] at d0 d1 d2 d3 hnum hf
                simp only at d0 d1 d2 d3 hnum hf
                have hki : ((k : Nat) : Int) < (ms.length : Int) := by omega
                have hk0 : (0 : Int) ≤ (k : Int) := by omega
                by_cases hp : 0 < x.pins
                · obtain ⟨p1, hp1⟩ : ∃ p1 : Nat, x.pins = p1 + 1 := ⟨x.pins - 1, by omega⟩
                  obtain ⟨pv, hpv⟩ : ∃ pv : Int, ((x.pins : Nat) : Int) = pv := ⟨_, rfl⟩
                  have q1 : (0 : Int) < pv := by omega
                  have q2 : IntKind.i64.wrap (pv - 1) = (p1 : Int) := by
                    have h0 : x.pins ≤ 200 := by
                      have h1 := HO.out.pins x (by rw [← show (ms.getD k md0).kb = x by rw [hx]]; exact List.mem_map.2 ⟨_, by rw [List.getD_eq_getElem?_getD, List.getElem?_eq_getElem hk]; exact List.getElem_mem hk, rfl⟩)
                      have h2 := HN.out
                      have h3 := HJN.out
                      omega
                    rw [IntKind.wrap_i64]; omega
                  rw [hpv] at d1
                  obtain ⟨hq6, hk6⟩ := q_upd HZ.out.1 (Below.refl _ _) k 1 hk (by omega) (.int .i64 (p1 : Int)) ⟨x.by p1 x.dirty, xg, xc⟩ (by rw [hx]; rfl) (.inr (by rw [hx]; exact ⟨rfl, rfl, rfl⟩))
                  have HS := Hid.mk (q_mshrink hq6 (by rw [List.length_set]; exact hl9))
                  have HK6 := Hid.mk (hk6 _ rfl)
                  have er : relB (ms.map Md.kb) bk = true := by unfold relB; rw [hf]; simp [hp1]
                  have el : relL sz (ms.map Md.kb) bk = shk sz ((ms.set k ⟨x.by p1 x.dirty, xg, xc⟩).map Md.kb) := by
                    rw [hupd ⟨x.by p1 x.dirty, xg, xc⟩ hnum]
                    unfold relL
                    rw [hf]
                    simp only
                    rw [if_pos hp, hp1]
                    rfl
                  have HEL := Hid.mk el
                  have HER := Hid.mk er
                  clear el er hl9 hf hcs hcc hflt hupd hp hq6 hk6 hp1 hnum hpv
                  go_wp2_with (first
                    | (go_at_call 14; refine HS.out.mono ?_; rintro e' w7 ⟨rfl, lv', ms', hk', hq7, hk7⟩; rw [← HEL.out] at hk'; obtain ⟨l1, _, _⟩ := HCELL.out w7 ((hk7 _ rfl).trans (HK6.out.trans HZ.out.2)); have HRL := Hid.mk (q_release hq7 bk HWF.out HFI.out); rw [HER.out, ← hk'] at HRL; have HK := Hid.mk hk'; clear hk' hq7 hk7 HS)
                    | (go_at_call 15; refine HRL.out.mono ?_; rintro e' w8 ⟨rfl, hq8, _⟩; have H8 := Hid.mk hq8; clear hq8 HRL))
                  go_meet
                  case rel => exact Hid.mk (HEND.out _ _ _ _ _ H8.out (by rw [HK.out]; exact HO.out.rel bk))
                · have hp0 : x.pins = 0 := by omega
                  rw [hp0] at d1
                  have HS := Hid.mk (q_mshrink HZ.out.1 hl9)
                  have er : relB (ms.map Md.kb) bk = false := by unfold relB; rw [hf]; simp [hp0]
                  have el : relL sz (ms.map Md.kb) bk = ms.map Md.kb := by unfold relL; rw [hf]; simp [hp0]
                  have HEL := Hid.mk el
                  have HER := Hid.mk er
                  clear el er hl9 hf hcs hcc hflt hupd hp
                  go_wp2_with (first
                    | (go_at_call 14; refine HS.out.mono ?_; rintro e' w7 ⟨rfl, lv', ms', hk', hq7, hk7⟩; rw [HO.out.sta] at hk'; obtain ⟨l1, _, _⟩ := HCELL.out w7 ((hk7 _ rfl).trans HZ.out.2); have HRL := Hid.mk (q_release hq7 bk HWF.out HFI.out); rw [HER.out, HEL.out, ← hk'] at HRL; have HK := Hid.mk hk'; clear hk' hq7 hk7 HS)
                    | (go_at_call 15; refine HRL.out.mono ?_; rintro e' w8 ⟨rfl, hq8, _⟩; have H8 := Hid.mk hq8; clear hq8 HRL))
                  go_meet
                  case rel => exact Hid.mk (HEND.out _ _ _ _ _ H8.out (by rw [HK.out]; exact HO.out.more))
          · skip
            by_cases y2 : wy = 2
            · subst y2
              as_aux_lemma =>
                obtain ⟨kI, hkI⟩ : ∃ kI, kI = atI ms bk := ⟨_, rfl⟩
                rw [← hkI]
                have HKI := Hid.mk hkI
                clear hkI
                have HFI : Hid (Fine reads (ms.map Md.kb) s) := Hid.mk (HO.out.fine (by have h2 := HN.out; have h3 := HJN.out; omega))
                have HL9 : Hid (ms.length ≤ 200) := Hid.mk (by have h1 := HO.out.len; have h2 := HN.out; have h3 := HJN.out; rw [List.length_map] at h1; omega)
                have HXL : Hid (wr.heap.size < W6.heap.size) := Hid.mk (HZ.out.1.xlt _ rfl)
                have HBK := Hid.mk (q_block HZ.out.1 av)
                go_upto_if 153 with (go_at_call 16; refine HBK.out.mono ?_; rintro e' w7 ⟨g2, rfl, hrow, hg2, hq7, hB7⟩; have HC7 := Hid.mk ((hB7.block _ HXL.out).trans HZ.out.2); obtain ⟨l1, l2, l3⟩ := HCELL.out w7 HC7.out; have HROW := Hid.mk hrow; have HQ := Hid.mk hq7; clear hq7 hrow hB7 HBK hg2)
                clear k1 k2 k3
                go_cut [19] from 151 to 155 (fun v W => ∃ L : Nat, v = .slice (some ⟨g2, 0, none⟩) L 1024 ∧ Hid (L = 1024 ∨ L = 1000) ∧ Hid (W = w7))
                case first =>
                  by_cases hneg : an < 0
                  · go_wp2
                    go_meet
                    case rel => exact ⟨1000, rfl, Hid.mk (.inr rfl), Hid.mk rfl⟩
                  · go_wp2
                    go_meet
                    case rel => exact ⟨1024, rfl, Hid.mk (.inl rfl), Hid.mk rfl⟩
                case rest =>
                obtain ⟨L, rfl, HLL, hwc⟩ := hcut
                obtain ⟨W7, hW7⟩ : ∃ W7, W7 = w7 := ⟨_, rfl⟩
                rw [hwc.out, ← hW7]
                rw [← hW7] at HC7 l1 l2 l3 HROW HQ
                clear hwc hW7
                obtain ⟨ys, hys⟩ : ∃ ys, ys = (blkV av).take L := ⟨_, rfl⟩
                have HYL : Hid (ys.length = L) := Hid.mk (by rw [hys, List.length_take, blkV_len]; have := HLL.out; omega)
                have HYS := Hid.mk hys
                obtain ⟨pb, hpb⟩ : ∃ pb, pb = putB (ms.map Md.kb) bk ys := ⟨_, rfl⟩
                have HPB := Hid.mk hpb
                clear hpb hys
                go_upto_region 40 with fail
                go_cut [20] from 156 to 173 (fun v W => v = .bool pb ∧ Hid (W = W7))
                case first =>
                  rcases at_fnd (n := bk) HQ.out.nums with ⟨ha, hf⟩ | ⟨k, hk, ha, hnum, hf, hflt, hupd⟩
                  · obtain rfl : kI = -1 := HKI.out.trans ha
                    have hb : pb = false := by rw [HPB.out]; unfold putB; rw [hf]
                    subst hb
                    clear hf
                    go_wp2
                    go_meet
                    case rel => exact ⟨rfl, Hid.mk rfl⟩
                  · obtain rfl : kI = (k : Int) := HKI.out.trans ha
                    obtain ⟨c0, _, _, hcs⟩ := q_cells HQ.out
                    obtain ⟨g, cp, hlv, hcap, hcc⟩ := hcs k hk
                    subst hlv
                    obtain ⟨d0, d1, d2, d3, dfz⟩ := hcc k hk
                    obtain ⟨x, xg, xc, hx⟩ : ∃ x xg xc, ms.getD k md0 = ⟨x, xg, xc⟩ := ⟨_, _, _, rfl⟩
                    rw [hx] at d0 d1 d2 d3 hnum hf
                    simp only at d0 d1 d2 d3 hnum hf
                    have hki : ((k : Nat) : Int) < (ms.length : Int) := by omega
                    have hk0 : (0 : Int) ≤ (k : Int) := by omega
                    by_cases hp : 0 < x.pins
                    · obtain ⟨pv, hpv⟩ : ∃ pv : Int, ((x.pins : Nat) : Int) = pv := ⟨_, rfl⟩
                      have q1 : (0 : Int) < pv := by omega
                      rw [hpv] at d1
                      rcases HLL.out with hL | hL
                      · subst hL
                        have hb : pb = true := by rw [HPB.out]; unfold putB; rw [hf]; simp [hp, HYL.out]
                        subst hb
                        clear hf hcs hcc hflt hupd hp hpv
                        go_wp2
                        go_meet
                        case rel => exact ⟨rfl, Hid.mk rfl⟩
                      · subst hL
                        have hb : pb = false := by rw [HPB.out]; unfold putB; rw [hf]; simp [HYL.out]
                        subst hb
                        clear hf hcs hcc hflt hupd hp hpv
                        go_wp2
                        go_meet
                        case rel => exact ⟨rfl, Hid.mk rfl⟩
                    · have hp0 : x.pins = 0 := by omega
                      rw [hp0] at d1
                      have hb : pb = false := by rw [HPB.out]; unfold putB; rw [hf]; simp [hp0]
                      subst hb
                      clear hf hcs hcc hflt hupd hp
                      go_wp2
                      go_meet
                      case rel => exact ⟨rfl, Hid.mk rfl⟩
                case rest =>
                obtain ⟨rfl, hwc⟩ := hcut
                rw [hwc.out]
                clear hwc
                go_upto_if 174 with fail
                go_cut [20] from 174 to 191 (fun v W => v = .bool pb ∧ Hid (∃ lv' ms', ms'.map Md.kb = putL (ms.map Md.kb) bk ys ∧ Pq (fun k => k = wr.heap.size ∨ k = g2) w W c d mm e sz reads (ms.map Md.kb) s reads lv' ms' s ∧ Kx (fun k => k = wr.heap.size ∨ k = g2) W7 W))
                case first =>
                  by_cases hb : pb = true
                  · subst hb
                    rcases at_fnd (n := bk) HQ.out.nums with ⟨ha, hf⟩ | ⟨k, hk, ha, hnum, hf, hflt, hupd⟩
                    · exfalso
                      have := HPB.out
                      unfold putB at this
                      rw [hf] at this
                      cases this
                    · obtain rfl : kI = (k : Int) := HKI.out.trans ha
                      obtain ⟨c0, _, _, hcs⟩ := q_cells HQ.out
                      obtain ⟨g, cp, hlv, hcap, hcc⟩ := hcs k hk
                      subst hlv
                      obtain ⟨d0, d1, d2, d3, dfz⟩ := hcc k hk
                      obtain ⟨x, xg, xc, hx⟩ : ∃ x xg xc, ms.getD k md0 = ⟨x, xg, xc⟩ := ⟨_, _, _, rfl⟩
                      rw [hx] at d0 d1 d2 d3 hnum hf
                      simp only at d0 d1 d2 d3 hnum hf
                      have hki : ((k : Nat) : Int) < (ms.length : Int) := by omega
                      have hk0 : (0 : Int) ≤ (k : Int) := by omega
                      have hpp : 0 < x.pins ∧ ys.length = 1024 := by
                        have := HPB.out
                        unfold putB at this
                        rw [hf] at this
                        simpa using this.symm
                      have HEL : Hid ((ms.set k ⟨⟨x.num, x.pins, true, blkV av⟩, xg, xc⟩).map Md.kb = putL (ms.map Md.kb) bk ys) := Hid.mk (by
                        rw [hupd ⟨⟨x.num, x.pins, true, blkV av⟩, xg, xc⟩ hnum]
                        unfold putL
                        rw [hf]
                        simp only
                        rw [if_pos (by simp [hpp]), HYS.out, List.take_of_length_le]
                        rw [blkV_len]
                        have h1 := HYL.out
                        omega)
                      have HKL := Hid.mk hk
                      have HX := Hid.mk hx
                      have HQD := Hid.mk (HQ.out.grow ((Below.refl _ W7).drew))
                      have HBK2 := Hid.mk (q_block HQD.out av)
                      have HS0 : Hid (W7.drew.cell? ⟨mm, 0, none⟩ = some (.slice (some ⟨g, 0, none⟩) ms.length cp) ∧ W7.drew.cell? ⟨wr.heap.size, 2, none⟩ = some (.int .i64 av) ∧ W7.drew.frozen? ⟨g, k * 4 + 3, none⟩ = false) := Hid.mk ⟨c0, l2, dfz _⟩
                      have HST : Hid (∀ W', Below W7.drew.heap.size W7.drew W' → W'.cell? ⟨mm, 0, none⟩ = some (.slice (some ⟨g, 0, none⟩) ms.length cp) ∧ W'.cell? ⟨wr.heap.size, 2, none⟩ = some (.int .i64 av) ∧ W'.frozen? ⟨g, k * 4 + 3, none⟩ = false) := Hid.mk (fun W' hB => by
                        have hq := HQD.out.grow hB
                        obtain ⟨e0, _, _, ecs⟩ := q_cells hq
                        obtain ⟨g', cp', hlv', _, hcc'⟩ := ecs k HKL.out
                        cases hlv'
                        exact ⟨e0, (World.cell?_of_block (w := W7.drew) (hB.block wr.heap.size (HQ.out.xlt _ (.inl rfl)))).trans l2, (hcc' k HKL.out).2.2.2.2 _⟩)
                      have HSC : Hid (∀ W', Below W7.drew.heap.size W7.drew W' → ∃ v9, W'.cell? ⟨g, k * 4 + 3, none⟩ = some v9) := Hid.mk (fun W' hB => by
                        have hq := HQD.out.grow hB
                        obtain ⟨e0, _, _, ecs⟩ := q_cells hq
                        obtain ⟨g', cp', hlv', _, hcc'⟩ := ecs k HKL.out
                        cases hlv'
                        exact ⟨_, (hcc' k HKL.out).2.2.2.1⟩)
                      have HSE : Hid (∀ W' z, Pq (fun k => k = wr.heap.size ∨ k = g2) w W' c d mm e sz reads (ms.map Md.kb) s reads (.slice (some ⟨g, 0, none⟩) (ms.set k z).length cp) (ms.set k z) s → Kx (fun k => k = wr.heap.size ∨ k = g2) W7.drew W' → W'.cell? ⟨mm, 0, none⟩ = some (.slice (some ⟨g, 0, none⟩) ms.length cp) ∧ W'.cell? ⟨wr.heap.size, 2, none⟩ = some (.int .i64 av) ∧ W'.frozen? ⟨g, k * 4 + 3, none⟩ = false) := Hid.mk (fun W' z hq hk => by
                        obtain ⟨e0, _, _, ecs⟩ := q_cells hq
                        obtain ⟨g', cp', hlv', _, hcc'⟩ := ecs k (by rw [List.length_set]; exact HKL.out)
                        cases hlv'
                        rw [List.length_set] at e0
                        exact ⟨e0, (World.cell?_of_block (w := W7.drew) (hk wr.heap.size (.inl rfl))).trans l2, (hcc' k (by rw [List.length_set]; exact HKL.out)).2.2.2.2 _⟩)
                      clear hf hcs hcc hflt hupd hpp hnum c0 d0 d1 d2 d3 dfz hcap hx
                      go_upto_region 42 with fail
                      refine wp_region_held_drew (S := fun W => W.cell? ⟨mm, 0, none⟩ = some (.slice (some ⟨g, 0, none⟩) ms.length cp) ∧ W.cell? ⟨wr.heap.size, 2, none⟩ = some (.int .i64 av) ∧ W.frozen? ⟨g, k * 4 + 3, none⟩ = false) (by kernel_rfl) HS0.out (fun hH => ?_)
                      change wpAnyH Try.prog Region.Mode.any _ _ _ 11 _ _ _
                      refine takeH 0 175 (.pointer (some ⟨mm, 0, none⟩)) rfl (by kernel_rfl) (by kernel_rfl) (by kernel_rfl) (by kernel_rfl) (fun _ _ _ h => h) (by kernel_rfl) (fun w hw => by kernel_rfl) hH ?_
                      simp only [List.setIfInBounds_toArray, List.set_cons_zero, List.set_cons_succ]
                      refine takeH 1 176 (.pointer (some ⟨mm, 0, none⟩)) rfl (by kernel_rfl) (by kernel_rfl) (by kernel_rfl) (by kernel_rfl) (fun _ _ _ h => h) (by kernel_rfl) (fun w hw => by (try dsimp only at hw); go_simp) hH ?_
                      simp only [List.setIfInBounds_toArray, List.set_cons_zero, List.set_cons_succ]
                      refine takeH 2 177 (.pointer (some ⟨mm, 0, none⟩)) rfl (by kernel_rfl) (by kernel_rfl) (by kernel_rfl) (by kernel_rfl) (fun _ _ _ h => h) (by kernel_rfl) (fun w hw => by (try dsimp only at hw); go_simp) hH ?_
                      simp only [List.setIfInBounds_toArray, List.set_cons_zero, List.set_cons_succ]
                      refine takeH 3 178 (.slice (some ⟨g, 0, none⟩) ms.length cp) rfl (by kernel_rfl) (by kernel_rfl) (by kernel_rfl) (by kernel_rfl) (fun _ _ _ h => h) (by kernel_rfl) (fun w hw => by (try dsimp only at hw); go_simp) hH ?_
                      simp only [List.setIfInBounds_toArray, List.set_cons_zero, List.set_cons_succ]
                      refine takeH 4 179 (.int .i64 (k : Int)) rfl (by kernel_rfl) (by kernel_rfl) (by kernel_rfl) (by kernel_rfl) (fun _ _ _ h => h) (by kernel_rfl) (fun w hw => by kernel_rfl) hH ?_
                      simp only [List.setIfInBounds_toArray, List.set_cons_zero, List.set_cons_succ]
                      refine takeH 5 180 (.pointer (some ⟨wr.heap.size, 2, none⟩)) rfl (by kernel_rfl) (by kernel_rfl) (by kernel_rfl) (by kernel_rfl) (fun _ _ _ h => h) (by kernel_rfl) (fun w hw => by (try dsimp only at hw); go_simp) hH ?_
                      simp only [List.setIfInBounds_toArray, List.set_cons_zero, List.set_cons_succ]
                      refine takeH 6 181 (.int .i64 av) rfl (by kernel_rfl) (by kernel_rfl) (by kernel_rfl) (by kernel_rfl) (fun _ _ _ h => h) (by kernel_rfl) (fun w hw => by (try dsimp only at hw); go_simp) hH ?_
                      simp only [List.setIfInBounds_toArray, List.set_cons_zero, List.set_cons_succ]
                      refine stepH_call 7 182 rfl (by kernel_rfl) (by kernel_rfl) (by kernel_rfl) 16 #[.tmp 181] #[3] (by kernel_rfl) (enters_of Try.func16 (by kernel_rfl) rfl) #[.int .i64 av] (by kernel_rfl) HBK2.out ?_
                      rintro e' w8 ⟨g3, rfl, hrow3, hg3, _, hB8⟩
                      have hH8 := HST.out w8 hB8
                      refine ⟨_, rfl, hH8, ?_⟩
                      simp only [List.setIfInBounds_toArray, List.set_cons_zero, List.set_cons_succ]
                      refine takeH 8 183 (.pointer (some ⟨g, k * 4, none⟩)) rfl (by kernel_rfl) (by kernel_rfl) (by kernel_rfl) (by kernel_rfl) (fun _ _ _ h => h) (by kernel_rfl) (fun w hw => by (try dsimp only at hw); go_simp) hH8 ?_
                      simp only [List.setIfInBounds_toArray, List.set_cons_zero, List.set_cons_succ]
                      refine takeH 9 184 (.pointer (some ⟨g, k * 4 + 3, none⟩)) rfl (by kernel_rfl) (by kernel_rfl) (by kernel_rfl) (by kernel_rfl) (fun _ _ _ h => h) (by kernel_rfl) (fun w hw => by (try dsimp only at hw); go_simp) hH8 ?_
                      simp only [List.setIfInBounds_toArray, List.set_cons_zero, List.set_cons_succ]
                      obtain ⟨hq9, hk9⟩ := q_upd HQD.out hB8 k 3 HKL.out (by omega) (.slice (some ⟨g3, 0, none⟩) 1024 1024) ⟨⟨x.num, x.pins, x.dirty, blkV av⟩, g3, 1024⟩ (by rw [HX.out]; rfl) (.inl ⟨hrow3, hg3⟩)
                      have HQ9 := Hid.mk hq9
                      have HK9 := Hid.mk hk9
                      obtain ⟨v9, hv9⟩ := HSC.out w8 hB8
                      refine stepH_one 10 (by kernel_rfl) (opH_store 10 (w8.setCell ⟨g, k * 4 + 3, none⟩ (.slice (some ⟨g3, 0, none⟩) 1024 1024)) rfl (by kernel_rfl) (by kernel_rfl) (by (try dsimp only at hH8); go_simp) (HSE.out _ _ hq9 hk9) ?_)
                      clear hq9 hk9
                      refine wpAnyH_done (by kernel_rfl) ?_ _
                      obtain ⟨c0, _, _, hcs⟩ := q_cells HQ9.out
                      obtain ⟨g', cp', hlv', _, hcc⟩ := hcs k (by rw [List.length_set]; exact HKL.out)
                      cases hlv'
                      obtain ⟨d0, d1, d2, d3, dfz⟩ := hcc k (by rw [List.length_set]; exact HKL.out)
                      have df2 := dfz (k * 4 + 2)
                      rw [List.length_set] at c0
                      obtain ⟨hqa, hka⟩ := q_upd HQ9.out (Below.refl _ _) k 2 (by rw [List.length_set]; exact HKL.out) (by omega) (.bool true) ⟨⟨x.num, x.pins, true, blkV av⟩, g3, 1024⟩ (by rw [List.getD_eq_getElem?_getD, List.getElem?_set_self HKL.out]; rfl) (.inr (by rw [List.getD_eq_getElem?_getD, List.getElem?_set_self HKL.out]; exact ⟨rfl, rfl, rfl⟩))
                      have HQA := Hid.mk hqa
                      have HKA := Hid.mk hka
                      clear hcs hcc hqa hka
                      go_wp2
                      go_meet
                      case rel => exact ⟨rfl, Hid.mk ⟨_, _, by rw [List.set_set, ← HEL.out, List.map_set, List.map_set], HQA.out, fun k hk => (HKA.out k hk).trans (HK9.out k hk)⟩⟩
                  · have hb : pb = false := by simpa using hb
                    subst hb
                    have HEL : Hid (ms.map Md.kb = putL (ms.map Md.kb) bk ys) := Hid.mk (by
                      have := HPB.out
                      unfold putB at this
                      unfold putL
                      cases hf : fndK (ms.map Md.kb) bk with
                      | none => rfl
                      | some x =>
                        rw [hf] at this
                        simp only at this ⊢
                        rw [← this, if_neg (by simp)])
                    go_wp2
                    go_meet
                    case rel => exact ⟨rfl, Hid.mk ⟨_, ms, HEL.out, HQ.out, fun _ _ => rfl⟩⟩
                case rest =>
                obtain ⟨rfl, HR⟩ := hcut
                obtain ⟨lv3, ms3, HK3, HQ3, HX3⟩ : ∃ lv3 ms3, Hid (ms3.map Md.kb = putL (ms.map Md.kb) bk ys) ∧ Hid (Pq (fun k => k = wr.heap.size ∨ k = g2) w wc c d mm e sz reads (ms.map Md.kb) s reads lv3 ms3 s) ∧ Hid (Kx (fun k => k = wr.heap.size ∨ k = g2) W7 wc) := by
                  obtain ⟨a, b, h1, h2, h3⟩ := HR.out
                  exact ⟨a, b, Hid.mk h1, Hid.mk h2, Hid.mk h3⟩
                clear HR l1 l2 l3
                obtain ⟨l1, l2, l3⟩ := HCELL.out wc ((HX3.out _ (.inl rfl)).trans HC7.out)
                have HR3 := Hid.mk (row_kx HROW.out (HX3.out g2 (.inr rfl)))
                have HB3 : Hid (BAt wc (some ⟨g2, 0, none⟩) L ys) := Hid.mk (by rw [HYS.out]; exact bat_take (row_bat HR3.out) L (by have := HLL.out; omega))
                have HPUT := Hid.mk (q_put HQ3.out bk HWF.out HFI.out _ L 1024 ys HB3.out)
                rw [← HPB.out, ← HK3.out] at HPUT
                have hxx : (pb != pb) = false := by simp
                go_wp2_with (go_at_call 17; refine HPUT.out.mono ?_; rintro e' w9 ⟨rfl, hq9, hk9⟩; have H9 := Hid.mk hq9; have HR9 := Hid.mk (row_kx HR3.out (hk9 g2 (.inr rfl))); clear hq9 hk9 HPUT)
                have HROW9 : Hid (∃ zs, w9.ownsRow 0 5 1 (.slice (some ⟨g2, 0, none⟩) 1024 1024) 1024 (By zs)) := Hid.mk ⟨_, HR9.out⟩
                clear HB3 HR9 HR3 HROW HQ HQ3
                go_loopw [22] (fun iv wr2 => ∃ t : Nat, iv = .int .i64 t ∧ Hid (t ≤ L) ∧ Hid (∃ zs, wr2.ownsRow 0 5 1 (.slice (some ⟨g2, 0, none⟩) 1024 1024) 1024 (By zs)) ∧ Hid (Only (fun k => k = g2) w9 wr2)) (fun iv _ => L - (intOf iv).toNat)
                case atStart => exact ⟨0, rfl, Hid.mk (Nat.zero_le _), HROW9, Hid.mk (Only.refl _ _)⟩
                case round =>
                  obtain ⟨t, rfl, ht, HRW, HON⟩ := hrel
                  clear HROW9
                  by_cases htl : (t : Int) < (L : Int)
                  · have ht2 : t < 1024 := by have := HLL.out; omega
                    have ht3 : t < L := by omega
                    obtain ⟨zs, hzs⟩ := HRW.out
                    obtain ⟨v1, v2, _⟩ := owns_cell hzs t ht2
                    have HZS := Hid.mk hzs
                    generalize zs.getD t 0 = zv at v1
                    have u1 : IntKind.i64.wrap ((t : Int) + 1) = (t : Int) + 1 := by rw [IntKind.wrap_i64]; omega
                    have u2 : (0 : Int) ≤ (t : Int) := by omega
                    have HT2 := Hid.mk ht3
                    clear hzs HRW ht2 ht3
                    go_wp2
                    go_roundw
                    case rel => exact ⟨t + 1, by go_num, Hid.mk HT2.out, Hid.mk ⟨_, owns_set HZS.out t _⟩, Hid.mk (HON.out.setCell (p := ⟨g2, t, none⟩) (.inl rfl) _)⟩
                    case measure => (have := HT2.out; clear HZS HON; simp [intOf]; omega)
                  · go_wp2
                    go_meet
                    case rel => exact Hid.mk (HEND.out _ _ _ _ _ (H9.out.side (HON.out.mono (fun k _ hk => .inr hk)) (fun k hk => ⟨Nat.lt_of_lt_of_le (H9.out.xlt k (.inl hk)) HON.out.size, .inl (.inl hk)⟩)) (by rw [HK3.out]; exact HO.out.put bk ys))
            · skip
              by_cases y3 : wy = 3
              · subst y3
                as_aux_lemma =>
                  obtain ⟨kI, hkI⟩ : ∃ kI, kI = atI ms bk := ⟨_, rfl⟩
                  rw [← hkI]
                  have HKI := Hid.mk hkI
                  clear hkI
                  have HFI : Hid (Fine reads (ms.map Md.kb) s) := Hid.mk (HO.out.fine (by have h2 := HN.out; have h3 := HJN.out; omega))
                  have HL9 : Hid (ms.length ≤ 200) := Hid.mk (by have h1 := HO.out.len; have h2 := HN.out; have h3 := HJN.out; rw [List.length_map] at h1; omega)
                  have HXL : Hid (wr.heap.size < W6.heap.size) := Hid.mk (HZ.out.1.xlt _ rfl)
                  have HQ := Hid.mk HZ.out.1
                  obtain ⟨fb, hfb⟩ : ∃ fb, fb = fluB (ms.map Md.kb) s bk := ⟨_, rfl⟩
                  have HFB := Hid.mk hfb
                  have HNUM := Hid.mk HQ.out.nums
                  clear hfb
                  obtain ⟨dy, hdy0⟩ : ∃ dy, dy = (match fndK (ms.map Md.kb) bk with | some x => x.dirty | none => false) := ⟨_, rfl⟩
                  have HDY := Hid.mk hdy0
                  clear hdy0
                  go_upto_region 53 with fail
                  go_cut [227] from 216 to 227 (fun v W => v = .bool dy ∧ Hid (W = W6))
                  case first =>
                    rcases at_fnd (n := bk) HQ.out.nums with ⟨ha, hf⟩ | ⟨k, hk, ha, hnum, hf, hflt, hupd⟩
                    · obtain rfl : kI = -1 := HKI.out.trans ha
                      have hb : dy = false := by rw [HDY.out, hf]
                      subst hb
                      clear hf
                      go_wp2
                      go_meet
                      case rel => exact ⟨rfl, Hid.mk rfl⟩
                    · obtain rfl : kI = (k : Int) := HKI.out.trans ha
                      obtain ⟨c0, _, _, hcs⟩ := q_cells HQ.out
                      obtain ⟨g, cp, hlv, hcap, hcc⟩ := hcs k hk
                      subst hlv
                      obtain ⟨d0, d1, d2, d3, dfz⟩ := hcc k hk
                      obtain ⟨x, xg, xc, hx⟩ : ∃ x xg xc, ms.getD k md0 = ⟨x, xg, xc⟩ := ⟨_, _, _, rfl⟩
                      rw [hx] at d0 d1 d2 d3 hnum hf
                      simp only at d0 d1 d2 d3 hnum hf
                      have hki : ((k : Nat) : Int) < (ms.length : Int) := by omega
                      have hk0 : (0 : Int) ≤ (k : Int) := by omega
                      have hb : dy = x.dirty := by rw [HDY.out, hf]
                      subst hb
                      clear hf hcs hcc hflt hupd
                      go_wp2
                      go_meet
                      case rel => exact ⟨rfl, Hid.mk rfl⟩
                  case rest =>
                  obtain ⟨rfl, hwc⟩ := hcut
                  rw [hwc.out]
                  clear hwc
                  go_upto_if 227 with fail
                  go_cut [23] from 216 to 248 (fun v W => v = .bool fb ∧ Hid (∃ lv' ms', ms'.map Md.kb = fluM (ms.map Md.kb) s bk ∧ Pq (fun k => k = wr.heap.size) w W c d mm e sz reads (ms.map Md.kb) s reads lv' ms' (fluS (ms.map Md.kb) s bk) ∧ Kx (fun k => k = wr.heap.size) W6 W))
                  case first =>
                    by_cases hb0 : dy = true
                    · subst hb0
                      rcases at_fnd (n := bk) HQ.out.nums with ⟨ha, hf⟩ | ⟨k, hk, ha, hnum, hf, hflt, hupd⟩
                      · exfalso
                        have := HDY.out
                        rw [hf] at this
                        cases this
                      · obtain rfl : kI = (k : Int) := HKI.out.trans ha
                        obtain ⟨c0, _, _, hcs⟩ := q_cells HQ.out
                        obtain ⟨g, cp, hlv, hcap, hcc⟩ := hcs k hk
                        subst hlv
                        obtain ⟨d0, d1, d2, d3, dfz⟩ := hcc k hk
                        obtain ⟨x, xg, xc, hx⟩ : ∃ x xg xc, ms.getD k md0 = ⟨x, xg, xc⟩ := ⟨_, _, _, rfl⟩
                        rw [hx] at d0 d1 d2 d3 hnum hf
                        simp only at d0 d1 d2 d3 hnum hf
                        have hki : ((k : Nat) : Int) < (ms.length : Int) := by omega
                        have hk0 : (0 : Int) ≤ (k : Int) := by omega
                        have hdy : x.dirty = true := by have := HDY.out; rw [hf] at this; exact this.symm
                        rw [hdy] at d2
                        have hmem : (⟨x, xg, xc⟩ : Md) ∈ ms := by
                          rw [← hx, List.getD_eq_getElem?_getD, List.getElem?_eq_getElem hk]
                          exact List.getElem_mem hk
                        have hb : fb = (Dk.wrS s bk x.dat).1 := by rw [HFB.out]; unfold fluB; rw [hf]; simp [hdy, hnum]
                        have HE1 : Hid ((ms.set k ⟨x.by x.pins (!fb), xg, xc⟩).map Md.kb = fluM (ms.map Md.kb) s bk) := Hid.mk (by
                          rw [hupd ⟨x.by x.pins (!fb), xg, xc⟩ hnum]
                          unfold fluM
                          rw [hf]
                          simp only
                          rw [if_pos hdy, hnum, hb])
                        have HE2 : Hid (fluS (ms.map Md.kb) s bk = (Dk.wrS s bk x.dat).2) := Hid.mk (by unfold fluS; rw [hf]; simp [hdy, hnum])
                        have HKL := Hid.mk hk
                        have HX := Hid.mk hx
                        have HQD := Hid.mk (HQ.out.grow ((Below.refl _ W6).drew))
                        have HWR := Hid.mk (q_write HQD.out (by rw [HO.out.img]; omega) _ HO.out.sane (by have h2 := HN.out; have h3 := HJN.out; omega) bk _ hmem)
                        simp only at HWR
                        rw [← hb] at HWR
                        have HS0 : Hid (W6.drew.cell? ⟨wr.heap.size, 1, none⟩ = some (.int .i64 bk) ∧ W6.drew.cell? ⟨mm, 0, none⟩ = some (.slice (some ⟨g, 0, none⟩) ms.length cp) ∧ W6.drew.cell? ⟨g, k * 4 + 3, none⟩ = some (.slice (some ⟨xg, 0, none⟩) 1024 xc)) := Hid.mk ⟨k1, c0, d3⟩
                        have HST : Hid (∀ W' s', Pq (fun k => k = wr.heap.size) w W' c d mm e sz reads (ms.map Md.kb) s reads (.slice (some ⟨g, 0, none⟩) ms.length cp) ms s' → Kx (fun k => k = wr.heap.size) W6.drew W' → W'.cell? ⟨wr.heap.size, 1, none⟩ = some (.int .i64 bk) ∧ W'.cell? ⟨mm, 0, none⟩ = some (.slice (some ⟨g, 0, none⟩) ms.length cp) ∧ W'.cell? ⟨g, k * 4 + 3, none⟩ = some (.slice (some ⟨xg, 0, none⟩) 1024 xc)) := Hid.mk (fun W' s' hq hk => by
                          obtain ⟨e0, _, _, ecs⟩ := q_cells hq
                          obtain ⟨g', cp', hlv', _, hcc'⟩ := ecs k HKL.out
                          cases hlv'
                          have e3 := (hcc' k HKL.out).2.2.2.1
                          rw [HX.out] at e3
                          exact ⟨(World.cell?_of_block (w := W6.drew) (hk wr.heap.size rfl)).trans k1, e0, e3⟩)
                        clear hf hcs hcc hflt hupd hnum hcap hx hb hmem hdy
                        go_upto_region 54 with fail
                        refine wp_region_held_drew (S := fun W => W.cell? ⟨wr.heap.size, 1, none⟩ = some (.int .i64 bk) ∧ W.cell? ⟨mm, 0, none⟩ = some (.slice (some ⟨g, 0, none⟩) ms.length cp) ∧ W.cell? ⟨g, k * 4 + 3, none⟩ = some (.slice (some ⟨xg, 0, none⟩) 1024 xc)) (by kernel_rfl) HS0.out (fun hH => ?_)
                        change wpAnyH Try.prog Region.Mode.any _ _ _ 13 _ _ _
                        refine takeH 0 228 (.pointer (some ⟨e, 0, none⟩)) rfl (by kernel_rfl) (by kernel_rfl) (by kernel_rfl) (by kernel_rfl) (fun _ _ _ h => h) (by kernel_rfl) (fun w hw => by kernel_rfl) hH ?_
                        simp only [List.setIfInBounds_toArray, List.set_cons_zero, List.set_cons_succ]
                        refine takeH 1 229 (.pointer (some ⟨wr.heap.size, 1, none⟩)) rfl (by kernel_rfl) (by kernel_rfl) (by kernel_rfl) (by kernel_rfl) (fun _ _ _ h => h) (by kernel_rfl) (fun w hw => by (try dsimp only at hw); go_simp) hH ?_
                        simp only [List.setIfInBounds_toArray, List.set_cons_zero, List.set_cons_succ]
                        refine takeH 2 230 (.int .i64 bk) rfl (by kernel_rfl) (by kernel_rfl) (by kernel_rfl) (by kernel_rfl) (fun _ _ _ h => h) (by kernel_rfl) (fun w hw => by (try dsimp only at hw); go_simp) hH ?_
                        simp only [List.setIfInBounds_toArray, List.set_cons_zero, List.set_cons_succ]
                        refine takeH 3 231 (.pointer (some ⟨mm, 0, none⟩)) rfl (by kernel_rfl) (by kernel_rfl) (by kernel_rfl) (by kernel_rfl) (fun _ _ _ h => h) (by kernel_rfl) (fun w hw => by kernel_rfl) hH ?_
                        simp only [List.setIfInBounds_toArray, List.set_cons_zero, List.set_cons_succ]
                        refine takeH 4 232 (.pointer (some ⟨mm, 0, none⟩)) rfl (by kernel_rfl) (by kernel_rfl) (by kernel_rfl) (by kernel_rfl) (fun _ _ _ h => h) (by kernel_rfl) (fun w hw => by (try dsimp only at hw); go_simp) hH ?_
                        simp only [List.setIfInBounds_toArray, List.set_cons_zero, List.set_cons_succ]
                        refine takeH 5 233 (.pointer (some ⟨mm, 0, none⟩)) rfl (by kernel_rfl) (by kernel_rfl) (by kernel_rfl) (by kernel_rfl) (fun _ _ _ h => h) (by kernel_rfl) (fun w hw => by (try dsimp only at hw); go_simp) hH ?_
                        simp only [List.setIfInBounds_toArray, List.set_cons_zero, List.set_cons_succ]
                        refine takeH 6 234 (.slice (some ⟨g, 0, none⟩) ms.length cp) rfl (by kernel_rfl) (by kernel_rfl) (by kernel_rfl) (by kernel_rfl) (fun _ _ _ h => h) (by kernel_rfl) (fun w hw => by (try dsimp only at hw); go_simp) hH ?_
                        simp only [List.setIfInBounds_toArray, List.set_cons_zero, List.set_cons_succ]
                        refine takeH 7 235 (.int .i64 (k : Int)) rfl (by kernel_rfl) (by kernel_rfl) (by kernel_rfl) (by kernel_rfl) (fun _ _ _ h => h) (by kernel_rfl) (fun w hw => by kernel_rfl) hH ?_
                        simp only [List.setIfInBounds_toArray, List.set_cons_zero, List.set_cons_succ]
                        refine takeH 8 236 (.pointer (some ⟨g, k * 4, none⟩)) rfl (by kernel_rfl) (by kernel_rfl) (by kernel_rfl) (by kernel_rfl) (fun _ _ _ h => h) (by kernel_rfl) (fun w hw => by (try dsimp only at hw); go_simp) hH ?_
                        simp only [List.setIfInBounds_toArray, List.set_cons_zero, List.set_cons_succ]
                        refine takeH 9 237 (.pointer (some ⟨g, k * 4 + 3, none⟩)) rfl (by kernel_rfl) (by kernel_rfl) (by kernel_rfl) (by kernel_rfl) (fun _ _ _ h => h) (by kernel_rfl) (fun w hw => by (try dsimp only at hw); go_simp) hH ?_
                        simp only [List.setIfInBounds_toArray, List.set_cons_zero, List.set_cons_succ]
                        refine takeH 10 238 (.slice (some ⟨xg, 0, none⟩) 1024 xc) rfl (by kernel_rfl) (by kernel_rfl) (by kernel_rfl) (by kernel_rfl) (fun _ _ _ h => h) (by kernel_rfl) (fun w hw => by (try dsimp only at hw); go_simp) hH ?_
                        simp only [List.setIfInBounds_toArray, List.set_cons_zero, List.set_cons_succ]
                        refine stepH_call 11 239 rfl (by kernel_rfl) (by kernel_rfl) (by kernel_rfl) 18 #[.tmp 228, .tmp 230, .tmp 238] #[24, 3, 35] (by kernel_rfl) (enters_of Try.func18 (by kernel_rfl) rfl) #[ptV e, .int .i64 bk, .slice (some ⟨xg, 0, none⟩) 1024 xc] (by kernel_rfl) HWR.out ?_
                        rintro e' w8 ⟨rfl, hq8, hk8⟩
                        have hH8 := HST.out w8 _ hq8 hk8
                        have HQ8 := Hid.mk hq8
                        have HK8 := Hid.mk hk8
                        refine ⟨_, rfl, hH8, ?_⟩
                        simp only [List.setIfInBounds_toArray, List.set_cons_zero, List.set_cons_succ]
                        refine takeH 12 23 (.bool fb) rfl (by kernel_rfl) (by kernel_rfl) (by kernel_rfl) (by kernel_rfl) (fun _ _ _ h => h) (by kernel_rfl) (fun w hw => by kernel_rfl) hH8 ?_
                        simp only [List.setIfInBounds_toArray, List.set_cons_zero, List.set_cons_succ]
                        refine wpAnyH_done (by kernel_rfl) ?_ _
                        clear c0 d0 d1 d2 d3 dfz
                        obtain ⟨c0, _, _, hcs⟩ := q_cells HQ8.out
                        obtain ⟨g', cp', hlv', _, hcc⟩ := hcs k HKL.out
                        cases hlv'
                        obtain ⟨d0, d1, d2, d3, dfz⟩ := hcc k HKL.out
                        have df2 := dfz (k * 4 + 2)
                        obtain ⟨hqa, hka⟩ := q_upd HQ8.out (Below.refl _ _) k 2 HKL.out (by omega) (.bool (!fb)) ⟨x.by x.pins (!fb), xg, xc⟩ (by rw [HX.out]; rfl) (.inr (by rw [HX.out]; exact ⟨rfl, rfl, rfl⟩))
                        have HQA := Hid.mk hqa
                        have HKA := Hid.mk hka
                        clear hcs hcc hqa hka
                        go_wp2
                        go_meet
                        case rel => exact ⟨rfl, Hid.mk ⟨_, _, HE1.out, by rw [HE2.out]; exact HQA.out, fun k hk => (HKA.out k hk).trans (HK8.out k hk)⟩⟩
                    · have hb0 : dy = false := by simpa using hb0
                      subst hb0
                      have hcs : fb = true ∧ ms.map Md.kb = fluM (ms.map Md.kb) s bk ∧ fluS (ms.map Md.kb) s bk = s := by
                        have h1 := HDY.out
                        have h2 := HFB.out
                        unfold fluB at h2
                        unfold fluM fluS
                        cases hf : fndK (ms.map Md.kb) bk with
                        | none =>
                          rw [hf] at h2
                          exact ⟨h2, rfl, rfl⟩
                        | some x =>
                          rw [hf] at h1 h2
                          simp only at h1 h2 ⊢
                          rw [← h1] at h2 ⊢
                          exact ⟨by simpa using h2, by simp, by simp⟩
                      obtain ⟨hb, hE1, hE2⟩ := hcs
                      have HE1 := Hid.mk hE1
                      have HE2 := Hid.mk hE2
                      subst hb
                      clear hE1 hE2
                      go_wp2
                      go_meet
                      case rel => exact ⟨rfl, Hid.mk ⟨_, ms, HE1.out, by rw [HE2.out]; exact HQ.out, fun _ _ => rfl⟩⟩
                  case rest =>
                  obtain ⟨rfl, HR⟩ := hcut
                  obtain ⟨lv3, ms3, HK3, HQ3, HX3⟩ : ∃ lv3 ms3, Hid (ms3.map Md.kb = fluM (ms.map Md.kb) s bk) ∧ Hid (Pq (fun k => k = wr.heap.size) w wc c d mm e sz reads (ms.map Md.kb) s reads lv3 ms3 (fluS (ms.map Md.kb) s bk)) ∧ Hid (Kx (fun k => k = wr.heap.size) W6 wc) := by
                    obtain ⟨a, b, h1, h2, h3⟩ := HR.out
                    exact ⟨a, b, Hid.mk h1, Hid.mk h2, Hid.mk h3⟩
                  clear HR k1 k2 k3
                  have HM3 : Hid (ms3.length ≤ 200) := Hid.mk (by
                    have h1 := congrArg List.length HK3.out
                    have h2 : (fluM (ms.map Md.kb) s bk).length = ms.length := by
                      unfold fluM
                      cases fndK (ms.map Md.kb) bk with
                      | none => simp
                      | some x => simp only; split <;> simp [updK]
                    rw [h2, List.length_map] at h1
                    have := HL9.out
                    omega)
                  have HS := Hid.mk (q_mshrink HQ3.out (by have := HM3.out; omega))
                  have hxx : (fb != fb) = false := by simp
                  go_wp2_with (first
                    | (go_at_call 14; refine HS.out.mono ?_; rintro e' w7 ⟨rfl, lv', ms', hk', hq7, hk7⟩; rw [HK3.out, flu_shk HO.out.sta HNUM.out] at hk'; obtain ⟨l1, _, _⟩ := HCELL.out w7 ((hk7 _ rfl).trans ((HX3.out _ rfl).trans HZ.out.2)); have HRL := Hid.mk (q_flush hq7 bk HWF.out HFI.out _ HO.out.sane (by have h2 := HN.out; have h3 := HJN.out; omega)); rw [← HFB.out, ← hk'] at HRL; have HK := Hid.mk hk'; clear hk' hq7 hk7 HS)
                    | (go_at_call 19; refine HRL.out.mono ?_; rintro e' w8 ⟨rfl, hq8, _⟩; have H8 := Hid.mk hq8; clear hq8 HRL))
                  go_meet
                  case rel => exact Hid.mk (HEND.out _ _ _ _ _ H8.out (by rw [HK.out]; exact HO.out.flu bk))
              · skip
                by_cases y4 : wy = 4
                · subst y4
                  as_aux_lemma =>
                    have HC1 := Hid.mk (q_cutA HZ.out.1 an)
                    go_wp2_with (first
                      | (go_at_call 20; have hu := HC1; refine HC1.out.mono ?_; rintro e' w7 ⟨rfl, hq7, hk7⟩; obtain ⟨l1, l2, l3⟩ := HCELL.out w7 ((hk7 _ rfl).trans HZ.out.2); have HC2 := Hid.mk (q_cutE hq7 an); clear hq7 hk7 HC1 hu)
                      | (go_at_call 20; have hu := HC2; refine HC2.out.mono ?_; rintro e' w8 ⟨rfl, hq8, _⟩; have H8 := Hid.mk hq8; clear hq8 HC2 hu))
                    go_meet
                    case rel => exact Hid.mk (HEND.out _ _ _ _ _ H8.out (HO.out.flags ⟨rfl, rfl⟩ (by show 0 ≤ max an 0; omega) (by have := HAN.out; show max an 0 ≤ _; omega)))
                · skip
                  as_aux_lemma =>
                    have e0 : (wy == 0) = false := by simpa using y0
                    have e1 : (wy == 1) = false := by simpa using y1
                    have e2 : (wy == 2) = false := by simpa using y2
                    have e3 : (wy == 3) = false := by simpa using y3
                    have e4 : (wy == 4) = false := by simpa using y4
                    have HC1 := Hid.mk (q_startA HZ.out.1)
                    go_wp2_with (first
                      | (go_at_call 21; have hu := HC1; refine HC1.out.mono ?_; rintro e' w7 ⟨rfl, hq7, hk7⟩; have HC2 := Hid.mk (q_startE hq7); clear hq7 hk7 HC1 hu)
                      | (go_at_call 21; have hu := HC2; refine HC2.out.mono ?_; rintro e' w8 ⟨rfl, hq8, _⟩; have H8 := Hid.mk hq8; clear hq8 HC2 hu))
                    go_meet
                    case rel => exact Hid.mk (HEND.out _ _ _ _ _ H8.out (HO.out.flags ⟨rfl, rfl⟩ (by show (0 : Int) ≤ 0; omega) (by show (0 : Int) ≤ _; omega)))
      case rest =>
        as_aux_lemma =>
          obtain ⟨reads2, lv2, ms2, s2, HP2, HO2⟩ : ∃ reads2 lv2 ms2 s2, Hid (Pq (fun _ => False) w wc c d mm e sz reads2 (ms2.map Md.kb) s2 reads2 lv2 ms2 s2) ∧ Hid (Ok (j + 1) sz reads2 (ms2.map Md.kb) s2) := by
            obtain ⟨reads, lv, ms, s, h1, h2⟩ := hcut.out
            exact ⟨reads, lv, ms, s, Hid.mk h1, Hid.mk h2⟩
          clear hcut HZ HO HEND HCELL k1 k2 k3
          obtain ⟨lo, lc, hlv, hcl⟩ := q_lv HP2.out
          subst hlv
          have HCL := Hid.mk hcl
          have HL2 : Hid (ms2.length ≤ 201) := Hid.mk (by have h1 := HO2.out.len; have h2 := HLT.out; have h3 := HN.out; rw [List.length_map] at h1; omega)
          clear hcl
          go_wp2
          go_loopw [24, 25] (fun u q wr => ∃ t : Nat, q = .int .i64 t ∧ Hid (t ≤ ms2.length) ∧ Hid (wr.ownsRow wc.heap.size 3 1 u t (Iy ((ms2.take t).map (fun m => m.kb.num)))) ∧ Hid (Below wc.heap.size wc wr)) (fun _ q _ => ms2.length - (intOf q).toNat)
          case atStart => exact ⟨0, rfl, Hid.mk (Nat.zero_le _), Hid.mk (World.ownsRow_nil _ _ _ _), Hid.mk (Below.refl _ _)⟩
          case round =>
            obtain ⟨t, rfl, ht, HOW, HBR⟩ := hrel
            have htb : t ≤ 201 := by have h1 := ht.out; have h2 := HL2.out; omega
            have hw2 : IntKind.i64.wrap ((t : Int) + 1) = (t : Int) + 1 := by rw [IntKind.wrap_i64]; omega
            obtain ⟨c0, c3, hcl⟩ := HCL.out wr HBR.out
            by_cases hlj : (t : Int) < (ms2.length : Int)
            · have HLJ : Hid (t < ms2.length) := Hid.mk (by omega)
              obtain ⟨g, hg, c7⟩ := hcl t HLJ.out
              subst hg
              obtain ⟨v', W1, hr, ho1, hb1⟩ := appendi_one wr wc.heap.size u24 _ _ HOW.out HBR.out.size (ms2.getD t md0).kb.num (by omega)
              rw [← take_nums ms2 t HLJ.out] at ho1
              have HR := Hid.mk hr
              have HO1 := Hid.mk ho1
              have HB2 := Hid.mk (HBR.out.trans hb1)
              generalize (ms2.getD t md0).kb.num = y at c7 HR
              have z3 : (0 : Int) ≤ (t : Int) := by omega
              clear hr ho1 hb1 hcl HOW
              go_wp2_with (at_builtin; have hgd := HR; refine wpList_append_known rfl _ _ _ rfl _ _ _ _ rfl rfl HR.out ?_; simp only [Act.put, List.setIfInBounds_toArray, List.set_cons_zero, List.set_cons_succ]; clear HR hgd)
              go_roundw
              case rel => exact ⟨t + 1, by go_num, Hid.mk HLJ.out, HO1, HB2⟩
              case measure => have := HLJ.out; simp [intOf]; omega
            · have htl : t = ms2.length := by have := ht.out; omega
              subst htl
              obtain ⟨ho, hc, hu, hlt⟩ := owns_lat HOW.out
              subst hu
              rw [List.take_length] at hlt
              have HLAT := Hid.mk hlt
              have HP3 := Hid.mk (HP2.out.grow HBR.out)
              clear hlt HOW hcl c3
              obtain ⟨WR, hWR⟩ : ∃ WR, WR = wr := ⟨_, rfl⟩
              rw [← hWR] at HLAT HP3 c0 ⊢
              have HBR3 : Hid (Below wc.heap.size wc WR) := Hid.mk (by rw [hWR]; exact HBR.out)
              clear hWR
              go_upto_region 67 with fail
              obtain ⟨WD, hWD⟩ : ∃ WD, WD = WR.drew := ⟨_, rfl⟩
              have HWD := Hid.mk hWD
              have HP4 : Hid (Pq (fun _ => False) w WD c d mm e sz reads2 (ms2.map Md.kb) s2 reads2 (.slice lo ms2.length lc) ms2 s2) := Hid.mk (by rw [hWD]; exact HP3.out.grow ((Below.refl _ _).drew))
              have HLAT4 : Hid (LAt WD ho ms2.length (ms2.map (fun m => m.kb.num))) := Hid.mk (by rw [hWD]; exact HLAT.out)
              clear hWD
              have HF4 : Hid (Fine reads2 (ms2.map Md.kb) s2) := Hid.mk (HO2.out.fine (by have h2 := HN.out; have h3 := HLT.out; omega))
              have HHELD := Hid.mk (q_held HP4.out HF4.out)
              have HST : Hid (∀ W', Below WD.heap.size WD W' → W'.cell? ⟨mm, 3, none⟩ = some (.int .i64 reads2)) := Hid.mk (fun W' hB => (q_cells (HP4.out.grow hB)).2.1)
              have HS0 : Hid (WR.drew.cell? ⟨mm, 3, none⟩ = some (.int .i64 reads2)) := Hid.mk (q_cells HP3.out).2.1
              have HSAME : Hid (∀ W', W'.ownsRow WD.heap.size 3 1 (.slice (some ⟨WD.heap.size, 0, none⟩) (ms2.map Md.kb).length (ms2.map Md.kb).length) (ms2.map Md.kb).length (Iy ((ms2.map Md.kb).map (·.num))) → Below WD.heap.size WD W' → Calls Try.prog 22 #[.slice (some ⟨WD.heap.size, 0, none⟩) (ms2.map Md.kb).length (ms2.map Md.kb).length, .slice ho ms2.length hc] W' fun e' W'' => e' = .returned (.bool true) ∧ Below WD.heap.size WD W'') := Hid.mk (fun W' hr hB => by
                obtain ⟨ao, cc', hv, hl⟩ := owns_lat hr
                cases hv
                have hln := HL2.out
                refine (sameints_any W' _ _ _ _ _ _ _ _ hl (HLAT4.out.next hB) (by rw [List.length_map]; omega) (by omega)).mono ?_
                rintro e' W'' ⟨rfl, hB2⟩
                refine ⟨?_, hB.trans (hB2.mono hB.size)⟩
                rw [List.map_map]
                exact congrArg (fun b => Ending.returned (Value.bool b)) (decide_eq_true rfl))
              have HREADS : Hid (∀ W', Below WD.heap.size WD W' → Calls Try.prog 24 #[ptV c] W' fun r W'' => r = .returned (.int .i64 reads2) ∧ W'' = W') := Hid.mk (fun W' hB => q_reads (HP4.out.grow hB))
              obtain ⟨SX, hSX⟩ : ∃ SX, SX = strOfNums s2.img := ⟨_, rfl⟩
              have HIA : Hid (∀ W', Below WD.heap.size WD W' → Calls Try.prog 25 #[ptV d] W' fun r W'' => ∃ ia ic, r = .returned (.slice ia s2.img.length ic) ∧ (convert 35 9 (.slice ia s2.img.length ic)).run Try.prog W'' = .ok (.string SX) W'' ∧ Below WD.heap.size WD W'' ∧ BAt W'' ia s2.img.length s2.img) := Hid.mk (fun W' hB => by
                refine (q_imgA (HP4.out.grow hB) (by rw [HO2.out.img]; omega)).mono ?_
                rintro r W'' ⟨v', rfl, hr, _, hB2⟩
                obtain ⟨ao, ac, rfl, hb⟩ := img_bat hr
                exact ⟨ao, ac, rfl, by rw [hSX]; exact conv_bytes W'' ao _ ac _ hb, hB.trans (hB2.mono hB.size), hb⟩)
              have HIE : Hid (∀ W', Below WD.heap.size WD W' → Calls Try.prog 25 #[ptV e] W' fun r W'' => ∃ ja jc, r = .returned (.slice ja s2.img.length jc) ∧ (convert 35 9 (.slice ja s2.img.length jc)).run Try.prog W'' = .ok (.string SX) W'' ∧ Below WD.heap.size WD W'' ∧ ∀ ia ic, BAt W' ia s2.img.length s2.img → (convert 35 9 (.slice ia s2.img.length ic)).run Try.prog W'' = .ok (.string SX) W'') := Hid.mk (fun W' hB => by
                refine (q_imgE (HP4.out.grow hB) (by rw [HO2.out.img]; omega)).mono ?_
                rintro r W'' ⟨v', rfl, hr, _, hB2⟩
                obtain ⟨ao, ac, rfl, hb⟩ := img_bat hr
                exact ⟨ao, ac, rfl, by rw [hSX]; exact conv_bytes W'' ao _ ac _ hb, hB.trans (hB2.mono hB.size), fun ia ic h => by rw [hSX]; exact conv_bytes W'' ia _ ic _ (h.only (Only.of_new (fun _ => False) hB2) (fun _ _ _ h => h))⟩)
              clear hSX
              go_cut [309] from 287 to 309 (fun v W => v = .bool false ∧ Hid (Below WR.heap.size WR W))
              case first =>
                as_aux_lemma =>
                  refine wp_region_held_drew (S := fun W => W.cell? ⟨mm, 3, none⟩ = some (.int .i64 reads2)) (by kernel_rfl) HS0.out (fun hH => ?_)
                  change wpAnyH Try.prog Region.Mode.any _ _ _ 23 _ _ _
                  rw [← HWD.out] at hH ⊢
                  refine takeH 0 287 (.pointer (some ⟨c, 0, none⟩)) rfl (by kernel_rfl) (by kernel_rfl) (by kernel_rfl) (by kernel_rfl) (fun _ _ _ h => h) (by kernel_rfl) (fun w hw => by kernel_rfl) hH ?_
                  simp only [List.setIfInBounds_toArray, List.set_cons_zero, List.set_cons_succ]
                  refine takeH 2 289 (.slice ho ms2.length hc) rfl (by kernel_rfl) (by kernel_rfl) (by kernel_rfl) (by kernel_rfl) (fun _ _ _ h => h) (by kernel_rfl) (fun w hw => by kernel_rfl) hH ?_
                  simp only [List.setIfInBounds_toArray, List.set_cons_zero, List.set_cons_succ]
                  refine stepH_call 1 288 rfl (by kernel_rfl) (by kernel_rfl) (by kernel_rfl) 23 #[.tmp 287] #[26] (by kernel_rfl) (enters_of Try.func23 (by kernel_rfl) rfl) #[ptV c] (by kernel_rfl) HHELD.out ?_
                  rintro e' w3 ⟨rfl, ho3, hB3⟩
                  have hH3 := HST.out w3 hB3
                  refine ⟨_, rfl, hH3, ?_⟩
                  simp only [List.setIfInBounds_toArray, List.set_cons_zero, List.set_cons_succ]
                  refine stepH_call 3 290 rfl (by kernel_rfl) (by kernel_rfl) (by kernel_rfl) 22 #[.tmp 288, .tmp 289] #[44, 44] (by kernel_rfl) (enters_of Try.func22 (by kernel_rfl) rfl) #[.slice (some ⟨WD.heap.size, 0, none⟩) (ms2.map Md.kb).length (ms2.map Md.kb).length, .slice ho ms2.length hc] (by kernel_rfl) (HSAME.out w3 ho3 hB3) ?_
                  rintro e' w4 ⟨rfl, hB4⟩
                  have hH4 := HST.out w4 hB4
                  refine ⟨_, rfl, hH4, ?_⟩
                  simp only [List.setIfInBounds_toArray, List.set_cons_zero, List.set_cons_succ]
                  refine takeH 4 291 (.bool false) rfl (by kernel_rfl) (by kernel_rfl) (by kernel_rfl) (by kernel_rfl) (fun _ _ _ h => h) (by kernel_rfl) (fun w hw => by (try dsimp only at hw); go_simp) hH4 ?_
                  simp only [List.setIfInBounds_toArray, List.set_cons_zero, List.set_cons_succ]
                  refine takeH 5 292 (.bool false) rfl (by kernel_rfl) (by kernel_rfl) (by kernel_rfl) (by kernel_rfl) (fun _ _ _ h => h) (by kernel_rfl) (fun w hw => by kernel_rfl) hH4 ?_
                  simp only [List.setIfInBounds_toArray, List.set_cons_zero, List.set_cons_succ]
                  refine takeH 6 293 (.pointer (some ⟨c, 0, none⟩)) rfl (by kernel_rfl) (by kernel_rfl) (by kernel_rfl) (by kernel_rfl) (fun _ _ _ h => h) (by kernel_rfl) (fun w hw => by kernel_rfl) hH4 ?_
                  simp only [List.setIfInBounds_toArray, List.set_cons_zero, List.set_cons_succ]
                  refine takeH 8 295 (.pointer (some ⟨mm, 0, none⟩)) rfl (by kernel_rfl) (by kernel_rfl) (by kernel_rfl) (by kernel_rfl) (fun _ _ _ h => h) (by kernel_rfl) (fun w hw => by kernel_rfl) hH4 ?_
                  simp only [List.setIfInBounds_toArray, List.set_cons_zero, List.set_cons_succ]
                  refine takeH 9 296 (.pointer (some ⟨mm, 0, none⟩)) rfl (by kernel_rfl) (by kernel_rfl) (by kernel_rfl) (by kernel_rfl) (fun _ _ _ h => h) (by kernel_rfl) (fun w hw => by (try dsimp only at hw); go_simp) hH4 ?_
                  simp only [List.setIfInBounds_toArray, List.set_cons_zero, List.set_cons_succ]
                  refine takeH 10 297 (.pointer (some ⟨mm, 3, none⟩)) rfl (by kernel_rfl) (by kernel_rfl) (by kernel_rfl) (by kernel_rfl) (fun _ _ _ h => h) (by kernel_rfl) (fun w hw => by (try dsimp only at hw); go_simp) hH4 ?_
                  simp only [List.setIfInBounds_toArray, List.set_cons_zero, List.set_cons_succ]
                  refine takeH 11 298 (.int .i64 reads2) rfl (by kernel_rfl) (by kernel_rfl) (by kernel_rfl) (by kernel_rfl) (fun _ _ _ h => h) (by kernel_rfl) (fun w hw => by (try dsimp only at hw); go_simp) hH4 ?_
                  simp only [List.setIfInBounds_toArray, List.set_cons_zero, List.set_cons_succ]
                  refine stepH_call 7 294 rfl (by kernel_rfl) (by kernel_rfl) (by kernel_rfl) 24 #[.tmp 293] #[26] (by kernel_rfl) (enters_of Try.func24 (by kernel_rfl) rfl) #[ptV c] (by kernel_rfl) (HREADS.out w4 hB4) ?_
                  rintro e' w5 ⟨rfl, rfl⟩
                  have hH5 := hH4
                  refine ⟨_, rfl, hH5, ?_⟩
                  simp only [List.setIfInBounds_toArray, List.set_cons_zero, List.set_cons_succ]
                  refine takeH 12 299 (.bool false) rfl (by kernel_rfl) (by kernel_rfl) (by kernel_rfl) (by kernel_rfl) (fun _ _ _ h => h) (by kernel_rfl) (fun w hw => by (try dsimp only at hw); go_simp) hH5 ?_
                  simp only [List.setIfInBounds_toArray, List.set_cons_zero, List.set_cons_succ]
                  refine takeH 13 300 (.bool false) rfl (by kernel_rfl) (by kernel_rfl) (by kernel_rfl) (by kernel_rfl) (fun _ _ _ h => h) (by kernel_rfl) (fun w hw => by (try dsimp only at hw); go_simp) hH5 ?_
                  simp only [List.setIfInBounds_toArray, List.set_cons_zero, List.set_cons_succ]
                  refine takeH 14 301 (.bool false) rfl (by kernel_rfl) (by kernel_rfl) (by kernel_rfl) (by kernel_rfl) (fun _ _ _ h => h) (by kernel_rfl) (fun w hw => by kernel_rfl) hH5 ?_
                  simp only [List.setIfInBounds_toArray, List.set_cons_zero, List.set_cons_succ]
                  refine takeH 15 302 (.pointer (some ⟨d, 0, none⟩)) rfl (by kernel_rfl) (by kernel_rfl) (by kernel_rfl) (by kernel_rfl) (fun _ _ _ h => h) (by kernel_rfl) (fun w hw => by kernel_rfl) hH5 ?_
                  simp only [List.setIfInBounds_toArray, List.set_cons_zero, List.set_cons_succ]
                  refine takeH 18 305 (.pointer (some ⟨e, 0, none⟩)) rfl (by kernel_rfl) (by kernel_rfl) (by kernel_rfl) (by kernel_rfl) (fun _ _ _ h => h) (by kernel_rfl) (fun w hw => by kernel_rfl) hH5 ?_
                  simp only [List.setIfInBounds_toArray, List.set_cons_zero, List.set_cons_succ]
                  refine stepH_call 16 303 rfl (by kernel_rfl) (by kernel_rfl) (by kernel_rfl) 25 #[.tmp 302] #[24] (by kernel_rfl) (enters_of Try.func25 (by kernel_rfl) rfl) #[ptV d] (by kernel_rfl) (HIA.out w5 hB4) ?_
                  rintro e' w6 ⟨ia, ic, rfl, hcv6, hB6, hbt6⟩
                  have hH6 := HST.out w6 hB6
                  refine ⟨_, rfl, hH6, ?_⟩
                  simp only [List.setIfInBounds_toArray, List.set_cons_zero, List.set_cons_succ]
                  refine stepH_two 17 19 (by kernel_rfl) (opH_run 17 304 (.string SX) w6 rfl (by kernel_rfl) (by kernel_rfl) (exec_convert (x := .tmp 303) rfl (by kernel_rfl) hcv6) hH6 ?_) (opH_call 19 306 rfl (by kernel_rfl) (by kernel_rfl) 25 #[.tmp 305] #[24] (by kernel_rfl) (enters_of Try.func25 (by kernel_rfl) rfl) #[ptV e] (by kernel_rfl) (HIE.out w6 hB6) ?_)
                  · simp only [List.setIfInBounds_toArray, List.set_cons_zero, List.set_cons_succ]
                    refine stepH_call 19 306 rfl (by kernel_rfl) (by kernel_rfl) (by kernel_rfl) 25 #[.tmp 305] #[24] (by kernel_rfl) (enters_of Try.func25 (by kernel_rfl) rfl) #[ptV e] (by kernel_rfl) (HIE.out w6 hB6) ?_
                    rintro e' w7 ⟨ja, jc, rfl, hcv7, hB7, hcv67⟩
                    have hH7 := HST.out w7 hB7
                    refine ⟨_, rfl, hH7, ?_⟩
                    simp only [List.setIfInBounds_toArray, List.set_cons_zero, List.set_cons_succ]
                    refine stepH 20 307 (.string SX) rfl (by kernel_rfl) (by kernel_rfl) (by kernel_rfl) (exec_convert (x := .tmp 306) rfl (by kernel_rfl) hcv7) hH7 ?_
                    simp only [List.setIfInBounds_toArray, List.set_cons_zero, List.set_cons_succ]
                    refine takeH 21 308 (.bool false) rfl (by kernel_rfl) (by kernel_rfl) (by kernel_rfl) (by kernel_rfl) (fun _ _ _ h => h) (by kernel_rfl) (fun w hw => by (try dsimp only at hw); go_simp) hH7 ?_
                    simp only [List.setIfInBounds_toArray, List.set_cons_zero, List.set_cons_succ]
                    refine takeH 22 309 (.bool false) rfl (by kernel_rfl) (by kernel_rfl) (by kernel_rfl) (by kernel_rfl) (fun _ _ _ h => h) (by kernel_rfl) (fun w hw => by (try dsimp only at hw); go_simp) hH7 ?_
                    simp only [List.setIfInBounds_toArray, List.set_cons_zero, List.set_cons_succ]
                    refine wpAnyH_done (by kernel_rfl) ?_ _
                    go_wp2
                    go_meet
                    case rel => exact ⟨rfl, Hid.mk ((show Below WR.heap.size WR WD from by rw [HWD.out]; exact (Below.refl _ WR).drew).trans ((hB7).mono (by rw [HWD.out]; exact Nat.le_refl _)))⟩
                  · rintro e' w7 ⟨ja, jc, rfl, hcv7, hB7, hcv67⟩
                    have hH7 := HST.out w7 hB7
                    refine ⟨_, rfl, hH7, ?_⟩
                    simp only [List.setIfInBounds_toArray, List.set_cons_zero, List.set_cons_succ]
                    refine stepH_two 17 20 (by kernel_rfl) (opH_run 17 304 (.string SX) w7 rfl (by kernel_rfl) (by kernel_rfl) (exec_convert (x := .tmp 303) rfl (by kernel_rfl) (hcv67 ia ic hbt6)) hH7 ?_) (opH_run 20 307 (.string SX) w7 rfl (by kernel_rfl) (by kernel_rfl) (exec_convert (x := .tmp 306) rfl (by kernel_rfl) hcv7) hH7 ?_)
                    · simp only [List.setIfInBounds_toArray, List.set_cons_zero, List.set_cons_succ]
                      refine stepH 20 307 (.string SX) rfl (by kernel_rfl) (by kernel_rfl) (by kernel_rfl) (exec_convert (x := .tmp 306) rfl (by kernel_rfl) hcv7) hH7 ?_
                      simp only [List.setIfInBounds_toArray, List.set_cons_zero, List.set_cons_succ]
                      refine takeH 21 308 (.bool false) rfl (by kernel_rfl) (by kernel_rfl) (by kernel_rfl) (by kernel_rfl) (fun _ _ _ h => h) (by kernel_rfl) (fun w hw => by (try dsimp only at hw); go_simp) hH7 ?_
                      simp only [List.setIfInBounds_toArray, List.set_cons_zero, List.set_cons_succ]
                      refine takeH 22 309 (.bool false) rfl (by kernel_rfl) (by kernel_rfl) (by kernel_rfl) (by kernel_rfl) (fun _ _ _ h => h) (by kernel_rfl) (fun w hw => by (try dsimp only at hw); go_simp) hH7 ?_
                      simp only [List.setIfInBounds_toArray, List.set_cons_zero, List.set_cons_succ]
                      refine wpAnyH_done (by kernel_rfl) ?_ _
                      go_wp2
                      go_meet
                      case rel => exact ⟨rfl, Hid.mk ((show Below WR.heap.size WR WD from by rw [HWD.out]; exact (Below.refl _ WR).drew).trans ((hB7).mono (by rw [HWD.out]; exact Nat.le_refl _)))⟩
                    · simp only [List.setIfInBounds_toArray, List.set_cons_zero, List.set_cons_succ]
                      refine stepH 17 304 (.string SX) rfl (by kernel_rfl) (by kernel_rfl) (by kernel_rfl) (exec_convert (x := .tmp 303) rfl (by kernel_rfl) (hcv67 ia ic hbt6)) hH7 ?_
                      simp only [List.setIfInBounds_toArray, List.set_cons_zero, List.set_cons_succ]
                      refine takeH 21 308 (.bool false) rfl (by kernel_rfl) (by kernel_rfl) (by kernel_rfl) (by kernel_rfl) (fun _ _ _ h => h) (by kernel_rfl) (fun w hw => by (try dsimp only at hw); go_simp) hH7 ?_
                      simp only [List.setIfInBounds_toArray, List.set_cons_zero, List.set_cons_succ]
                      refine takeH 22 309 (.bool false) rfl (by kernel_rfl) (by kernel_rfl) (by kernel_rfl) (by kernel_rfl) (fun _ _ _ h => h) (by kernel_rfl) (fun w hw => by (try dsimp only at hw); go_simp) hH7 ?_
                      simp only [List.setIfInBounds_toArray, List.set_cons_zero, List.set_cons_succ]
                      refine wpAnyH_done (by kernel_rfl) ?_ _
                      go_wp2
                      go_meet
                      case rel => exact ⟨rfl, Hid.mk ((show Below WR.heap.size WR WD from by rw [HWD.out]; exact (Below.refl _ WR).drew).trans ((hB7).mono (by rw [HWD.out]; exact Nat.le_refl _)))⟩
              case rest =>
                obtain ⟨rfl, HBX⟩ := hcut
                have u1 : IntKind.i64.wrap ((j : Int) + 1) = (j : Int) + 1 := by have h2 := HN.out; have h3 := HLT.out; rw [IntKind.wrap_i64]; omega
                go_wp2
                go_roundw
                case rel => exact ⟨j + 1, by go_num, Hid.mk ⟨HLT.out, _, _, _, _, HP3.out.grow HBX.out, HO2.out⟩⟩
                case measure => (have := HLT.out; simp [intOf]; omega)
    · go_wp2
      go_ret
      exact ⟨rfl, HBW.out⟩
end Go.Proofs.Ytmbhjheoomlggaa
