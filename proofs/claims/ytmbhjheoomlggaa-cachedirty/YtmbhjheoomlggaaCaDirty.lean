/-
  CacheDirty: a dirty block stays until it is written: the whole.
-/
import Derived.Test.YtmbhjheoomlggaaCaDirtyB
namespace Go.Proofs.Ytmbhjheoomlggaa
open Go Go.Proofs Go.RowKit Go.Shelf
/-- Behind the last call: what the answer leans on. -/
structure DyE (w : World) (v : Int) (dd gl : Nat) (xo : Option Addr) (xc : Nat) (W : World) : Prop where
  bel : Below w.heap.size w W
  cel : ∃ fr : Nat × Nat, ∃ cs t, W.heap[gl]? = some (.cells cs t fr) ∧ cs[0]? = some (.int .i64 0)
  bat : BAt W xo 1024 (blkV v)
  dsk : ∃ Fd s2, Dk.DiskAt Fd W dd s2 ∧ s2.log.length = 2 ∧ Dk.Sane s2 2
theorem dy_tail {w W : World} {v : Int} {c dd size t : Nat} (h : DyR w v c dd size t W) (ht : t ≤ 50) :
    Calls Try.prog 23 #[ptV c] W fun e W4 => ∃ gl K : Nat, (1 ≤ K ∧ K ≤ 1000) ∧ e = .returned (.slice (some ⟨gl, 0, none⟩) K K) ∧
      Calls Try.prog 26 #[ptV dd] W4 fun e W5 => ∃ g5, e = .returned (.slice (some ⟨g5, 0, none⟩) 0 0) ∧
        Calls Try.prog 19 #[ptV c, .int .i64 0] W5 fun e W6 => e = .returned (.bool true) ∧
          Calls Try.prog 27 #[ptV dd, .int .i64 0] W6 fun e W7 => ∃ xo xc, e = .returned (.tuple #[.slice xo 1024 xc, .bool true]) ∧ DyE w v dd gl xo xc W7 := by
  obtain ⟨reads, r, hC, hD, h0, h1⟩ := h
  have hf := dr_fine (v := v) hD (by omega) h0 (by omega) 0 (by omega)
  have hF := hC.at'.trim
  obtain ⟨F, hFe⟩ : ∃ F : Nat → Prop, F = (fun k => w.heap.size ≤ k ∧ k < W.heap.size) := ⟨_, rfl⟩
  rw [← hFe] at hF
  have hF1 : ∀ k, F k → w.heap.size ≤ k ∧ k < W.heap.size := fun k hk => by rw [hFe] at hk; exact hk
  have hlen := hD.len
  refine (cd_held hF hf).mono ?_
  rintro e W4 ⟨rfl, hown, hB4⟩
  have hF4 := hF.below hB4
  have hgl4 : W.heap.size < W4.heap.size := (hown.lt _ rfl).2
  obtain ⟨cs, hcs, hc0⟩ : ∃ cs, W4.heap[W.heap.size]? = some (.cells cs 3 (0, 0)) ∧ cs[0]? = some (.int .i64 0) := by
    obtain ⟨q1, q2⟩ := hown
    rcases q2 with ⟨q2, _⟩ | ⟨g, cap, cur, q2, _, q3, q4, _, _, q5⟩
    · simp at q2
    · cases q2
      refine ⟨cur, q3, ?_⟩
      rw [← Array.getElem?_toList]
      have : (cur.toList.take (((dyK v 0 :: r).length) * 1))[0]? = some (Value.int .i64 0) := by rw [q5]; rfl
      rw [List.getElem?_take, if_pos (by simp)] at this
      exact this
  refine ⟨W.heap.size, (dyK v 0 :: r).length, ⟨by simp, by simp; omega⟩, rfl, ?_⟩
  obtain ⟨Fd, hd4, _, _⟩ := hF4.disk
  refine (Dk.log_any Fd W4 dd (newS 20) hd4 (Nat.zero_le _) (fun k hk => absurd hk (Nat.not_lt_zero _))).mono ?_
  rintro e W5 ⟨g5, _, rfl, _, _, _, hB5⟩
  have hs5 := hB5.size
  have hF5 := hF4.below hB5
  refine ⟨g5, rfl, ?_⟩
  refine (cd_flush hF5 0 (by decide) hf 0 (newS_sane 20) (by omega)).mono ?_
  obtain ⟨s2, w1, w2, w3, w4, w5⟩ := wr_new (blkV v) (blkV_length v)
  have hfd : fndK (dyK v 0 :: r) 0 = some (dyK v 0) := by simp [fndK, dyK]
  have hsane := (Dk.wr_sane (block := 0) (xs := blkV v) (newS_sane 20)).1
  rw [w1] at hsane
  rintro e W6 ⟨rfl, hC6, ho6⟩
  have e1 : fluB (dyK v 0 :: r) (newS 20) 0 = true := by
    unfold fluB
    rw [hfd]
    show (if (dyK v 0).dirty = true then (Dk.wrS (newS 20) 0 (blkV v)).1 else true) = true
    rw [w1]
    rfl
  have e3 : fluS (dyK v 0 :: r) (newS 20) 0 = s2 := by
    unfold fluS
    rw [hfd]
    show (if (dyK v 0).dirty = true then (Dk.wrS (newS 20) 0 (blkV v)).2 else newS 20) = s2
    rw [w1]
    rfl
  rw [e3] at hC6
  refine ⟨by rw [e1], ?_⟩
  obtain ⟨Fd6, hd6, _, _⟩ := hC6.disk
  have hs6 := ho6.size
  refine (Dk.read_any Fd6 W6 dd s2 hd6 w5 0).mono ?_
  rintro e W7 ⟨xo, xn, xc, rfl, hB7, _, hyes, _⟩
  rw [w3] at hyes ⊢
  obtain ⟨rfl, hrow, hne⟩ := hyes rfl
  refine ⟨xo, xc, rfl, ?_, ?_, ?_, ?_⟩
  · have b6 : Below w.heap.size w W6 := ((hC.bel.trans (hB4.mono hC.bel.size)).trans (hB5.mono (by have := hC.bel.size; omega))).trans (ho6.below (by have := hC.bel.size; omega) (fun k hk => (hF1 k hk).1))
    exact b6.trans (hB7.mono b6.size)
  · refine ⟨(0, 0), cs, 3, ?_, hc0⟩
    rw [hB7.block _ (by omega), ho6.block _ (by omega) (fun hk => by have := (hF1 _ hk).2; omega), hB5.block _ (by omega)]
    exact hcs
  · have e2 : (List.drop (1024 * (0 : Int).toNat) s2.img).take 1024 = blkV v := w4
    rw [e2] at hrow
    obtain ⟨ao, cc, q1, q2, _, _⟩ := owns_BAt hrow
    cases q1
    exact q2
  · exact ⟨_, s2, hd6.only (Only.of_new (fun _ => False) hB7) (fun _ _ _ h => h), w2, hsane⟩
/-- What the last region asks. -/
theorem dy_last {w W : World} {v : Int} {dd gl : Nat} {xo : Option Addr} {xc : Nat} (h : DyE w v dd gl xo xc W) (st : ByteArray) (hst : st = strOfNums (blkV v)) :
    (∀ W', Below W.drew.heap.size W.drew W' → DyS gl xo xc st W') ∧ (Calls Try.prog 16 #[.int .i64 v] W.drew fun e w8 => e = .returned (.slice (some ⟨W.drew.heap.size, 0, none⟩) 1024 1024) ∧ (convert 35 9 (.slice (some ⟨W.drew.heap.size, 0, none⟩) 1024 1024)).run Try.prog w8 = .ok (.string st) w8 ∧ Below W.drew.heap.size W.drew w8) ∧
      (∀ w8, Below W.drew.heap.size W.drew w8 → Calls Try.prog 26 #[ptV dd] w8 fun e w9 => ∃ g9, e = .returned (.slice (some ⟨g9, 0, none⟩) 2 2) ∧ Below W.drew.heap.size W.drew w9) := by
  subst hst
  refine ⟨fun W' hB => ?_, ?_, fun w8 hB => ?_⟩
  · obtain ⟨fr, cs, t, c1, c2⟩ := h.cel
    have hlt := lt_of_block c1
    refine ⟨by rw [blk_cell ((hB.block gl hlt).trans c1)]; exact c2, conv_bytes W' xo 1024 xc (blkV v) ?_⟩
    obtain ⟨b1, b2⟩ := h.bat
    refine ⟨b1, fun h0 => ?_⟩
    obtain ⟨a, e, hl, hc⟩ := b2 h0
    exact ⟨a, e, Nat.lt_of_lt_of_le hl hB.size, fun i hi => by rw [hB.cell (p := a.add i) (by rw [add_block]; exact hl)]; exact hc i hi⟩
  · refine (block_any W.drew v).mono ?_
    rintro e w8 ⟨rfl, hR, hB⟩
    exact ⟨rfl, conv_bytes w8 _ 1024 1024 (blkV v) (hR.full (blkV_length v)), hB⟩
  · obtain ⟨Fd, s2, d1, d2, d3⟩ := h.dsk
    have d1' := d1.only ((Only.refl (fun _ => False) W).drew.trans (Only.of_new (fun _ => False) hB) (fun _ e => e.elim)) (fun _ _ _ h => h)
    have := Dk.log_any Fd w8 dd s2 d1' (by omega) (fun k hk => by have := d3.dat k hk; omega)
    rw [d2] at this
    refine this.mono ?_
    rintro e w9 ⟨g9, _, rfl, _, _, _, hB9⟩
    exact ⟨g9, rfl, hB.trans (hB9.mono hB.size)⟩
set_option maxRecDepth 100000 in
set_option maxHeartbeats 4000000 in
theorem dirty_any (w : World) (size others v : Int) : Calls Try.prog 6 #[.int .i64 size, .int .i64 others, .int .i64 v] w fun e w' => e = .returned (.bool true) ∧ Below w.heap.size w w' := by
  have HAL := Hid.mk (alive_any w)
  by_cases q0 : size < 1
  · go_enter Try.func6, Try.ntmps6
    go_wp2_with (go_at_call 8; refine HAL.out.mono ?_; rintro e w1 ⟨rfl, hb1⟩; have HB1 := Hid.mk hb1; clear hb1 HAL)
    go_ret
    exact ⟨rfl, HB1.out⟩
  by_cases q1 : 5 < size
  · go_enter Try.func6, Try.ntmps6
    go_wp2_with (go_at_call 8; refine HAL.out.mono ?_; rintro e w1 ⟨rfl, hb1⟩; have HB1 := Hid.mk hb1; clear hb1 HAL)
    go_ret
    exact ⟨rfl, HB1.out⟩
  by_cases q2 : others < 0
  · go_enter Try.func6, Try.ntmps6
    go_wp2_with (go_at_call 8; refine HAL.out.mono ?_; rintro e w1 ⟨rfl, hb1⟩; have HB1 := Hid.mk hb1; clear hb1 HAL)
    go_ret
    exact ⟨rfl, HB1.out⟩
  by_cases q3 : 15 < others
  · go_enter Try.func6, Try.ntmps6
    go_wp2_with (go_at_call 8; refine HAL.out.mono ?_; rintro e w1 ⟨rfl, hb1⟩; have HB1 := Hid.mk hb1; clear hb1 HAL)
    go_ret
    exact ⟨rfl, HB1.out⟩
  obtain ⟨sz, rfl⟩ : ∃ x : Nat, size = x := ⟨size.toNat, by omega⟩
  obtain ⟨N, rfl⟩ : ∃ x : Nat, others = x := ⟨others.toNat, by omega⟩
  have p1 : 1 ≤ sz := by omega
  have p4 : N ≤ 15 := by omega
  have PN := Hid.mk p4
  have HD : Hid (∀ W, Below w.heap.size w W → Calls Try.prog 9 #[.int .i64 20] W fun e w' => ∃ dd, e = .returned (ptV dd) ∧ Dk.DiskAt (fun k => w.heap.size ≤ k) w' dd (newS 20) ∧ Below w.heap.size w w') := Hid.mk (fun W hB => (cd_made W 20 (by omega)).mono (by
    rintro e w' ⟨dd, rfl, _, hd, hB'⟩
    exact ⟨dd, rfl, hd.mono (fun k _ hk => Nat.le_trans hB.size hk), hB.trans (hB'.mono hB.size)⟩))
  have z1 : szN (sz : Int) = sz := by unfold szN; omega
  have HG0 : Hid (∀ W c dd, Cd w W c dd (szN (sz : Int)) 0 [] (newS 20) → Calls Try.prog 12 #[ptV c, .int .i64 0] W fun e w' => ∃ u, e = .returned u ∧ Cd w w' c dd sz 1 [kbN (newS 20) 0 1] (newS 20)) := Hid.mk (fun W c dd h => by rw [z1] at h; exact dy_get0 h p1)
  have HBL : Hid (∀ W c dd, Cd w W c dd sz 1 [kbN (newS 20) 0 1] (newS 20) → Calls Try.prog 16 #[.int .i64 v] W fun e w' => ∃ a, e = .returned (.slice (some ⟨a, 0, none⟩) 1024 1024) ∧ Calls Try.prog 17 #[ptV c, .int .i64 0, .slice (some ⟨a, 0, none⟩) 1024 1024] w' fun e w'' => e = .returned (.bool true) ∧ Calls Try.prog 15 #[ptV c, .int .i64 0] w'' fun e w3 => ∃ u, e = .returned u ∧ DyR w v c dd sz 0 w3) := Hid.mk (fun W c dd h => (block_any W v).mono (by
    rintro e w' ⟨rfl, hR, hB⟩
    refine ⟨_, rfl, (dy_put0 v (h.below hB) _ (hR.full (blkV_length v))).mono ?_⟩
    rintro e w'' ⟨rfl, h''⟩
    exact ⟨rfl, dy_rel0 v h''⟩))
  have HG : Hid (∀ W c dd i, i < N → DyR w v c dd sz i W → Calls Try.prog 12 #[ptV c, .int .i64 ((i + 1 : Nat) : Int)] W fun e w' => ∃ u, e = .returned u ∧ Calls Try.prog 15 #[ptV c, .int .i64 ((i + 1 : Nat) : Int)] w' fun e w'' => ∃ u, e = .returned u ∧ DyR w v c dd sz (i + 1) w'') := Hid.mk (fun W c dd i hi h => (h.get (by omega) (i + 1) (by omega) (by omega)).mono (by
    rintro e w' ⟨u, rfl, h'⟩
    exact ⟨u, rfl, h'.rel (by omega) (i + 1) (by omega) (by omega)⟩))
  have HT : Hid (∀ W c dd, DyR w v c dd sz N W → _) := Hid.mk (fun W c dd h => dy_tail h (by omega))
  clear z1 p1 p4
  go_enter Try.func6, Try.ntmps6
  go_wp2_with (first
    | (go_at_call 8; refine HAL.out.mono ?_; rintro e w1 ⟨rfl, hb1⟩; have HB1 := Hid.mk hb1; clear hb1 HAL)
    | (go_at_call 9; refine (HD.out _ HB1.out).mono ?_; rintro e w2 ⟨dd, rfl, hd2, hb2⟩; have HN := Hid.mk (Cd.new hd2 hb2 (sz : Int)); clear hd2 hb2 HD)
    | (go_at_call 10; refine HN.out.mono ?_; rintro e w3 ⟨c, rfl, h3⟩; have H3 := Hid.mk (HG0.out _ _ _ h3); clear h3 HN HG0)
    | (go_at_call 12; refine H3.out.mono ?_; rintro e w4 ⟨u4, rfl, h4⟩; have H4 := Hid.mk (HBL.out _ _ _ h4); clear h4 H3 HBL)
    | (go_at_call 16; refine H4.out.mono ?_; rintro e w5 ⟨a5, rfl, h5⟩; have H5 := Hid.mk h5; clear h5 H4)
    | (go_at_call 17; refine H5.out.mono ?_; rintro e w6 ⟨rfl, h6⟩; have H6 := Hid.mk h6; clear h6 H5)
    | (go_at_call 15; refine H6.out.mono ?_; rintro e w7 ⟨u7, rfl, h7⟩; have H7 := Hid.mk h7; clear h7 H6))
  go_loopw [11] (fun i wr => ∃ k : Nat, i = .int .i64 ((k + 1 : Nat) : Int) ∧ Hid (k ≤ N) ∧ Hid (DyR w v c dd sz k wr)) (fun i _ => N + 1 - (intOf i).toNat)
  case atStart => exact ⟨0, rfl, Hid.mk (Nat.zero_le _), H7⟩
  case round =>
    obtain ⟨k, rfl, hk, HK⟩ := hrel
    clear H7
    have hkb : k ≤ 15 := by have h1 := hk.out; have h2 := PN.out; omega
    by_cases hlt : k < N
    · have HLT : Hid (k < N) := Hid.mk hlt
      have hle : ((k + 1 : Nat) : Int) ≤ (N : Int) := by omega
      have hw1 : IntKind.i64.wrap (((k + 1 : Nat) : Int) + 1) = ((k + 1 + 1 : Nat) : Int) := by rw [IntKind.wrap_i64]; omega
      have HGG := Hid.mk (HG.out _ _ _ _ hlt HK.out)
      obtain ⟨k1, hk1⟩ : ∃ k1, k1 = k + 1 := ⟨_, rfl⟩
      rw [← hk1] at hle hw1 HGG ⊢
      have HK1 := Hid.mk hk1
      clear hk1 hlt
      go_wp2_with (first
        | (go_at_call 12; refine HGG.out.mono ?_; rintro e w8 ⟨u8, rfl, h8⟩; have H8 := Hid.mk h8; clear h8 HGG)
        | (go_at_call 15; refine H8.out.mono ?_; rintro e w9 ⟨u9, rfl, h9⟩; have H9 := Hid.mk h9; clear h9 H8))
      go_roundw
      case rel => exact ⟨k1, by go_num, Hid.mk (by rw [HK1.out]; exact HLT.out), H9⟩
      case measure => have h1 := HLT.out; have h2 := HK1.out; simp [intOf]; omega
    · obtain rfl : k = N := by have := hk.out; omega
      have hnle : ¬ ((k + 1 : Nat) : Int) ≤ (k : Int) := by omega
      have HTT := Hid.mk (HT.out _ _ _ HK.out)
      obtain ⟨k1, hk1⟩ : ∃ k1, k1 = k + 1 := ⟨_, rfl⟩
      rw [← hk1] at hnle ⊢
      clear hk1 HT HK hlt
      have hlt2 : (k : Int) < (k1 : Int) := by omega
      go_wp2_with (first
        | (go_at_call 23; refine HTT.out.mono ?_; rintro e W3 ⟨gl, K, hK, rfl, h3⟩; have H3 := Hid.mk h3; clear h3 HTT)
        | (go_at_call 26; refine H3.out.mono ?_; rintro e W4 ⟨g5, rfl, h4⟩; have H4 := Hid.mk h4; clear h4 H3)
        | (go_at_call 19; refine H4.out.mono ?_; rintro e W5 ⟨rfl, h5⟩; have H5 := Hid.mk h5; clear h5 H4)
        | (go_at_call 27; refine H5.out.mono ?_; rintro e W6 ⟨xo, xc, rfl, h6⟩; have H6 := Hid.mk h6; clear h6 H5))
      obtain ⟨st, hst⟩ : ∃ st, st = strOfNums (blkV v) := ⟨_, rfl⟩
      obtain ⟨q1, q2, q3⟩ := dy_last H6.out st hst
      have HST := Hid.mk q1
      have HS0 := Hid.mk (q1 _ (Below.refl _ _))
      have HBLK := Hid.mk q2
      have HLOG2 := Hid.mk q3
      clear q1 q2 q3 hst
      obtain ⟨hK1, hK2⟩ := hK
      have hKp : (0 : Int) < (K : Int) := by omega
      have hKn : 0 < K := by omega
      have hKz : ¬ K = 0 := by omega
      refine wp_region_held_drew (S := DyS gl xo xc st) (by kernel_rfl) HS0.out (fun hH => ?_)
      change wpAnyH Try.prog Region.Mode.any _ _ _ 37 _ _ _
      refine takeH 0 72 (.bool true) rfl (by kernel_rfl) (by kernel_rfl) (by kernel_rfl) (by kernel_rfl) (fun _ _ _ h => h) (by kernel_rfl) (fun w hw => by kernel_rfl) hH ?_
      simp only [List.setIfInBounds_toArray, List.set_cons_zero, List.set_cons_succ]
      refine takeH 1 73 (.bool true) rfl (by kernel_rfl) (by kernel_rfl) (by kernel_rfl) (by kernel_rfl) (fun _ _ _ h => h) (by kernel_rfl) (fun w hw => by kernel_rfl) hH ?_
      simp only [List.setIfInBounds_toArray, List.set_cons_zero, List.set_cons_succ]
      refine takeH 2 74 (.slice (some ⟨gl, 0, none⟩) K K) rfl (by kernel_rfl) (by kernel_rfl) (by kernel_rfl) (by kernel_rfl) (fun _ _ _ h => h) (by kernel_rfl) (fun w hw => by kernel_rfl) hH ?_
      simp only [List.setIfInBounds_toArray, List.set_cons_zero, List.set_cons_succ]
      refine takeH 3 75 (.int .i64 ((K : Nat) : Int)) rfl (by kernel_rfl) (by kernel_rfl) (by kernel_rfl) (by kernel_rfl) (fun _ _ _ h => h) (by kernel_rfl) (fun w hw => by (try dsimp only at hw); go_simp) hH ?_
      simp only [List.setIfInBounds_toArray, List.set_cons_zero, List.set_cons_succ]
      refine takeH 4 76 (.bool true) rfl (by kernel_rfl) (by kernel_rfl) (by kernel_rfl) (by kernel_rfl) (fun _ _ _ h => h) (by kernel_rfl) (fun w hw => by (try dsimp only at hw); go_simp) hH ?_
      simp only [List.setIfInBounds_toArray, List.set_cons_zero, List.set_cons_succ]
      refine takeH 5 77 (.bool true) rfl (by kernel_rfl) (by kernel_rfl) (by kernel_rfl) (by kernel_rfl) (fun _ _ _ h => h) (by kernel_rfl) (fun w hw => by (try dsimp only at hw); go_simp) hH ?_
      simp only [List.setIfInBounds_toArray, List.set_cons_zero, List.set_cons_succ]
      refine takeH 6 78 (.bool true) rfl (by kernel_rfl) (by kernel_rfl) (by kernel_rfl) (by kernel_rfl) (fun _ _ _ h => h) (by kernel_rfl) (fun w hw => by kernel_rfl) hH ?_
      simp only [List.setIfInBounds_toArray, List.set_cons_zero, List.set_cons_succ]
      refine takeH 7 79 (.slice (some ⟨gl, 0, none⟩) K K) rfl (by kernel_rfl) (by kernel_rfl) (by kernel_rfl) (by kernel_rfl) (fun _ _ _ h => h) (by kernel_rfl) (fun w hw => by kernel_rfl) hH ?_
      simp only [List.setIfInBounds_toArray, List.set_cons_zero, List.set_cons_succ]
      refine takeH 8 80 (.pointer (some ⟨gl, 0, none⟩)) rfl (by kernel_rfl) (by kernel_rfl) (by kernel_rfl) (by kernel_rfl) (fun _ _ _ h => h) (by kernel_rfl) (fun w hw => by (try dsimp only at hw); go_simp) hH ?_
      simp only [List.setIfInBounds_toArray, List.set_cons_zero, List.set_cons_succ]
      refine takeH 9 81 (.int .i64 0) rfl (by kernel_rfl) (by kernel_rfl) (by kernel_rfl) (by kernel_rfl) (fun _ _ _ h => h) (by kernel_rfl) (fun w hw => by (try dsimp only at hw); go_simp) hH ?_
      simp only [List.setIfInBounds_toArray, List.set_cons_zero, List.set_cons_succ]
      refine takeH 10 82 (.bool true) rfl (by kernel_rfl) (by kernel_rfl) (by kernel_rfl) (by kernel_rfl) (fun _ _ _ h => h) (by kernel_rfl) (fun w hw => by (try dsimp only at hw); go_simp) hH ?_
      simp only [List.setIfInBounds_toArray, List.set_cons_zero, List.set_cons_succ]
      refine takeH 11 83 (.bool true) rfl (by kernel_rfl) (by kernel_rfl) (by kernel_rfl) (by kernel_rfl) (fun _ _ _ h => h) (by kernel_rfl) (fun w hw => by (try dsimp only at hw); go_simp) hH ?_
      simp only [List.setIfInBounds_toArray, List.set_cons_zero, List.set_cons_succ]
      refine takeH 12 84 (.bool true) rfl (by kernel_rfl) (by kernel_rfl) (by kernel_rfl) (by kernel_rfl) (fun _ _ _ h => h) (by kernel_rfl) (fun w hw => by kernel_rfl) hH ?_
      simp only [List.setIfInBounds_toArray, List.set_cons_zero, List.set_cons_succ]
      refine takeH 13 85 (.int .i64 0) rfl (by kernel_rfl) (by kernel_rfl) (by kernel_rfl) (by kernel_rfl) (fun _ _ _ h => h) (by kernel_rfl) (fun w hw => by kernel_rfl) hH ?_
      simp only [List.setIfInBounds_toArray, List.set_cons_zero, List.set_cons_succ]
      refine takeH 14 86 (.bool true) rfl (by kernel_rfl) (by kernel_rfl) (by kernel_rfl) (by kernel_rfl) (fun _ _ _ h => h) (by kernel_rfl) (fun w hw => by (try dsimp only at hw); go_simp) hH ?_
      simp only [List.setIfInBounds_toArray, List.set_cons_zero, List.set_cons_succ]
      refine takeH 15 87 (.bool true) rfl (by kernel_rfl) (by kernel_rfl) (by kernel_rfl) (by kernel_rfl) (fun _ _ _ h => h) (by kernel_rfl) (fun w hw => by (try dsimp only at hw); go_simp) hH ?_
      simp only [List.setIfInBounds_toArray, List.set_cons_zero, List.set_cons_succ]
      refine takeH 16 88 (.bool true) rfl (by kernel_rfl) (by kernel_rfl) (by kernel_rfl) (by kernel_rfl) (fun _ _ _ h => h) (by kernel_rfl) (fun w hw => by kernel_rfl) hH ?_
      simp only [List.setIfInBounds_toArray, List.set_cons_zero, List.set_cons_succ]
      refine takeH 17 89 (.bool true) rfl (by kernel_rfl) (by kernel_rfl) (by kernel_rfl) (by kernel_rfl) (fun _ _ _ h => h) (by kernel_rfl) (fun w hw => by kernel_rfl) hH ?_
      simp only [List.setIfInBounds_toArray, List.set_cons_zero, List.set_cons_succ]
      refine takeH 18 90 (.bool true) rfl (by kernel_rfl) (by kernel_rfl) (by kernel_rfl) (by kernel_rfl) (fun _ _ _ h => h) (by kernel_rfl) (fun w hw => by (try dsimp only at hw); go_simp) hH ?_
      simp only [List.setIfInBounds_toArray, List.set_cons_zero, List.set_cons_succ]
      refine takeH 19 91 (.bool true) rfl (by kernel_rfl) (by kernel_rfl) (by kernel_rfl) (by kernel_rfl) (fun _ _ _ h => h) (by kernel_rfl) (fun w hw => by kernel_rfl) hH ?_
      simp only [List.setIfInBounds_toArray, List.set_cons_zero, List.set_cons_succ]
      refine takeH 20 92 (.bool true) rfl (by kernel_rfl) (by kernel_rfl) (by kernel_rfl) (by kernel_rfl) (fun _ _ _ h => h) (by kernel_rfl) (fun w hw => by kernel_rfl) hH ?_
      simp only [List.setIfInBounds_toArray, List.set_cons_zero, List.set_cons_succ]
      refine takeH 21 93 (.bool true) rfl (by kernel_rfl) (by kernel_rfl) (by kernel_rfl) (by kernel_rfl) (fun _ _ _ h => h) (by kernel_rfl) (fun w hw => by (try dsimp only at hw); go_simp) hH ?_
      simp only [List.setIfInBounds_toArray, List.set_cons_zero, List.set_cons_succ]
      refine takeH 22 94 (.bool true) rfl (by kernel_rfl) (by kernel_rfl) (by kernel_rfl) (by kernel_rfl) (fun _ _ _ h => h) (by kernel_rfl) (fun w hw => by kernel_rfl) hH ?_
      simp only [List.setIfInBounds_toArray, List.set_cons_zero, List.set_cons_succ]
      refine takeH 23 95 (.slice xo 1024 xc) rfl (by kernel_rfl) (by kernel_rfl) (by kernel_rfl) (by kernel_rfl) (fun _ _ _ h => h) (by kernel_rfl) (fun w hw => by kernel_rfl) hH ?_
      simp only [List.setIfInBounds_toArray, List.set_cons_zero, List.set_cons_succ]
      refine takeH 24 96 (.string st) rfl (by kernel_rfl) (by kernel_rfl) (by kernel_rfl) (by kernel_rfl) (fun _ _ _ h => h) (by kernel_rfl) (fun w hw => exec_convert (x := .tmp 95) rfl (by kernel_rfl) hw.2) hH ?_
      simp only [List.setIfInBounds_toArray, List.set_cons_zero, List.set_cons_succ]
      refine takeH 25 97 (.int .i64 v) rfl (by kernel_rfl) (by kernel_rfl) (by kernel_rfl) (by kernel_rfl) (fun _ _ _ h => h) (by kernel_rfl) (fun w hw => by kernel_rfl) hH ?_
      simp only [List.setIfInBounds_toArray, List.set_cons_zero, List.set_cons_succ]
      refine stepH_call 26 98 rfl (by kernel_rfl) (by kernel_rfl) (by kernel_rfl) 16 #[.tmp 97] #[3] (by kernel_rfl) (enters_of Try.func16 (by kernel_rfl) rfl) #[.int .i64 v] (by kernel_rfl) HBLK.out ?_
      rintro e w8 ⟨rfl, hcv8, hB8⟩
      have hH8 := HST.out w8 hB8
      refine ⟨_, rfl, hH8, ?_⟩
      simp only [List.setIfInBounds_toArray, List.set_cons_zero, List.set_cons_succ]
      refine stepH 27 99 (.string st) rfl (by kernel_rfl) (by kernel_rfl) (by kernel_rfl) (exec_convert (x := .tmp 98) rfl (by kernel_rfl) hcv8) hH8 ?_
      simp only [List.setIfInBounds_toArray, List.set_cons_zero, List.set_cons_succ]
      refine takeH 28 100 (.bool true) rfl (by kernel_rfl) (by kernel_rfl) (by kernel_rfl) (by kernel_rfl) (fun _ _ _ h => h) (by kernel_rfl) (fun w hw => by (try dsimp only at hw); go_simp) hH8 ?_
      simp only [List.setIfInBounds_toArray, List.set_cons_zero, List.set_cons_succ]
      refine takeH 29 101 (.bool true) rfl (by kernel_rfl) (by kernel_rfl) (by kernel_rfl) (by kernel_rfl) (fun _ _ _ h => h) (by kernel_rfl) (fun w hw => by (try dsimp only at hw); go_simp) hH8 ?_
      simp only [List.setIfInBounds_toArray, List.set_cons_zero, List.set_cons_succ]
      refine takeH 30 102 (.bool true) rfl (by kernel_rfl) (by kernel_rfl) (by kernel_rfl) (by kernel_rfl) (fun _ _ _ h => h) (by kernel_rfl) (fun w hw => by kernel_rfl) hH8 ?_
      simp only [List.setIfInBounds_toArray, List.set_cons_zero, List.set_cons_succ]
      refine takeH 31 103 (.pointer (some ⟨dd, 0, none⟩)) rfl (by kernel_rfl) (by kernel_rfl) (by kernel_rfl) (by kernel_rfl) (fun _ _ _ h => h) (by kernel_rfl) (fun w hw => by kernel_rfl) hH8 ?_
      simp only [List.setIfInBounds_toArray, List.set_cons_zero, List.set_cons_succ]
      refine stepH_call 32 104 rfl (by kernel_rfl) (by kernel_rfl) (by kernel_rfl) 26 #[.tmp 103] #[24] (by kernel_rfl) (enters_of Try.func26 (by kernel_rfl) rfl) #[ptV dd] (by kernel_rfl) (HLOG2.out w8 hB8) ?_
      rintro e w9 ⟨g9, rfl, hB9⟩
      have hH9 := HST.out w9 hB9
      refine ⟨_, rfl, hH9, ?_⟩
      simp only [List.setIfInBounds_toArray, List.set_cons_zero, List.set_cons_succ]
      refine takeH 33 105 (.int .i64 2) rfl (by kernel_rfl) (by kernel_rfl) (by kernel_rfl) (by kernel_rfl) (fun _ _ _ h => h) (by kernel_rfl) (fun w hw => by (try dsimp only at hw); go_simp) hH9 ?_
      simp only [List.setIfInBounds_toArray, List.set_cons_zero, List.set_cons_succ]
      refine takeH 34 106 (.bool true) rfl (by kernel_rfl) (by kernel_rfl) (by kernel_rfl) (by kernel_rfl) (fun _ _ _ h => h) (by kernel_rfl) (fun w hw => by (try dsimp only at hw); go_simp) hH9 ?_
      simp only [List.setIfInBounds_toArray, List.set_cons_zero, List.set_cons_succ]
      refine takeH 35 107 (.bool true) rfl (by kernel_rfl) (by kernel_rfl) (by kernel_rfl) (by kernel_rfl) (fun _ _ _ h => h) (by kernel_rfl) (fun w hw => by (try dsimp only at hw); go_simp) hH9 ?_
      simp only [List.setIfInBounds_toArray, List.set_cons_zero, List.set_cons_succ]
      refine takeH 36 6 (.bool true) rfl (by kernel_rfl) (by kernel_rfl) (by kernel_rfl) (by kernel_rfl) (fun _ _ _ h => h) (by kernel_rfl) (fun w hw => by kernel_rfl) hH9 ?_
      simp only [List.setIfInBounds_toArray, List.set_cons_zero, List.set_cons_succ]
      refine wpAnyH_done (by kernel_rfl) ?_ _
      go_wp2
      go_ret
      exact ⟨rfl, H6.out.bel.trans ((show Below w.heap.size W6 W6.drew from (Below.refl _ W6).drew).trans (hB9.mono H6.out.bel.size))⟩
end Go.Proofs.Ytmbhjheoomlggaa
