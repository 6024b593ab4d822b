/-
  The document's example, which every law runs first.
-/
import Derived.Test.YtmbhjheoomlggaaCaLaw
namespace Go.Proofs.Ytmbhjheoomlggaa
open Go Go.Proofs Go.RowKit Go.Shelf
/-- A new disk. -/
def newS (n : Nat) : Dk.DS := ⟨List.replicate (1024 * n) 0, [], false, false, 0⟩
theorem newS_len (n : Nat) : (newS n).img.length = 1024 * n := by simp [newS]
theorem newS_has (n : Nat) (k : Int) : (Dk.hasB (newS n) k && !(newS n).dead) = decide (0 ≤ k ∧ k < n) := by
  have : 1024 * n / 1024 = n := by omega
  simp [Dk.hasB, newS, this]
theorem newS_sane (n : Nat) : Dk.Sane (newS n) 0 := ⟨by simp [newS], fun k hk => by simp [newS] at hk, by simp [newS], by simp [newS]⟩
/-- A cache, made since w, lies beside whatever was. -/
structure Cd (w W : World) (c dd size : Nat) (reads : Int) (ks : List Kb) (s : Dk.DS) : Prop where
  at' : CdAt (fun k => w.heap.size ≤ k) W c dd size reads ks s
  bel : Below w.heap.size w W
theorem Cd.step {w W W' : World} {c dd size : Nat} {reads reads' : Int} {ks ks' : List Kb} {s s' : Dk.DS} {F : Nat → Prop} (h : Cd w W c dd size reads ks s) (hC : CdAt F W' c dd size reads' ks' s') (hF : ∀ k, k < W'.heap.size → F k → w.heap.size ≤ k) (ho : Only (fun k => w.heap.size ≤ k) W W') : Cd w W' c dd size reads' ks' s' :=
  ⟨hC.mono hF, h.bel.trans (ho.below h.bel.size (fun _ h => h))⟩
section
variable {w W : World} {c dd size : Nat} {reads : Int} {ks : List Kb} {s : Dk.DS}
theorem Cd.get_yes (h : Cd w W c dd size reads ks s) (n : Int) (hw : (Lit.int .i64 n).wf = true) (hf : Fine reads ks s) (x : Kb) (hx : gotK s ks n = some x) :
    Calls Try.prog 12 #[ptV c, .int .i64 n] W fun e w' => ∃ g cap, e = .returned (.tuple #[.slice (some ⟨g, 0, none⟩) 1024 cap, .bool true]) ∧ Cd w w' c dd size (rdK ks reads n) (getL size ks x) s := by
  refine (cd_get_yes h.at' n hw hf x hx).mono ?_
  rintro e w' ⟨g, cap, rfl, _, _, hC, ho⟩
  exact ⟨g, cap, rfl, h.step hC (fun k _ hk => hk.1.elim id (fun h' => Nat.le_trans h.bel.size h')) ho⟩
theorem Cd.release (h : Cd w W c dd size reads ks s) (n : Int) (hw : (Lit.int .i64 n).wf = true) (hf : Fine reads ks s) :
    Calls Try.prog 15 #[ptV c, .int .i64 n] W fun e w' => e = .returned (.bool (relB ks n)) ∧ Cd w w' c dd size reads (relL size ks n) s := by
  refine (cd_release h.at' n hw hf).mono ?_
  rintro e w' ⟨rfl, hC, ho⟩
  exact ⟨rfl, h.step hC (fun k _ hk => hk) ho⟩
theorem Cd.held (h : Cd w W c dd size reads ks s) (hf : Fine reads ks s) :
    Calls Try.prog 23 #[ptV c] W fun e w' => e = .returned (.slice (some ⟨W.heap.size, 0, none⟩) ks.length ks.length) ∧ LAt w' (some ⟨W.heap.size, 0, none⟩) ks.length (ks.map (·.num)) ∧ Cd w w' c dd size reads ks s ∧ Below W.heap.size W w' := by
  refine (cd_held h.at' hf).mono ?_
  rintro e w' ⟨rfl, hown, hB⟩
  refine ⟨rfl, ⟨by simp, fun _ => ⟨_, rfl, (hown.lt _ rfl).2, fun i hi => ?_⟩⟩, ⟨h.at'.below hB, h.bel.trans (hB.mono h.bel.size)⟩, hB⟩
  have := hown.cells rfl i (.int .i64 ((ks.map (·.num)).getD i 0)) (Iy_get _ _ (by simpa using hi))
  exact this
theorem Cd.below {W' : World} (h : Cd w W c dd size reads ks s) (hB : Below W.heap.size W W') : Cd w W' c dd size reads ks s := ⟨h.at'.below hB, h.bel.trans (hB.mono h.bel.size)⟩
end
/-- disk.New and cache.New. -/
theorem cd_made (w : World) (n : Nat) (hn : n ≤ 20000) : Calls Try.prog 9 #[.int .i64 (n : Nat)] w fun e w' => ∃ dd, e = .returned (ptV dd) ∧ w.heap.size ≤ dd ∧ Dk.DiskAt (fun k => w.heap.size ≤ k) w' dd (newS n) ∧ Below w.heap.size w w' := by
  have h := Dk.new_any w n
  have e : Dk.capB (n : Int) = n := by unfold Dk.capB; omega
  rw [e] at h
  exact h
theorem Cd.new {w W : World} {dd : Nat} {s : Dk.DS} (h : Dk.DiskAt (fun k => w.heap.size ≤ k) W dd s) (hB : Below w.heap.size w W) (n : Int) :
    Calls Try.prog 10 #[ptV dd, .int .i64 n] W fun e w' => ∃ c, e = .returned (ptV c) ∧ Cd w w' c dd (szN n) 0 [] s := by
  refine (cd_new _ dd s h n).mono ?_
  rintro e w' ⟨c, rfl, _, hC, hB'⟩
  have hs := hB.size
  exact ⟨c, rfl, hC.mono (fun k _ hk => hk.elim id (fun h => Nat.le_trans hs h)), hB.trans (hB'.mono hs)⟩
def kbN (s : Dk.DS) (n : Int) (pins : Nat) : Kb := ⟨n, pins, false, blkL s n⟩
theorem fine_small {reads : Int} {ks : List Kb} {s : Dk.DS} (h1 : s.img.length ≤ 20480000) (h2 : 0 ≤ reads) (h3 : reads ≤ 1000000) (h4 : ks.length < 1000000) (h5 : ∀ x ∈ ks, x.pins ≤ 1000000) : Fine reads ks s := ⟨h1, h2, h3, h4, h5⟩
set_option maxRecDepth 100000 in
set_option maxHeartbeats 4000000 in
theorem alive_any (w : World) : Calls Try.prog 8 #[] w fun e w' => e = .returned (.bool true) ∧ Below w.heap.size w w' := by
  have hD := Hid.mk (cd_made w 5 (by omega))
  obtain ⟨s, hs⟩ : ∃ s, s = newS 5 := ⟨_, rfl⟩
  rw [← hs] at hD
  have hi : s.img.length ≤ 20480000 := by rw [hs, newS_len]; omega
  have g1 : gotK s [] 1 = some (kbN s 1 0) := by
    have := newS_has 5 1
    rw [← hs] at this
    simp [gotK, fndK, this, kbN]
  have g2 : gotK s [kbN s 1 0] 2 = some (kbN s 2 0) := by
    have := newS_has 5 2
    rw [← hs] at this
    simp [gotK, fndK, this, kbN]
  have l1 : getL 1 [] (kbN s 1 0) = [kbN s 1 1] := by simp [getL, shk, shkN, kbN, Kb.by]
  have r1 : relL 1 [kbN s 1 1] 1 = [kbN s 1 0] := by simp [relL, fndK, kbN, Kb.by, updK, shk, shkN]
  have b1 : relB [kbN s 1 1] 1 = true := by simp [relB, fndK, kbN]
  have l2 : getL 1 [kbN s 1 0] (kbN s 2 0) = [kbN s 2 1] := by simp [getL, shk, shkN, kbN, Kb.by, Kb.idle]
  have d1 : rdK [] 0 1 = 1 := by simp [rdK, fndK]
  have d2 : rdK [kbN s 1 0] 1 2 = 2 := by simp [rdK, fndK, kbN]
  have f0 : Fine 0 [] s := fine_small hi (by omega) (by omega) (by simp) (by simp)
  have f1 : Fine 1 [kbN s 1 1] s := fine_small hi (by omega) (by omega) (by simp) (by simp [kbN])
  have f2 : Fine 1 [kbN s 1 0] s := fine_small hi (by omega) (by omega) (by simp) (by simp [kbN])
  have f3 : Fine 2 [kbN s 2 1] s := fine_small hi (by omega) (by omega) (by simp) (by simp [kbN])
  have z1 : szN 1 = 1 := by decide
  have hG1 : Hid (∀ W c dd, Cd w W c dd 1 0 [] s → Calls Try.prog 12 #[ptV c, .int .i64 1] W fun e w' => ∃ g cap, e = .returned (.tuple #[.slice (some ⟨g, 0, none⟩) 1024 cap, .bool true]) ∧ Cd w w' c dd 1 1 [kbN s 1 1] s) := Hid.mk (fun W c dd h => by
    have := h.get_yes 1 (by decide) f0 _ g1
    rwa [d1, l1] at this)
  have hR1 : Hid (∀ W c dd, Cd w W c dd 1 1 [kbN s 1 1] s → Calls Try.prog 15 #[ptV c, .int .i64 1] W fun e w' => e = .returned (.bool true) ∧ Cd w w' c dd 1 1 [kbN s 1 0] s) := Hid.mk (fun W c dd h => by
    have := h.release 1 (by decide) f1
    rwa [b1, r1] at this)
  have hG2 : Hid (∀ W c dd, Cd w W c dd 1 1 [kbN s 1 0] s → Calls Try.prog 12 #[ptV c, .int .i64 2] W fun e w' => ∃ g cap, e = .returned (.tuple #[.slice (some ⟨g, 0, none⟩) 1024 cap, .bool true]) ∧ Cd w w' c dd 1 2 [kbN s 2 1] s) := Hid.mk (fun W c dd h => by
    have := h.get_yes 2 (by decide) f2 _ g2
    rwa [d2, l2] at this)
  have hH : Hid (∀ W c dd, Cd w W c dd 1 2 [kbN s 2 1] s → Calls Try.prog 23 #[ptV c] W fun e w' => e = .returned (.slice (some ⟨W.heap.size, 0, none⟩) 1 1) ∧ LAt w' (some ⟨W.heap.size, 0, none⟩) 1 [2] ∧ Cd w w' c dd 1 2 [kbN s 2 1] s) := Hid.mk (fun W c dd h => (h.held f3).mono (fun e w' he => ⟨he.1, he.2.1, he.2.2.1⟩))
  have hSM : Hid (∀ W q, LAt W (some ⟨q, 0, none⟩) 1 [2] → Calls Try.prog 22 #[.slice (some ⟨q, 0, none⟩) 1 1, .slice (some ⟨W.heap.size, 0, none⟩) 1 1] (W.alloc (.cells #[.int .i64 2] 3)) fun e w' => e = .returned (.bool true) ∧ Below W.heap.size W w') := Hid.mk (fun W q h => by
    have hb : Below W.heap.size W (W.alloc (.cells #[.int .i64 2] 3)) := (Below.refl _ W).alloc (Nat.le_refl _) _
    refine (sameints_any (W.alloc (.cells #[.int .i64 2] 3)) _ _ 1 1 1 1 [2] [2] (h.next hb) ⟨rfl, fun _ => ⟨_, rfl, by simp, fun i hi => ?_⟩⟩ (by omega) (by omega)).mono ?_
    · obtain rfl : i = 0 := by omega
      rw [add_at, blk_cell (blk_new W _)]
      rfl
    · rintro e w' ⟨rfl, hB⟩
      exact ⟨by simp, hb.trans (hB.mono (by simp))⟩)
  have hRD : Hid (∀ W c dd, Cd w W c dd 1 2 [kbN s 2 1] s → Calls Try.prog 24 #[ptV c] W fun e w' => e = .returned (.int .i64 2) ∧ w' = W) := Hid.mk (fun W c dd h => cd_reads h.at')
  clear g1 g2 l1 r1 b1 l2 d1 d2 f0 f1 f2 f3 hs hi
  go_enter Try.func8, Try.ntmps8
  go_wp2_with (first
    | (go_at_call 9; refine hD.out.mono ?_; rintro e w1 ⟨dd, rfl, _, hd1, hb1⟩; have HN := Hid.mk (Cd.new hd1 hb1 1); rw [z1] at HN; clear hd1 hb1 hD)
    | (go_at_call 10; refine HN.out.mono ?_; rintro e w2 ⟨c, rfl, h2⟩; have H2 := Hid.mk h2; clear h2 HN)
    | (go_at_call 12; have hgd := H2; refine (hG1.out _ _ _ H2.out).mono ?_; rintro e w3 ⟨g3, cap3, rfl, h3⟩; have H3 := Hid.mk h3; clear h3 H2 hgd)
    | (go_at_call 15; refine (hR1.out _ _ _ H3.out).mono ?_; rintro e w4 ⟨rfl, h4⟩; have H4 := Hid.mk h4; clear h4 H3)
    | (go_at_call 12; have hgd := H4; refine (hG2.out _ _ _ H4.out).mono ?_; rintro e w5 ⟨g5, cap5, rfl, h5⟩; have H5 := Hid.mk h5; clear h5 H4 hgd)
    | (go_at_call 23; refine (hH.out _ _ _ H5.out).mono ?_; rintro e w6 ⟨rfl, hl6, h6⟩; have H6 := Hid.mk h6; have HSM := Hid.mk (hSM.out w6 _ hl6); clear h6 H5 hl6)
    | (go_at_call 22; refine HSM.out.mono ?_; rintro e w7 ⟨rfl, hb7⟩; have H7 := Hid.mk (H6.out.below hb7); clear hb7 H6 HSM)
    | (go_at_call 24; refine (hRD.out _ _ _ H7.out).mono ?_; rintro e w8 ⟨rfl, rfl⟩))
  go_ret
  exact ⟨rfl, H7.out.bel⟩
end Go.Proofs.Ytmbhjheoomlggaa
