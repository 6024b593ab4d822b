/-
  The write of the statement DiskPlays' model: it makes of the model what Write makes of the disk.
-/
import Derived.Test.YtochgjajlojfeaaModel
namespace Go.Proofs.Ytochgjajlojfeaa
open Go Go.Proofs Go.RowKit Go.Shelf

set_option maxRecDepth 100000 in
set_option maxHeartbeats 2000000 in
theorem mwrite_no (F : Nat → Prop) (w : World) (m : Nat) (s : DS) (h : ModelAt F w m s) (hn : s.img.length ≤ 20480000) (block : Int) (ao : Option Addr) (n c : Nat) (hm : n ≤ 140737488355328)
    (hno : hasB s block = false ∨ n ≠ 1024 ∨ s.dead = true) :
    Calls Try.prog 11 #[.pointer (some ⟨m, 0, none⟩), .int .i64 block, .slice ao n c] w fun e w' => e = .returned (.bool false) ∧ w' = w := by
  obtain ⟨h0, bi, lv, h1, h2⟩ := h
  have hc0 := blk_cell h1 0
  have hc3 := blk_cell h1 3
  simp at hc0 hc3
  clear h1 h2
  have hno : ¬ (0 ≤ block ∧ block < ((s.img.length / 1024 : Nat) : Int)) ∨ n ≠ 1024 ∨ s.dead = true := by
    rcases hno with e | e
    · exact .inl (of_decide_eq_false e)
    · exact .inr e
  generalize s.img.length = L at *
  by_cases hneg : block < 0
  · clear hno
    go_enter Try.func11, Try.ntmps11
    go_wp2
    go_ret
    exact ⟨rfl, rfl⟩
  by_cases hfar : block < (L / 1024 : Nat)
  · have hfar2 : decide ((L : Int) / 1024 ≤ block) = false := by simp; omega
    by_cases hn2 : n = 1024
    · have hd : s.dead = true := by
        rcases hno with e | e | e
        · omega
        · exact absurd hn2 e
        · exact e
      subst hn2
      rw [hd] at hc3
      clear hno hd
      go_enter Try.func11, Try.ntmps11
      go_wp2
      go_ret
      exact ⟨rfl, rfl⟩
    · have hmb : ((n : Int) != 1024) = true := by simp; omega
      clear hno hn2
      go_enter Try.func11, Try.ntmps11
      go_wp2
      go_ret
      exact ⟨rfl, rfl⟩
  · have hfar2 : decide ((L : Int) / 1024 ≤ block) = true := by simp; omega
    clear hno
    go_enter Try.func11, Try.ntmps11
    go_wp2
    go_ret
    exact ⟨rfl, rfl⟩

theorem owns_lt_base {w : World} {base g n cap : Nat} {xs : List Value} (h : w.ownsRow base 5 1 (.slice (some ⟨g, 0, none⟩) n cap) n xs) : base ≤ g := (h.lt g rfl).1

/-- Between two rounds of the model's write. -/
def MI (F : Nat → Prop) (w : World) (m block : Nat) (xs : List Int) (s : DS) (k : Nat) (W : World) : Prop :=
  ∃ s1, runS block xs s (([0, 1] : List (Fin 2)).take k) = some s1 ∧ Fits s block s1 k ∧ ModelAt (fun j => (F j ∧ j < w.heap.size) ∨ w.heap.size ≤ j) W m s1 ∧ Only F w W

set_option maxRecDepth 100000 in
set_option maxHeartbeats 4000000 in
theorem mwrite_yes (F : Nat → Prop) (w : World) (m : Nat) (s : DS) (h : ModelAt F w m s) (hn : s.img.length ≤ 20480000) (hl0 : 0 ≤ s.left) (hl1 : s.left ≤ 9223372036854775807) (hlog : s.log.length ≤ 900000)
    (block : Nat) (a : Addr) (c : Nat) (xs : List Int) (hyes : hasB s block = true) (hd : s.dead = false) (hx : xs.length = 1024) (hcap : 1024 ≤ c)
    (haF : ¬ F a.block) (ha : a.block < w.heap.size) (hc : ∀ i, i < 1024 → w.cell? (a.add i) = some (.int .u8 (xs.getD i 0))) :
    Calls Try.prog 11 #[.pointer (some ⟨m, 0, none⟩), .int .i64 block, .slice (some a) 1024 c] w fun e w' => e = .returned (.bool (writeS s block xs).1) ∧
      ModelAt (fun k => F k ∨ w.heap.size ≤ k) w' m (writeS s block xs).2 ∧ Only F w w' := by
  have hblk : 1024 * block + 1024 ≤ s.img.length := by
    obtain ⟨q, e, h'⟩ := hasB_nat hyes
    omega
  obtain ⟨i5, hi5, hz50, hz51, hz52⟩ := info5p
  obtain ⟨i0, hi, hz0, hz1, hz2⟩ := info41p
  have HH := Hid.mk h
  obtain ⟨h0, bi, lv, h1, h2⟩ := h
  have hc0 := blk_cell h1 0
  have hc3 := blk_cell h1 3
  simp [hd] at hc0 hc3
  clear h1 h2 hyes
  have hfar2 : decide ((s.img.length : Int) / 1024 ≤ (block : Int)) = false := by simp; omega
  have hneg : decide ((block : Int) < 0) = false := by simp
  have HC := Hid.mk hc
  clear hc
  go_enter Try.func11, Try.ntmps11
  go_wp2_with fail
  clear hc0 hc3
  go_loopw [7] (fun i wr => ∃ k : Nat, k ≤ 2 ∧ i = .int .i64 k ∧ MI F w m block xs s k wr) (fun i _ => 2 - (intOf i).toNat)
  case atStart => exact ⟨0, by omega, rfl, s, rfl, ⟨rfl, rfl, hl0, hl1⟩, HH.out.mono (fun k hk e => .inl ⟨e, hk.lt⟩), Only.refl _ _⟩
  case round =>
    obtain ⟨k, hk, rfl, s1, hrun, hfit, hmod, honly⟩ := hrel
    have HRUN := Hid.mk hrun
    have HFIT := Hid.mk hfit
    have HMOD := Hid.mk hmod
    have HON := Hid.mk honly
    clear hrun hfit hmod honly
    by_cases hlt : k < 2
    · obtain ⟨h10, bi1, lv1, h11, h12⟩ := HMOD.out
      have e0 := blk_cell h11 0
      have e1 := blk_cell h11 1
      have e2 := blk_cell h11 2
      have e3 := blk_cell h11 3
      have f1 := blk_free h11 1
      have f2 := blk_free h11 2
      have f3 := blk_free h11 3
      simp at e0 e1 e2 e3
      have H11 := Hid.mk h11
      have H12 := Hid.mk h12
      clear h11 h12
      cases hp : (pow s1).1 with
      | false =>
        have hz : mcut s1 = 0 ∧ (pow s1).2 = { s1 with dead := true } := by
          unfold pow at hp ⊢
          unfold mcut
          cases hcut : s1.cut with
          | false => simp [hcut] at hp
          | true =>
            by_cases hz : s1.left = 0
            · simp [hz]
            · simp [hcut, hz] at hp
        rw [hz.1] at e2
        have HP := Hid.mk hp
        have HZ := Hid.mk hz
        clear hp hz
        go_wp2
        go_ret
        have hws := writeS_stop (pre2 k hlt) rfl HRUN.out HP.out
        refine ⟨by rw [hws]; rfl, ?_, HON.out.setCell (p := ⟨m, 3, none⟩) (.inl h0) _⟩
        rw [hws, HZ.out.2]
        refine (ModelAt.flags (s' := { s1 with dead := true }) HMOD.out rfl rfl (fun bi lv hb => ?_) ((Only.refl (fun j => j = m) wr).setCell (p := ⟨m, 3, none⟩) (.inl rfl) _)).mono (fun j _ e => ?_)
        · exact blk_set hb
        · rcases e with e | e
          · exact .inl e.1
          · exact .inr e
      | true =>
        cases hcut : s1.cut with
        | false =>
          have hs2 : (pow s1).2 = s1 := by simp [pow, hcut]
          have hmc : mcut s1 = -1 := by simp [mcut, hcut]
          rw [hmc] at e2
          clear hmc
          have HS2 := Hid.mk hs2
          have HPP := Hid.mk hp
          have HCUT := Hid.mk hcut
          have H10 := Hid.mk h10
          have HI2 : Hid ((pow s1).2.img.length = s.img.length) := by
            show _ = _
            rw [(pow_img s1).1, HFIT.out.img]
          have HLG : Hid ((pow s1).2.log.length = s.log.length + k) := by
            show _ = _
            rw [(pow_img s1).2, HFIT.out.log]
          generalize hS2 : (pow s1).2 = s2 at *
          have HS2R := Hid.mk hs2
          have HS2X := Hid.mk hS2
          clear hs2 hp hcut hS2 HS2
          have hm1 : m < wr.heap.size := by have := lt_of_block H11.out; exact this
          have HMO2 : Hid (ModelAt (fun j => (F j ∧ j < w.heap.size) ∨ w.heap.size ≤ j) wr m s2) := by rw [HS2R.out]; exact HMOD.out
          have HON2 : Hid (Only F w wr) := HON.out
          have H21 : Hid (wr.heap[m]? = some (.cells #[.slice (some ⟨bi1, 0, none⟩) s2.img.length s2.img.length, lv1, .int .i64 (mcut s2), .bool s2.dead] 30 (0, 0))) := by rw [HS2R.out]; exact H11.out
          have H22 : Hid (DiskRest (fun j => ((F j ∧ j < w.heap.size) ∨ w.heap.size ≤ j) ∧ j ≠ m) wr bi1 lv1 s2) := by rw [HS2R.out]; exact H12.out
          have hba : BAt wr (some (a.add (512 * k))) (512 * k + 512 - 512 * k) ((xs.drop (512 * k)).take 512) := by
            refine ⟨by simp [hx]; omega, fun _ => ⟨_, rfl, by rw [add_block]; exact Nat.lt_of_lt_of_le ha HON2.out.size, fun i hi => ?_⟩⟩
            rw [add_add, getD_window _ _ _ _ (by omega), ← HC.out _ (by omega)]
            exact World.cell?_of_block (w := w) (by rw [add_block]; exact HON2.out.block _ ha haF)
          obtain ⟨v', w3, hrun3, hown3, hg3⟩ := append_nil_run wr (some (a.add (512 * k))) (512 * k + 512 - 512 * k) (c - 512 * k) _ hba (by omega) (fun e => by cases e)
          have hk5 : 512 * k + 512 - 512 * k = 512 := by omega
          have hown3' : w3.ownsRow wr.heap.size 5 1 v' 512 (By ((xs.drop (512 * k)).take 512)) := by rw [hk5] at hown3; exact hown3
          have hnn3 : v' ≠ .slice none 0 0 := by
            intro e
            subst e
            rcases hown3'.2 with ⟨_, e⟩ | ⟨_, _, _, e, _⟩
            · omega
            · simp at e
          obtain ⟨g3, cap3, rfl, hgg3, hlt3, hcap3, hlen3, hcell3⟩ := owns_bytes hown3' hnn3
          have h31 : w3.heap[m]? = some (.cells #[.slice (some ⟨bi1, 0, none⟩) s2.img.length s2.img.length, lv1, .int .i64 (mcut s2), .bool s2.dead] 30 (0, 0)) := (hg3.block m hm1 (by simp)).trans H21.out
          have h32 : w3.heap[bi1]? = some (.cells (By s2.img).toArray 5 (0, 0)) := (hg3.block bi1 (lt_of_block H22.out.2.1) (by simp)).trans H22.out.2.1
          have e30 := blk_cell h31 0
          simp at e30
          obtain ⟨dd, hdd⟩ : ∃ dd, dd = (xs.drop (512 * k)).take 512 := ⟨_, rfl⟩
          rw [← hdd] at hlen3 hcell3 hown3'
          have HDD := Hid.mk hdd
          have HR3 := Hid.mk hrun3
          have HO3 := Hid.mk hown3'
          have HG3 := Hid.mk hg3
          have H31 := Hid.mk h31
          have H32 := Hid.mk h32
          have HC3 := Hid.mk hcell3
          have HL3 := Hid.mk hlen3
          obtain ⟨cs, hcs⟩ : ∃ cs, cs = By dd := ⟨_, rfl⟩
          have HCS := Hid.mk hcs
          obtain ⟨L, hL⟩ : ∃ L, s2.img.length = L := ⟨_, rfl⟩
          have hLs : 1024 * block + 512 * k < L := by rw [← hL, HI2.out]; omega
          have hLs2 : 1024 * block + 512 * k + 512 ≤ L := by rw [← hL, HI2.out]; omega
          have hLs3 : L ≤ 20480000 := by rw [← hL, HI2.out]; omega
          rw [hL] at e30
          have HLL := Hid.mk hL
          have hlts : decide ((k : Int) < 2) = true := by simp; omega
          clear hk5 hba hrun3 hown3 hown3' hg3 h31 h32 hcs hL hdd hcell3 hlen3 hgg3 hlt3 hnn3 HC
          go_wp2_with (first | (at_builtin; refine wpList_append_known rfl (.const (.slice none 0 0)) (.tmp 62) 27 rfl _ _ _ _ rfl rfl HR3.out ?_) | (refine wpList_copy_grown rfl (.tmp 73) (.tmp 74) 27 27 rfl 5 Try.underlying27 size5 _ _ _ _ _ _ rfl rfl bi1 (1024 * block + 512 * k) (By s2.img) 5 H32.out cs ?ma ?mb ?mc ?md ?_))
          case ma => rw [HCS.out, By_length, HL3.out]; show _ = min 512 (L - (1024 * block + 512 * k)); omega
          case mb =>
            intro hp0
            first
              | (refine ⟨rfl, ⟨g3, 0, none⟩, rfl, ?_⟩)
              | (refine ⟨⟨g3, 0, none⟩, rfl, ?_⟩)
              | skip
            intro j v hj
            have hj2 := (List.getElem?_eq_some_iff.1 hj).1
            rw [HCS.out, By_length] at hj2
            rw [HCS.out, By_get _ _ hj2] at hj
            have hh := HC3.out j (by rw [← HL3.out]; exact hj2)
            rw [add_at, Nat.zero_add] at hh
            rw [hh]
            exact hj
          case mc => rw [HCS.out, By_length, By_length, HLL.out, HL3.out]; omega
          case md => rw [HCS.out]; exact By_one _
          intro w4 hblk4 hg4
          have hmb : m ≠ bi1 := fun e => H22.out.1.2 e.symm
          have h41 : w4.heap[m]? = some (.cells #[.slice (some ⟨bi1, 0, none⟩) s2.img.length s2.img.length, lv1, .int .i64 (mcut s2), .bool s2.dead] 30 (0, 0)) :=
            (hg4.out.block m (lt_of_block H31.out) (fun e => hmb (by simpa using e))).trans H31.out
          obtain ⟨cells, hcw, hcF, hcl⟩ := H22.out.2.2
          have hcw4 : w4.ownsRow 0 41 2 lv1 s2.log.length cells := owns_at hcw (fun j e => by
            have hj := (hcw.lt j e).2
            rw [hg4.out.block j (Nat.lt_of_lt_of_le hj HG3.out.size) (fun e2 => (hcF j e).2 (by simpa using e2)), HG3.out.block j hj (by simp)])
          have e41 := blk_cell h41 1
          simp at e41
          have H41 := Hid.mk h41
          have HCW := Hid.mk hcw
          have HCW4 := Hid.mk hcw4
          have HCF := Hid.mk hcF
          have HCL := Hid.mk hcl
          clear h41 hcw hcw4 hcF hcl e30
          have hlg2 : s2.log.length ≤ 900002 := by rw [HLG.out]; omega
          have FIN : Hid (∀ gl capl w6, w6.ownsRow 0 41 2 (.slice (some ⟨gl, 0, none⟩) (s2.log.length + 1) capl) (s2.log.length + 1) (cells ++ [.int .i64 (2 * (block : Int) + (k : Int)), .slice (some ⟨g3, 0, none⟩) 512 cap3]) →
              (w4.alloc (.cells #[.int .i64 (2 * (block : Int) + (k : Int)), .slice (some ⟨g3, 0, none⟩) 512 cap3] 41)).grownBy w6 lv1.ownBlock → (lv1.ownBlock = some gl ∨ (w4.alloc (.cells #[.int .i64 (2 * (block : Int) + (k : Int)), .slice (some ⟨g3, 0, none⟩) 512 cap3] 41)).heap.size ≤ gl) →
              w6.cell? ⟨m, 1, none⟩ = some lv1 ∧ w6.frozen? ⟨m, 1, none⟩ = false ∧ Hid (MI F w m block xs s (k + 1) (w6.setCell ⟨m, 1, none⟩ (.slice (some ⟨gl, 0, none⟩) (s2.log.length + 1) capl)))) := by
            intro gl capl w6 ho6 hg6 hl6
            have hm4 := lt_of_block H41.out
            have h61 := (hg6.block m (by simp; omega) (fun e => (HCF.out m e.symm).1.2 rfl)).trans ((Below.heap_alloc _ _ _ hm4).trans H41.out)
            refine ⟨by rw [blk_cell h61]; rfl, blk_free h61 1, ?_⟩
            have hqk : (2 * (block : Int) + (k : Int)) = ((2 * block + k : Nat) : Int) := by omega
            rw [hqk] at ho6
            have hb4 := hblk4.out
            rw [HCS.out, show 1024 * block + 512 * k = 512 * (2 * block + k) by omega] at hb4
            have H61 := h61
            rw [HLL.out] at H61
            have fin := mput_fin (q := 2 * block + k) H10.out H22.out HLL.out HL3.out (by omega) hm1 HG3.out (owns_lt_base HO3.out) HO3.out hb4 hg4.out ho6 hg6 hl6 H61 HCW.out HCF.out HCL.out
            have hst : stepS block xs s1 ⟨k, hlt⟩ = some (putS s2 (2 * block + k) dd) := by
              rw [HDD.out]
              simp [stepS, HPP.out, HS2X.out]
            refine ⟨_, ?_, step_fits hx hblk HFIT.out hst, fin.1.mono (fun j _ e => ?_), ?_⟩
            · rw [← take2 k hlt, runS_snoc, HRUN.out]
              exact hst
            · rcases e with e | e
              · exact e
              · have := HON2.out.size
                exact .inr (by omega)
            · exact HON2.out.trans fin.2 (fun j e => by
                rcases e with e | e
                · exact .inl e.1
                · exact .inr e)
          go_wp2_with (at_builtin; refine wpList_append_sep rfl (.tmp 80) (.tmp 87) 28 rfl 41 i0 _ 2 32 Try.underlying28 hi hz0 hz1 hz2 rfl (by decide) lv1 s2.log.length cells rfl (HCW4.out.alloc _) ⟨w4.heap.size, 0, none⟩ 1 1 [.int .i64 (2 * (block : Int) + (k : Int)), .slice (some ⟨g3, 0, none⟩) 512 cap3] rfl rfl (pair_cells _ _ _ _) (pair_one _ _ _ _) (by unfold maxLen; omega) (by omega) (by decide) ?_; intro gl capl w6 ho6 hg6 hl6; have hf6 := FIN.out gl capl w6 ho6 hg6 hl6; obtain ⟨c61, f61, HMI⟩ := hf6; clear ho6 hg6 hl6)
          go_roundw
          case rel => exact ⟨k + 1, by omega, by go_num, HMI.out⟩
          case measure => (clear HMI FIN HFIT HRUN; simp [intOf]; omega)
        | true =>
          have hz : s1.left ≠ 0 := by
            intro e
            simp [pow, hcut, e] at hp
          have hs2 : (pow s1).2 = { s1 with left := s1.left - 1 } := by simp [pow, hcut, hz]
          have hmc : mcut s1 = s1.left := by simp [mcut, hcut]
          rw [hmc] at e2
          have hl10 := HFIT.out.left0
          have hl11 := HFIT.out.left1
          have hmz : (s1.left == 0) = false := by simp [hz]
          have hmg : decide ((0 : Int) < s1.left) = true := by simp; omega
          clear hmc
          have HS2 := Hid.mk hs2
          have HPP := Hid.mk hp
          have HCUT := Hid.mk hcut
          have H10 := Hid.mk h10
          have HI2 : Hid ((pow s1).2.img.length = s.img.length) := by
            show _ = _
            rw [(pow_img s1).1, HFIT.out.img]
          have HLG : Hid ((pow s1).2.log.length = s.log.length + k) := by
            show _ = _
            rw [(pow_img s1).2, HFIT.out.log]
          generalize hS2 : (pow s1).2 = s2 at *
          have HS2R := Hid.mk hs2
          have HS2X := Hid.mk hS2
          clear hs2 hp hcut hS2 HS2
          have hm1 : m < (wr.setCell ⟨m, 2, none⟩ (.int .i64 (s1.left - 1))).heap.size := by have := lt_of_block H11.out; simpa [World.setCell] using this
          have HMO2 : Hid (ModelAt (fun j => (F j ∧ j < w.heap.size) ∨ w.heap.size ≤ j) (wr.setCell ⟨m, 2, none⟩ (.int .i64 (s1.left - 1))) m s2) := by
            rw [HS2R.out]
            exact ModelAt.flags (s' := { s1 with left := s1.left - 1 }) HMOD.out rfl rfl (fun bi lv hb => by have := blk_set (i := 2) (u := .int .i64 (s1.left - 1)) hb; rw [this]; simp [mcut, HCUT.out]) ((Only.refl (fun j => j = m) wr).setCell (p := ⟨m, 2, none⟩) (.inl rfl) _)
          have HON2 : Hid (Only F w (wr.setCell ⟨m, 2, none⟩ (.int .i64 (s1.left - 1)))) := HON.out.setCell (p := ⟨m, 2, none⟩) (.inl h0) _
          have H21 : Hid ((wr.setCell ⟨m, 2, none⟩ (.int .i64 (s1.left - 1))).heap[m]? = some (.cells #[.slice (some ⟨bi1, 0, none⟩) s2.img.length s2.img.length, lv1, .int .i64 (mcut s2), .bool s2.dead] 30 (0, 0))) := by
            have := blk_set (i := 2) (u := .int .i64 (s1.left - 1)) H11.out
            show _ = _
            rw [this, HS2R.out]
            simp [mcut, HCUT.out]
          have H22 : Hid (DiskRest (fun j => ((F j ∧ j < w.heap.size) ∨ w.heap.size ≤ j) ∧ j ≠ m) (wr.setCell ⟨m, 2, none⟩ (.int .i64 (s1.left - 1))) bi1 lv1 s2) := by
            rw [HS2R.out]
            have hs : DiskRest (fun j => ((F j ∧ j < w.heap.size) ∨ w.heap.size ≤ j) ∧ j ≠ m) (wr.setCell ⟨m, 2, none⟩ (.int .i64 (s1.left - 1))) bi1 lv1 s1 := H12.out.at (fun j e => Below.heap_setCell _ _ _ _ e.2)
            exact hs
          have hba : BAt (wr.setCell ⟨m, 2, none⟩ (.int .i64 (s1.left - 1))) (some (a.add (512 * k))) (512 * k + 512 - 512 * k) ((xs.drop (512 * k)).take 512) := by
            refine ⟨by simp [hx]; omega, fun _ => ⟨_, rfl, by rw [add_block]; exact Nat.lt_of_lt_of_le ha HON2.out.size, fun i hi => ?_⟩⟩
            rw [add_add, getD_window _ _ _ _ (by omega), ← HC.out _ (by omega)]
            exact World.cell?_of_block (w := w) (by rw [add_block]; exact HON2.out.block _ ha haF)
          obtain ⟨v', w3, hrun3, hown3, hg3⟩ := append_nil_run (wr.setCell ⟨m, 2, none⟩ (.int .i64 (s1.left - 1))) (some (a.add (512 * k))) (512 * k + 512 - 512 * k) (c - 512 * k) _ hba (by omega) (fun e => by cases e)
          have hk5 : 512 * k + 512 - 512 * k = 512 := by omega
          have hown3' : w3.ownsRow (wr.setCell ⟨m, 2, none⟩ (.int .i64 (s1.left - 1))).heap.size 5 1 v' 512 (By ((xs.drop (512 * k)).take 512)) := by rw [hk5] at hown3; exact hown3
          have hnn3 : v' ≠ .slice none 0 0 := by
            intro e
            subst e
            rcases hown3'.2 with ⟨_, e⟩ | ⟨_, _, _, e, _⟩
            · omega
            · simp at e
          obtain ⟨g3, cap3, rfl, hgg3, hlt3, hcap3, hlen3, hcell3⟩ := owns_bytes hown3' hnn3
          have h31 : w3.heap[m]? = some (.cells #[.slice (some ⟨bi1, 0, none⟩) s2.img.length s2.img.length, lv1, .int .i64 (mcut s2), .bool s2.dead] 30 (0, 0)) := (hg3.block m hm1 (by simp)).trans H21.out
          have h32 : w3.heap[bi1]? = some (.cells (By s2.img).toArray 5 (0, 0)) := (hg3.block bi1 (lt_of_block H22.out.2.1) (by simp)).trans H22.out.2.1
          have e30 := blk_cell h31 0
          simp at e30
          obtain ⟨dd, hdd⟩ : ∃ dd, dd = (xs.drop (512 * k)).take 512 := ⟨_, rfl⟩
          rw [← hdd] at hlen3 hcell3 hown3'
          have HDD := Hid.mk hdd
          have HR3 := Hid.mk hrun3
          have HO3 := Hid.mk hown3'
          have HG3 := Hid.mk hg3
          have H31 := Hid.mk h31
          have H32 := Hid.mk h32
          have HC3 := Hid.mk hcell3
          have HL3 := Hid.mk hlen3
          obtain ⟨cs, hcs⟩ : ∃ cs, cs = By dd := ⟨_, rfl⟩
          have HCS := Hid.mk hcs
          obtain ⟨L, hL⟩ : ∃ L, s2.img.length = L := ⟨_, rfl⟩
          have hLs : 1024 * block + 512 * k < L := by rw [← hL, HI2.out]; omega
          have hLs2 : 1024 * block + 512 * k + 512 ≤ L := by rw [← hL, HI2.out]; omega
          have hLs3 : L ≤ 20480000 := by rw [← hL, HI2.out]; omega
          rw [hL] at e30
          have HLL := Hid.mk hL
          have hlts : decide ((k : Int) < 2) = true := by simp; omega
          clear hk5 hba hrun3 hown3 hown3' hg3 h31 h32 hcs hL hdd hcell3 hlen3 hgg3 hlt3 hnn3 HC
          go_wp2_with (first | (at_builtin; refine wpList_append_known rfl (.const (.slice none 0 0)) (.tmp 62) 27 rfl _ _ _ _ rfl rfl HR3.out ?_) | (refine wpList_copy_grown rfl (.tmp 73) (.tmp 74) 27 27 rfl 5 Try.underlying27 size5 _ _ _ _ _ _ rfl rfl bi1 (1024 * block + 512 * k) (By s2.img) 5 H32.out cs ?ma ?mb ?mc ?md ?_))
          case ma => rw [HCS.out, By_length, HL3.out]; show _ = min 512 (L - (1024 * block + 512 * k)); omega
          case mb =>
            intro hp0
            first
              | (refine ⟨rfl, ⟨g3, 0, none⟩, rfl, ?_⟩)
              | (refine ⟨⟨g3, 0, none⟩, rfl, ?_⟩)
              | skip
            intro j v hj
            have hj2 := (List.getElem?_eq_some_iff.1 hj).1
            rw [HCS.out, By_length] at hj2
            rw [HCS.out, By_get _ _ hj2] at hj
            have hh := HC3.out j (by rw [← HL3.out]; exact hj2)
            rw [add_at, Nat.zero_add] at hh
            rw [hh]
            exact hj
          case mc => rw [HCS.out, By_length, By_length, HLL.out, HL3.out]; omega
          case md => rw [HCS.out]; exact By_one _
          intro w4 hblk4 hg4
          have hmb : m ≠ bi1 := fun e => H22.out.1.2 e.symm
          have h41 : w4.heap[m]? = some (.cells #[.slice (some ⟨bi1, 0, none⟩) s2.img.length s2.img.length, lv1, .int .i64 (mcut s2), .bool s2.dead] 30 (0, 0)) :=
            (hg4.out.block m (lt_of_block H31.out) (fun e => hmb (by simpa using e))).trans H31.out
          obtain ⟨cells, hcw, hcF, hcl⟩ := H22.out.2.2
          have hcw4 : w4.ownsRow 0 41 2 lv1 s2.log.length cells := owns_at hcw (fun j e => by
            have hj := (hcw.lt j e).2
            rw [hg4.out.block j (Nat.lt_of_lt_of_le hj HG3.out.size) (fun e2 => (hcF j e).2 (by simpa using e2)), HG3.out.block j hj (by simp)])
          have e41 := blk_cell h41 1
          simp at e41
          have H41 := Hid.mk h41
          have HCW := Hid.mk hcw
          have HCW4 := Hid.mk hcw4
          have HCF := Hid.mk hcF
          have HCL := Hid.mk hcl
          clear h41 hcw hcw4 hcF hcl e30
          have hlg2 : s2.log.length ≤ 900002 := by rw [HLG.out]; omega
          have FIN : Hid (∀ gl capl w6, w6.ownsRow 0 41 2 (.slice (some ⟨gl, 0, none⟩) (s2.log.length + 1) capl) (s2.log.length + 1) (cells ++ [.int .i64 (2 * (block : Int) + (k : Int)), .slice (some ⟨g3, 0, none⟩) 512 cap3]) →
              (w4.alloc (.cells #[.int .i64 (2 * (block : Int) + (k : Int)), .slice (some ⟨g3, 0, none⟩) 512 cap3] 41)).grownBy w6 lv1.ownBlock → (lv1.ownBlock = some gl ∨ (w4.alloc (.cells #[.int .i64 (2 * (block : Int) + (k : Int)), .slice (some ⟨g3, 0, none⟩) 512 cap3] 41)).heap.size ≤ gl) →
              w6.cell? ⟨m, 1, none⟩ = some lv1 ∧ w6.frozen? ⟨m, 1, none⟩ = false ∧ Hid (MI F w m block xs s (k + 1) (w6.setCell ⟨m, 1, none⟩ (.slice (some ⟨gl, 0, none⟩) (s2.log.length + 1) capl)))) := by
            intro gl capl w6 ho6 hg6 hl6
            have hm4 := lt_of_block H41.out
            have h61 := (hg6.block m (by simp; omega) (fun e => (HCF.out m e.symm).1.2 rfl)).trans ((Below.heap_alloc _ _ _ hm4).trans H41.out)
            refine ⟨by rw [blk_cell h61]; rfl, blk_free h61 1, ?_⟩
            have hqk : (2 * (block : Int) + (k : Int)) = ((2 * block + k : Nat) : Int) := by omega
            rw [hqk] at ho6
            have hb4 := hblk4.out
            rw [HCS.out, show 1024 * block + 512 * k = 512 * (2 * block + k) by omega] at hb4
            have H61 := h61
            rw [HLL.out] at H61
            have fin := mput_fin (q := 2 * block + k) H10.out H22.out HLL.out HL3.out (by omega) hm1 HG3.out (owns_lt_base HO3.out) HO3.out hb4 hg4.out ho6 hg6 hl6 H61 HCW.out HCF.out HCL.out
            have hst : stepS block xs s1 ⟨k, hlt⟩ = some (putS s2 (2 * block + k) dd) := by
              rw [HDD.out]
              simp [stepS, HPP.out, HS2X.out]
            refine ⟨_, ?_, step_fits hx hblk HFIT.out hst, fin.1.mono (fun j _ e => ?_), ?_⟩
            · rw [← take2 k hlt, runS_snoc, HRUN.out]
              exact hst
            · rcases e with e | e
              · exact e
              · have := HON2.out.size
                exact .inr (by omega)
            · exact HON2.out.trans fin.2 (fun j e => by
                rcases e with e | e
                · exact .inl e.1
                · exact .inr e)
          go_wp2_with (at_builtin; refine wpList_append_sep rfl (.tmp 80) (.tmp 87) 28 rfl 41 i0 _ 2 32 Try.underlying28 hi hz0 hz1 hz2 rfl (by decide) lv1 s2.log.length cells rfl (HCW4.out.alloc _) ⟨w4.heap.size, 0, none⟩ 1 1 [.int .i64 (2 * (block : Int) + (k : Int)), .slice (some ⟨g3, 0, none⟩) 512 cap3] rfl rfl (pair_cells _ _ _ _) (pair_one _ _ _ _) (by unfold maxLen; omega) (by omega) (by decide) ?_; intro gl capl w6 ho6 hg6 hl6; have hf6 := FIN.out gl capl w6 ho6 hg6 hl6; obtain ⟨c61, f61, HMI⟩ := hf6; clear ho6 hg6 hl6)
          go_roundw
          case rel => exact ⟨k + 1, by omega, by go_num, HMI.out⟩
          case measure => (clear HMI FIN HFIT HRUN; simp [intOf]; omega)
    · obtain rfl : k = 2 := by omega
      go_wp2
      go_ret
      have hws := writeS_done HRUN.out
      refine ⟨by rw [hws]; rfl, ?_, HON.out⟩
      rw [hws]
      refine HMOD.out.mono (fun j _ e => ?_)
      rcases e with e | e
      · exact .inl e.1
      · exact .inr e

/-- The model's write, whatever it is handed. -/
theorem mwrite_any (F : Nat → Prop) (w : World) (m : Nat) (s : DS) (L : Nat) (h : ModelAt F w m s) (hn : s.img.length ≤ 20480000) (hs : Sane s L) (hL : L ≤ 900000) (block : Int) (ao : Option Addr) (n c : Nat) (xs : List Int)
    (hb : BAt w ao n xs) (hmc : n ≤ c) (hm : n ≤ 140737488355328) (haF : ∀ a, ao = some a → 0 < n → ¬ F a.block) :
    Calls Try.prog 11 #[.pointer (some ⟨m, 0, none⟩), .int .i64 block, .slice ao n c] w fun e w' => e = .returned (.bool (wrS s block xs).1) ∧
      ModelAt (fun k => F k ∨ w.heap.size ≤ k) w' m (wrS s block xs).2 ∧ Only F w w' := by
  unfold wrS
  split
  · rename_i hc
    simp at hc
    obtain ⟨⟨hbb, hx⟩, hd⟩ := hc
    obtain ⟨q, rfl, hq⟩ := hasB_nat hbb
    rw [Int.toNat_natCast]
    obtain rfl : n = 1024 := by rw [← hb.1, hx]
    obtain ⟨a, rfl, hlt, hcell⟩ := hb.2 (by omega)
    exact mwrite_yes F w m s h hn hs.left0 hs.left1 (Nat.le_trans hs.log hL) q a c xs hbb hd hx hmc (haF a rfl (by omega)) hlt hcell
  · rename_i hc
    refine (mwrite_no F w m s h hn block ao n c hm ?_).mono ?_
    · rw [← hb.1]
      cases h1 : hasB s block
      · exact .inl rfl
      · cases h2 : s.dead
        · right; left
          intro e
          apply hc
          simp [h1, h2, e]
        · exact .inr (.inr rfl)
    · rintro e w' ⟨rfl, rfl⟩
      exact ⟨rfl, h.mono (fun k _ e => .inl e), Only.refl _ _⟩

end Go.Proofs.Ytochgjajlojfeaa
