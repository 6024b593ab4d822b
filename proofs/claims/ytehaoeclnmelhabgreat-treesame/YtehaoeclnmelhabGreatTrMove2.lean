/-
  rename: a directory to a name that is not there yet.
-/
import Derived.Test.YtehaoeclnmelhabGreatTrDo
import Derived.Test.YtehaoeclnmelhabGreatTrLaw
import Derived.Test.YtehaoeclnmelhabGreatLayRn
namespace Go.Proofs.YtehaoeclnmelhabGreat
open Go Go.Proofs Go.RowKit Go.Shelf Go.Sort

set_option maxRecDepth 100000 in
set_option maxHeartbeats 4000000 in
theorem rename_move (w : World) (t : Nat) (σ : Tr) (Ls : List Lay) (hT : TrAt w t σ Ls) (hOk : ∀ x ∈ σ.nodes, x.Ok) (k : Int) (s s2 : ByteArray) (off m : Int) (dp : Option Addr) (dl dc : Nat) (hs : s.size ≤ 16777216) (hs2 : s2.size ≤ 16777216) (L M : List (List UInt8)) (p q : List UInt8) (h1 : splitL (ofS s) = some (L ++ [p])) (h2 : splitL (ofS s2) = some (M ++ [q])) (d j d2 : Nat) (he : spotE σ.nodes L p = (0, some ⟨d, p, some j⟩)) (he2 : spotE σ.nodes M q = (0, some ⟨d2, q, none⟩)) (hj : j < σ.nodes.length) (hw : onWay σ.nodes M j = false) (hjk : (nodeAt σ.nodes j).isDir = true) (hne : d ≠ d2) (hl : (nodeAt σ.nodes d2).links < 32000) (hfit : fitsB σ.G σ.I σ.D σ.inodes σ.blocks 0 (nodeAt σ.nodes d2).growth = true) :
    Calls Tryz.prog 30 #[ptrV t, callV k s s2 off m (.slice dp dl dc)] w fun e w' => e = .returned (errV 0) ∧ Step (fun k => k ∈ feet t Ls) w t w' (moveT σ d p j d2 q) := by
  have mixed : Tryz.prog.follows Departure.mixedOrders = true := by kernel_rfl
  have HTL : Hid (∀ k ∈ feet t Ls, k < w.heap.size) := Hid.mk (fun k hk => hT.lt k hk)
  have HMT : Hid (∀ W, Below w.heap.size w W → Calls Tryz.prog 52 #[ptrV t, .agg #[ptrV (locL Ls d), strV p, ptrV (locL Ls j)], .agg #[ptrV (locL Ls d2), strV q, .pointer none]] W fun e w' => e = .returned (.int .i64 0) ∧ Step (fun k => k ∈ feet t Ls) W t w' (moveT σ d p j d2 q)) := Hid.mk (fun W hB => by
    obtain ⟨hdl, hdk, hdn⟩ : d < σ.nodes.length ∧ (nodeAt σ.nodes d).isDir = true ∧ lookS (nodeAt σ.nodes d).slots p = some j := by
      rcases spotE_or σ.nodes L p with ⟨d', o, h, h1, h2, h3⟩ | ⟨e, h, _⟩
      · rw [he] at h; cases h; exact ⟨wayE_lt hT L h1, h2, h3.symm⟩
      · rw [he] at h; cases h
    obtain ⟨hel, hek, hen⟩ : d2 < σ.nodes.length ∧ (nodeAt σ.nodes d2).isDir = true ∧ lookS (nodeAt σ.nodes d2).slots q = none := by
      rcases spotE_or σ.nodes M q with ⟨d', o, h, h1, h2, h3⟩ | ⟨e, h, _⟩
      · rw [he2] at h; cases h; exact ⟨wayE_lt hT M h1, h2, h3.symm⟩
      · rw [he2] at h; cases h
    exact (move_tree W t σ Ls (hT.below rfl hB) hOk d p j d2 q hdl hdk hdn ((split_bounds h1).1 p (by simp)) hj hjk hel hek hen ((split_bounds h2).1 q (by simp)) hne hl hfit).mono (fun e w' hh => ⟨hh.1, hh.2.step⟩))
  have HBO : Hid (∀ W, _) := Hid.mk (fun W => both_yes W k s s2 off m dp dl dc hs hs2 h1 h2)
  obtain ⟨b1, b2⟩ := split_bounds h1
  obtain ⟨b3, b4⟩ := split_bounds h2
  have hln : (L ++ [p]).length = L.length + 1 := by simp
  have hln2 : (M ++ [q]).length = M.length + 1 := by simp
  rw [hln, hln2] at HBO
  have HS1 : Hid (∀ W ao c, Below w.heap.size w W → SAt W ao (L.length + 1) (L ++ [p]) → L.length + 1 ≤ c → c ≤ 9223372036854775807 → _) := Hid.mk (fun W ao c (hB : Below w.heap.size w W) hS hc1 hc2 => spot_any W t σ Ls (hT.below rfl hB) ao c L p hS b1 (by omega) hc1 hc2)
  have HS2 : Hid (∀ W ao c, Below w.heap.size w W → SAt W ao (M.length + 1) (M ++ [q]) → M.length + 1 ≤ c → c ≤ 9223372036854775807 → _) := Hid.mk (fun W ao c (hB : Below w.heap.size w W) hS hc1 hc2 => spot_any W t σ Ls (hT.below rfl hB) ao c M q hS b3 (by omega) hc1 hc2)
  have HWI : Hid (∀ W ao c, Below w.heap.size w W → SAt W ao M.length M → _) := Hid.mk (fun W ao c (hB : Below w.heap.size w W) hS => within_any2 W t σ Ls (hT.below rfl hB) ao c M hS (fun x hx => b3 x (by simp [hx])) (by omega) j hj)
  rw [he] at HS1
  rw [he2] at HS2
  rw [hw] at HWI
  simp only [spotV, optV, ptrV, strV] at HS1
  simp only [spotV, optV, ptrV, strV] at HS2
  have hw2 : wrap64 (M.length : Int) = (M.length : Int) := by unfold wrap64; omega
  have hne1 : ¬ ((L.length : Int) + 1 = 0) := by omega
  have hne2 : ¬ ((M.length : Int) + 1 = 0) := by omega
  have hbe1 : (((L.length : Int) + 1) == 0) = false := by simp; omega
  have hbe2 : (((M.length : Int) + 1) == 0) = false := by simp; omega
  generalize L.length = nl at *
  generalize M.length = nm at *
  clear hT hOk hs hs2 h1 h2 he he2 hj hw b1 b2 b3 b4 hln hln2
  unfold callV at HBO
  unfold callV ptrV at *
  go_enter Tryz.func30, Tryz.ntmps30
  go_wp2_with fail
  obtain ⟨X, hX⟩ : ∃ X, X = (w.alloc (.cells #[.int .i64 k, .string s, .string s2, .int .i64 off, .int .i64 m, .slice dp dl dc] 35)).alloc (.cells #[.int .i64 0, .slice none 0 0, .int .i64 0, .int .i64 0, .int .i64 0, .slice none 0 0, .int .i64 0] 32) := ⟨_, rfl⟩
  have hXB : Below w.heap.size w X := by rw [hX]; exact ((Below.refl _ w).alloc (Nat.le_refl _) _).alloc (by simp) _
  have hXs : X.heap.size = w.heap.size + 2 := by rw [hX]; simp
  have hX0 : X.heap[w.heap.size]? = some (.cells #[.int .i64 k, .string s, .string s2, .int .i64 off, .int .i64 m, .slice dp dl dc] 35 (0, 0)) := by rw [hX, Below.heap_alloc _ _ _ (by simp)]; exact blk_new w _
  have hX1 : X.heap[w.heap.size + 1]? = some (.cells #[.int .i64 0, .slice none 0 0, .int .i64 0, .int .i64 0, .int .i64 0, .slice none 0 0, .int .i64 0] 32 (0, 0)) := by
    rw [hX]
    have := blk_new (w.alloc (.cells #[.int .i64 k, .string s, .string s2, .int .i64 off, .int .i64 m, .slice dp dl dc] 35)) (.cells #[.int .i64 0, .slice none 0 0, .int .i64 0, .int .i64 0, .int .i64 0, .slice none 0 0, .int .i64 0] 32)
    rwa [World.size_alloc] at this
  rw [← hX]
  clear hX
  have f0 := blk_cell hX0 0
  have f1 := blk_cell hX0 1
  have f2 := blk_cell hX0 2
  have f3 := blk_cell hX0 3
  have f4 := blk_cell hX0 4
  have f5 := blk_cell hX0 5
  simp at f0 f1 f2 f3 f4 f5
  have HXB := Hid.mk hXB
  have HXS := Hid.mk hXs
  have HX1 := Hid.mk hX1
  clear hXB hXs hX0 hX1
  try go_wp2_with fail
  refine (HBO.out X).mono ?_
  rintro e' W1 ⟨ao, c, bo, dd, rfl, hSA, hSB, hc1, hc2, hd1, hd2, hB1⟩
  have hBw : Below w.heap.size w W1 := HXB.out.trans (hB1.mono (by have := HXS.out; omega))
  have HP1 := Hid.mk (HS1.out W1 ao c hBw hSA hc1 hc2)
  have HR1 : Hid (W1.heap[w.heap.size + 1]? = some (.cells #[.int .i64 0, .slice none 0 0, .int .i64 0, .int .i64 0, .int .i64 0, .slice none 0 0, .int .i64 0] 32 (0, 0))) := Hid.mk ((hB1.block _ (by have := HXS.out; omega)).trans HX1.out)
  have HSB := Hid.mk hSB
  have HBW := Hid.mk hBw
  have HD1 := Hid.mk hd1
  have HD2 := Hid.mk hd2
  have hdc : (nm : Int) ≤ (dd : Int) := by omega
  clear hSA hSB hc1 hc2 hd1 hd2 hB1 hBw HXB HXS HX1 HBO HS1 f0 f1 f2 f3 f4 f5
  go_wp2_with fail
  refine HP1.out.mono ?_
  rintro e' W2 ⟨rfl, hB2⟩
  obtain ⟨Y2, hY2⟩ : ∃ Y2, Y2 = W2.alloc (.cells #[.pointer (some ⟨locL Ls d, 0, none⟩), .string (mkS p), .pointer (some ⟨locL Ls j, 0, none⟩)] 73) := ⟨_, rfl⟩
  have hBw2 : Below W1.heap.size W1 Y2 := by rw [hY2]; exact hB2.alloc hB2.size _
  have hsp : Y2.heap[W2.heap.size]? = some (.cells #[.pointer (some ⟨locL Ls d, 0, none⟩), .string (mkS p), .pointer (some ⟨locL Ls j, 0, none⟩)] 73 (0, 0)) := by rw [hY2]; exact blk_new W2 _
  have hw2Y : Below w.heap.size w Y2 := HBW.out.trans (hBw2.mono HBW.out.size)
  have HP2 := Hid.mk (HS2.out Y2 bo dd hw2Y (HSB.out.below hBw2) HD1.out HD2.out)
  go_upto_region 9 with fail
  rw [← hY2]
  clear hY2
  generalize W2.heap.size = sb at *
  have x0 := blk_cell hsp 2
  simp at x0
  have HSP := Hid.mk hsp
  have HY := Hid.mk hBw2
  have HWY := Hid.mk hw2Y
  clear hsp hBw2 hw2Y hB2 HP1
  go_upto_region 12 with (go_at_call 49; refine HP2.out.mono ?_; rintro e' W4 ⟨rfl, hB4⟩; have HB4 := Hid.mk hB4; clear hB4)
  obtain ⟨Y4, hY4⟩ : ∃ Y4, Y4 = W4.alloc (.cells #[.pointer (some ⟨locL Ls d2, 0, none⟩), .string (mkS q), .pointer none] 73) := ⟨_, rfl⟩
  have hB4Y : Below Y2.heap.size Y2 Y4 := by rw [hY4]; exact HB4.out.alloc HB4.out.size _
  have hsq4 : Y4.heap[W4.heap.size]? = some (.cells #[.pointer (some ⟨locL Ls d2, 0, none⟩), .string (mkS q), .pointer none] 73 (0, 0)) := by rw [hY4]; exact blk_new W4 _
  rw [← hY4]
  clear hY4
  have hsp4 := (hB4Y.block sb (lt_of_block HSP.out)).trans HSP.out
  have x4 := blk_cell hsp4 2
  simp at x4
  have hwY4 : Below w.heap.size w Y4 := HWY.out.trans (hB4Y.mono HWY.out.size)
  have HWW : Hid (∀ W, Below Y4.heap.size Y4 W → _) := Hid.mk (fun W (hB : Below Y4.heap.size Y4 W) => HWI.out W bo dd (hwY4.trans (hB.mono hwY4.size)) (((HSB.out.below HY.out).below hB4Y).below hB).front2)
  have HR4 : Hid (Y4.heap[w.heap.size + 1]? = some (.cells #[.int .i64 0, .slice none 0 0, .int .i64 0, .int .i64 0, .int .i64 0, .slice none 0 0, .int .i64 0] 32 (0, 0))) := Hid.mk ((hB4Y.block _ (Nat.lt_of_lt_of_le (lt_of_block HR1.out) HY.out.size)).trans ((HY.out.block _ (lt_of_block HR1.out)).trans HR1.out))
  have HW4 := Hid.mk hwY4
  unfold ptrV at HWW
  generalize hW4s : W4.heap.size = sb4 at *
  have HSP4 := Hid.mk hsp4
  have HSQ4 := Hid.mk hsq4
  have HMV4 : Hid (w.heap.size + 1 < Y4.heap.size) := Hid.mk (lt_of_block HR4.out)
  clear hB4Y hsp4 hsq4 hwY4 HWI HSB HY HP2 HS2 hW4s
  go_upto_region 14 with fail
  have k4 := cell_regrown x4
  have cW : ∀ dd' os, Calls Tryz.prog 50 #[.pointer (some ⟨t, 0, none⟩), .slice bo nm dd, .pointer (some ⟨locL Ls j, 0, none⟩)] (grow (redrawn Y4 dd') os) fun e w'' => e = .returned (.bool false) ∧ ∃ p : Regrown, w'' = grow (redrawn Y4 p.d) p.os := fun dd' os => Calls.regrown_of (HWW.out _ (below_regrown _ _ _))
  refine wp_region_quiet_below mixed (by kernel_rfl) ?_
  repeat (go_big_quiet_step (first | (go_at_call 50; exact cW _ _)))
  refine wpQuiet_nil ?_
  intro W5 hw'
  obtain ⟨⟨dq, osq⟩, hw''⟩ := hw'
  have hB5 := below_regrown Y4 dq osq
  rw [← hw''] at hB5
  have HB1 : Hid (W5.heap[w.heap.size + 1]? = some (.cells #[.int .i64 0, .slice none 0 0, .int .i64 0, .int .i64 0, .int .i64 0, .slice none 0 0, .int .i64 0] 32 (0, 0))) := Hid.mk ((hB5.block _ (lt_of_block HR4.out)).trans HR4.out)
  have HBB : Hid (Below w.heap.size w W5) := Hid.mk (HW4.out.trans (hB5.mono HW4.out.size))
  have hq0 := (hB5.block sb (lt_of_block HSP4.out)).trans HSP4.out
  have hq1 := (hB5.block sb4 (lt_of_block HSQ4.out)).trans HSQ4.out
  have u0 := blk_cell hq0 0
  have u1 := blk_cell hq0 1
  have u2 := blk_cell hq0 2
  have v0 := blk_cell hq1 0
  have v1 := blk_cell hq1 1
  have v2 := blk_cell hq1 2
  simp at u0 u1 u2 v0 v1 v2
  have HSZ : Hid (w.heap.size + 1 < W5.heap.size) := Hid.mk (lt_of_block HB1.out)
  have HM5 := Hid.mk (HMT.out W5 HBB.out)
  unfold ptrV strV at HM5
  clear hw'' hB5 cW k4 x4 HWW HR4 HW4 HSP4 HSQ4 HMT hq0 hq1
  go_wp2_with (first
    | (go_at_call 52; refine HM5.out.mono ?_; rintro e' W6 ⟨rfl, hst⟩; have ST := Hid.mk hst; clear hst)
    | (go_at_call 23; refine (failed_any _ _).mono ?_; rintro e' W3 ⟨rfl, hb3⟩; have hbx := (hb3.block _ (Nat.lt_of_lt_of_le HSZ.out ST.out.only.size)).trans ((ST.out.only.block _ HSZ.out (fun h => by have := HTL.out _ h; omega)).trans HB1.out); have z0 := blk_cell hbx 0; have y0 := blk_free hbx 0; have z1 := blk_cell hbx 1; have y1 := blk_free hbx 1; have z2 := blk_cell hbx 2; have y2 := blk_free hbx 2; have z3 := blk_cell hbx 3; have y3 := blk_free hbx 3; have z4 := blk_cell hbx 4; have y4 := blk_free hbx 4; have z5 := blk_cell hbx 5; have y5 := blk_free hbx 5; have z6 := blk_cell hbx 6; have y6 := blk_free hbx 6; simp at z0 z1 z2 z3 z4 z5 z6;  have BXX := Hid.mk hbx; have HB3 := Hid.mk hb3; unfold errV; clear hbx hb3))
  have hb7 := (box7 BXX.out (.int .i64 0) (.slice none 0 0) (.int .i64 0) (.int .i64 0) (.int .i64 0) (.slice none 0 0) (.int .i64 0)).1
  have ho7 := (box7 BXX.out (.int .i64 0) (.slice none 0 0) (.int .i64 0) (.int .i64 0) (.int .i64 0) (.slice none 0 0) (.int .i64 0)).2
  obtain ⟨Y, hY⟩ : ∃ Y, Y = (((((((W3.setCell ⟨w.heap.size + 1, 0, none⟩ (.int .i64 0)).setCell ⟨w.heap.size + 1, 1, none⟩ (.slice none 0 0)).setCell ⟨w.heap.size + 1, 2, none⟩ (.int .i64 0)).setCell ⟨w.heap.size + 1, 3, none⟩ (.int .i64 0)).setCell ⟨w.heap.size + 1, 4, none⟩ (.int .i64 0)).setCell ⟨w.heap.size + 1, 5, none⟩ (.slice none 0 0)).setCell ⟨w.heap.size + 1, 6, none⟩ (.int .i64 0)) := ⟨_, rfl⟩
  rw [← hY] at hb7 ho7 ⊢
  have k0 := blk_cell hb7 0
  have k1 := blk_cell hb7 1
  have k2 := blk_cell hb7 2
  have k3 := blk_cell hb7 3
  have k4 := blk_cell hb7 4
  have k5 := blk_cell hb7 5
  have k6 := blk_cell hb7 6
  simp at k0 k1 k2 k3 k4 k5 k6
  have hnot : w.heap.size + 1 ∉ feet t Ls := fun h => by have := HTL.out _ h; omega
  have hst := ST.out.out HBB.out (fun k hk => .inl hk) ((Only.of_new (fun k => k = w.heap.size + 1) HB3.out).trans ho7 (fun i hi => .inl hi) |>.mono (fun i _ hi => by subst hi; exact ⟨by omega, HSZ.out, hnot⟩))
  refine bodyPost_ret (v := errV 0) ?_ rfl ⟨rfl, hst⟩
  simp [results, Tryz.results30, go_sem, errV, k0, k1, k2, k3, k4, k5, k6]
theorem doo_move (w : World) (t : Nat) (σ : Tr) (Ls : List Lay) (hT : TrAt w t σ Ls) (hOk : ∀ x ∈ σ.nodes, x.Ok) (s s2 : ByteArray) (off m : Int) (dp : Option Addr) (dl dc : Nat) (hs : s.size ≤ 16777216) (hs2 : s2.size ≤ 16777216) (L M : List (List UInt8)) (p q : List UInt8) (h1 : splitL (ofS s) = some (L ++ [p])) (h2 : splitL (ofS s2) = some (M ++ [q])) (d j d2 : Nat) (he : spotE σ.nodes L p = (0, some ⟨d, p, some j⟩)) (he2 : spotE σ.nodes M q = (0, some ⟨d2, q, none⟩)) (hj : j < σ.nodes.length) (hw : onWay σ.nodes M j = false) (hjk : (nodeAt σ.nodes j).isDir = true) (hne : d ≠ d2) (hl : (nodeAt σ.nodes d2).links < 32000) (hfit : fitsB σ.G σ.I σ.D σ.inodes σ.blocks 0 (nodeAt σ.nodes d2).growth = true) :
    Calls Tryz.prog 12 #[ptrV t, callV 6 s s2 off m (.slice dp dl dc)] w fun e w' => e = .returned (errV 0) ∧ Step (fun k => k ∈ feet t Ls) w t w' (moveT σ d p j d2 q) := by
  refine (do_rename w t (moveT σ d p j d2 q) Ls s s2 off m dp dl dc 0 0 0 0 0 (fun x y _ => x = .slice none 0 0 ∧ y = .slice none 0 0) (fun k hk => hT.lt k hk) (fun _ _ _ _ h _ => h) (Hid.mk (fun W hB _ => (rename_move W t σ Ls (hT.below rfl hB) hOk 6 s s2 off m dp dl dc hs hs2 L M p q h1 h2 d j d2 he he2 hj hw hjk hne hl hfit).mono (fun e w' hh => ⟨none, 0, 0, none, 0, 0, hh.1, hh.2, rfl, rfl⟩)))).mono ?_
  rintro e w' ⟨a1, n1, c1, a5, n5, c5, rfl, hst, h1, h2⟩
  cases h1; cases h2
  exact ⟨rfl, hst⟩
end Go.Proofs.YtehaoeclnmelhabGreat
