/-
  link: a file gets one more name.
-/
import Derived.Test.YtehaoeclnmelhacGreatTrLaw
import Derived.Test.YtehaoeclnmelhacGreatLayTop
import Derived.Test.YtehaoeclnmelhacGreatLayRn
namespace Go.Proofs.YtehaoeclnmelhacGreat
open Go Go.Proofs Go.RowKit Go.Shelf Go.Sort

/-- A node's links turn by so many. -/
theorem TrAt.moreN {W : World} {t : Nat} {σ : Tr} {Ls : List Lay} (h : TrAt W t σ Ls) {d : Nat} (hd : d < σ.nodes.length) (n : Int) : W.cell? ⟨locL Ls d, 1, none⟩ = some (.int .i64 (nodeAt σ.nodes d).links) ∧ W.frozen? ⟨locL Ls d, 1, none⟩ = false ∧ TrAt (W.setCell ⟨locL Ls d, 1, none⟩ (.int .i64 (w64 ((nodeAt σ.nodes d).links + n)))) t { σ with nodes := σ.nodes.modify d (fun x => x.more n) } Ls := by
  cases hk : (nodeAt σ.nodes d).isDir with
  | true => exact h.more hd hk n
  | false =>
    obtain ⟨b, m, r, l, z, p, q1, q2, q3, q4, q5⟩ := h.fileAt hd hk
    refine ⟨(h.kindAt hd).2.1, by rw [q4]; exact blk_free q3.node 1, ?_⟩
    rw [q4, q5, modify_set q2]
    exact h.flinks (l' := w64 (l + n)) q1 q2
/-- The tree with one name more. -/
def linkT (σ : Tr) (d : Nat) (q : List UInt8) (j : Nat) : Tr :=
  { σ with inodes := w64 (σ.inodes + 0), blocks := w64 (σ.blocks + (nodeAt σ.nodes d).growth), nodes := (σ.nodes.modify d (fun x => x.add q j)).modify j (fun x => x.more 1) }
set_option maxRecDepth 100000 in
set_option maxHeartbeats 4000000 in
theorem link_main (w : World) (t : Nat) (σ : Tr) (Ls : List Lay) (hT : TrAt w t σ Ls) (hOk : ∀ x ∈ σ.nodes, x.Ok) (k : Int) (s s2 : ByteArray) (off m : Int) (dp : Option Addr) (dl dc : Nat) (hs : s.size ≤ 16777216) (hs2 : s2.size ≤ 16777216) (L M : List (List UInt8)) (q : List UInt8) (h1 : splitL (ofS s) = some L) (h2 : splitL (ofS s2) = some (M ++ [q])) (j d : Nat) (hf : wayE σ.nodes 0 L = (some j, 0)) (hjk : (nodeAt σ.nodes j).isDir = false) (he : spotE σ.nodes M q = (0, some ⟨d, q, none⟩)) (hl : (nodeAt σ.nodes j).links < 32000) (hfit : fitsB σ.G σ.I σ.D σ.inodes σ.blocks 0 (nodeAt σ.nodes d).growth = true) :
    Calls Tryz.prog 22 #[ptrV t, callV k s s2 off m (.slice dp dl dc)] w fun e w' => e = .returned (errV 0) ∧ Step (fun k => k ∈ feet t Ls) w t w' (linkT σ d q j) := by
  have HTL : Hid (∀ k ∈ feet t Ls, k < w.heap.size) := Hid.mk (fun k hk => hT.lt k hk)
  obtain ⟨hdl, hdk, hdn⟩ : d < σ.nodes.length ∧ (nodeAt σ.nodes d).isDir = true ∧ lookS (nodeAt σ.nodes d).slots q = none := by
    rcases spotE_or σ.nodes M q with ⟨d', o, h, h1, h2, h3⟩ | ⟨e, h, _⟩
    · rw [he] at h; cases h; exact ⟨wayE_lt hT M h1, h2, h3.symm⟩
    · rw [he] at h; cases h
  have hj : j < σ.nodes.length := wayE_lt hT L hf
  have k1 : (nodeAt σ.nodes j).kind = 1 := by rcases kind_two (nodeAt σ.nodes j) with ⟨k, _⟩ | ⟨_, k⟩; rw [hjk] at k; cases k; exact k
  have HBO : Hid (∀ W, _) := Hid.mk (fun W => both_yes W k s s2 off m dp dl dc hs hs2 h1 h2)
  obtain ⟨b1, b2⟩ := split_bounds h1
  obtain ⟨b3, b4⟩ := split_bounds h2
  have hln2 : (M ++ [q]).length = M.length + 1 := by simp
  rw [hln2] at HBO
  have HFI : Hid (∀ W ao c, Below w.heap.size w W → SAt W ao L.length L → _) := Hid.mk (fun W ao c (hB : Below w.heap.size w W) hS => find_any W t σ Ls (hT.below rfl hB) ao c L hS b1 (by omega))
  have HUN : Hid (∀ W ao c, Below w.heap.size w W → SAt W ao (M.length + 1) (M ++ [q]) → M.length + 1 ≤ c → c ≤ 9223372036854775807 → _) := Hid.mk (fun W ao c (hB : Below w.heap.size w W) hS hc1 hc2 => unnamed_any W t σ Ls (hT.below rfl hB) ao c M q hS b3 (by omega) hc1 hc2)
  have HV : Hid (unE (0, some ⟨d, q, none⟩) = 0) := Hid.mk rfl
  rw [hf] at HFI
  rw [he] at HUN
  simp only [optV, ptrV] at HFI
  simp only [HV.out, spotV, optV, ptrV, strV] at HUN
  have HGR : Hid (∀ W, Below w.heap.size w W → Calls Tryz.prog 39 #[ptrV (locL Ls d)] W fun e w' => e = .returned (.int .i64 (nodeAt σ.nodes d).growth) ∧ Below W.heap.size W w') := Hid.mk (fun W hB => by
    obtain ⟨b, m, r, c, l, z, s, q1, q2, q3, q4, q5⟩ := (hT.below rfl hB).dirAt hdl hdk
    have hdok : (Nd.dir l z s).Ok := hOk _ (List.mem_of_getElem? q2)
    rw [q4, q5]
    exact growth_any W (locL Ls) b m r c l z s q3 hdok.2.2 hdok.1 hdok.2.1)
  have HTK : Hid (∀ W, Below w.heap.size w W → Calls Tryz.prog 38 #[ptrV t, .int .i64 0, .int .i64 (nodeAt σ.nodes d).growth] W fun e w' => e = .returned (.int .i64 0) ∧ TrAt w' t { σ with inodes := w64 (σ.inodes + 0), blocks := w64 (σ.blocks + (nodeAt σ.nodes d).growth) } Ls ∧ Only (fun k => k = t) W w') := Hid.mk (fun W hB => by
    have hTW := hT.below rfl hB
    refine (take_any W t (locL Ls 0) σ.G σ.I σ.D σ.inodes σ.blocks hTW.tree 0 (nodeAt σ.nodes d).growth).mono ?_
    rintro e w' (⟨h1, _, _⟩ | ⟨h1, h2, h3, h4⟩)
    · rw [hfit] at h1; cases h1
    · exact ⟨h2, hTW.count h4 h3, h4⟩)
  obtain ⟨l2, hl2⟩ : ∃ l2, (nodeAt σ.nodes j).links = l2 := ⟨_, rfl⟩
  have hl3 : ¬ (32000 : Int) ≤ l2 := by omega
  have HK : Hid (∀ W, Below w.heap.size w W → W.cell? ⟨locL Ls j, 0, none⟩ = some (.int .i64 1) ∧ W.cell? ⟨locL Ls j, 1, none⟩ = some (.int .i64 l2)) := Hid.mk (fun W hB => ⟨by have := ((hT.below rfl hB).kindAt hj).1; rwa [k1] at this, by have := ((hT.below rfl hB).kindAt hj).2.1; rwa [hl2] at this⟩)
  have HAD : Hid (∀ W, TrAt W t { σ with inodes := w64 (σ.inodes + 0), blocks := w64 (σ.blocks + (nodeAt σ.nodes d).growth) } Ls → Calls Tryz.prog 40 #[ptrV (locL Ls d), strV q, ptrV (locL Ls j)] W fun e w' => e = .returned (.tuple #[]) ∧ StepL W t Ls w' { σ with inodes := w64 (σ.inodes + 0), blocks := w64 (σ.blocks + (nodeAt σ.nodes d).growth), nodes := σ.nodes.modify d (fun x => x.add q j) }) := Hid.mk (fun W hTW => add_tree W t _ Ls hTW hOk d q j hdl hdk hdn hj (b3 q (by simp)))
  unfold ptrV at HGR HTK HAD
  unfold strV at HAD
  have HJ : Hid (j < σ.nodes.length) := Hid.mk hj
  have HLJ : Hid (∀ Ls', locL Ls' = locL Ls → ∀ W σ', TrAt W t σ' Ls' → σ'.nodes.length = σ.nodes.length → locL Ls j ∈ feet t Ls') := Hid.mk (fun Ls' e W σ' hW hlen => by
    obtain ⟨A, n4, a1, a2, a3, a4⟩ := hW.get (i := j) (by rw [hlen]; exact hj)
    rw [← e, a4]
    exact mem_feet a1 A.b_foot)
  generalize L.length = nl at *
  generalize M.length = nm at *
  generalize hgr : (nodeAt σ.nodes d).growth = gr at *
  have HGQ := Hid.mk hgr
  clear hT hOk hs hs2 h1 h2 hf he hl hfit b1 b2 b3 b4 hln2 hl2 hdl hdk hdn hj k1 hjk HV hgr
  unfold callV at HBO
  unfold callV ptrV at *
  go_enter Tryz.func22, Tryz.ntmps22
  go_wp2_with fail
  obtain ⟨X, hX⟩ : ∃ X, X = (w.alloc (.cells #[.int .i64 k, .string s, .string s2, .int .i64 off, .int .i64 m, .slice dp dl dc] 34)).alloc (.cells #[.int .i64 0, .slice none 0 0, .int .i64 0, .int .i64 0, .int .i64 0, .slice none 0 0, .int .i64 0] 31) := ⟨_, rfl⟩
  have hXB : Below w.heap.size w X := by rw [hX]; exact ((Below.refl _ w).alloc (Nat.le_refl _) _).alloc (by simp) _
  have hXs : X.heap.size = w.heap.size + 2 := by rw [hX]; simp
  have hX0 : X.heap[w.heap.size]? = some (.cells #[.int .i64 k, .string s, .string s2, .int .i64 off, .int .i64 m, .slice dp dl dc] 34 (0, 0)) := by rw [hX, Below.heap_alloc _ _ _ (by simp)]; exact blk_new w _
  have hX1 : X.heap[w.heap.size + 1]? = some (.cells #[.int .i64 0, .slice none 0 0, .int .i64 0, .int .i64 0, .int .i64 0, .slice none 0 0, .int .i64 0] 31 (0, 0)) := by
    rw [hX]
    have := blk_new (w.alloc (.cells #[.int .i64 k, .string s, .string s2, .int .i64 off, .int .i64 m, .slice dp dl dc] 34)) (.cells #[.int .i64 0, .slice none 0 0, .int .i64 0, .int .i64 0, .int .i64 0, .slice none 0 0, .int .i64 0] 31)
    rwa [World.size_alloc] at this
  rw [← hX]
  clear hX
  have f0 := blk_cell hX0 0
  have f1 := blk_cell hX0 1
  have f2 := blk_cell hX0 2
  have f3 := blk_cell hX0 3
  have f4 := blk_cell hX0 4
  have f5 := blk_cell hX0 5
  simp at f0 f1 f2 f3 f4 f5
  have HXB := Hid.mk hXB
  have HXS := Hid.mk hXs
  have HX1 := Hid.mk hX1
  clear hXB hXs hX0 hX1
  try go_wp2_with fail
  refine (HBO.out X).mono ?_
  rintro e' W1 ⟨ao, c, bo, dd, rfl, hSA, hSB, hc1, hc2, hd1, hd2, hB1⟩
  have hBw : Below w.heap.size w W1 := HXB.out.trans (hB1.mono (by have := HXS.out; omega))
  have HP1 := Hid.mk (HFI.out W1 ao c hBw hSA)
  have HR1 : Hid (W1.heap[w.heap.size + 1]? = some (.cells #[.int .i64 0, .slice none 0 0, .int .i64 0, .int .i64 0, .int .i64 0, .slice none 0 0, .int .i64 0] 31 (0, 0))) := Hid.mk ((hB1.block _ (by have := HXS.out; omega)).trans HX1.out)
  have HSB := Hid.mk hSB
  have HBW := Hid.mk hBw
  have HD1 := Hid.mk hd1
  have HD2 := Hid.mk hd2
  clear hSA hSB hc1 hc2 hd1 hd2 hB1 hBw HXB HXS HX1 HBO HFI f0 f1 f2 f3 f4 f5
  go_upto_region 7 with (go_at_call 36; refine HP1.out.mono ?_; rintro e' W2 ⟨rfl, hB2⟩; have HB2 := Hid.mk hB2; clear hB2)
  have hw2 : Below w.heap.size w W2 := HBW.out.trans (HB2.out.mono HBW.out.size)
  have HP2 := Hid.mk (HUN.out W2 bo dd hw2 (HSB.out.below HB2.out) HD1.out HD2.out)
  have HR2 := Hid.mk ((HB2.out.block _ (lt_of_block HR1.out)).trans HR1.out)
  obtain ⟨g0, -⟩ := HK.out W2 hw2
  have HW2 := Hid.mk hw2
  clear hw2 HP1 HR1 HSB HBW HD1 HD2 HB2 HUN
  go_upto_region 10 with (go_at_call 37; refine HP2.out.mono ?_; rintro e' W3 ⟨rfl, hB3⟩; have HB3 := Hid.mk hB3; clear hB3)
  obtain ⟨Y, hY⟩ : ∃ Y, Y = W3.alloc (.cells #[.pointer (some ⟨locL Ls d, 0, none⟩), .string (mkS q), .pointer none] 69) := ⟨_, rfl⟩
  have hwY : Below w.heap.size w Y := by rw [hY]; have := HW2.out.trans (HB3.out.mono HW2.out.size); exact this.alloc this.size _
  have hsp : Y.heap[W3.heap.size]? = some (.cells #[.pointer (some ⟨locL Ls d, 0, none⟩), .string (mkS q), .pointer none] 69 (0, 0)) := by rw [hY]; exact blk_new W3 _
  have hbY : Y.heap[w.heap.size + 1]? = some (.cells #[.int .i64 0, .slice none 0 0, .int .i64 0, .int .i64 0, .int .i64 0, .slice none 0 0, .int .i64 0] 31 (0, 0)) := by
    have h3 := (HB3.out.block _ (lt_of_block HR2.out)).trans HR2.out
    rw [hY, Below.heap_alloc _ _ _ (lt_of_block h3)]
    exact h3
  have hsz3 : w.heap.size ≤ W3.heap.size := Nat.le_trans HW2.out.size HB3.out.size
  rw [← hY]
  clear hY
  generalize W3.heap.size = sb at *
  have x0 := blk_cell hsp 0
  simp at x0
  obtain ⟨g0', g1⟩ := HK.out Y hwY
  have HSP := Hid.mk hsp
  have HBY := Hid.mk hbY
  have HWY := Hid.mk hwY
  have HSB := Hid.mk hsz3
  clear hsp hbY hwY hsz3 g0 HP2 HB3 HR2 HW2
  go_upto_region 15 with (first
    | (go_at_call 39; refine (HGR.out _ HWY.out).mono ?_; rintro e' Wg ⟨rfl, hbg⟩; have HG := Hid.mk hbg; clear hbg)
    | (go_at_call 38; refine (HTK.out _ (HWY.out.trans (HG.out.mono HWY.out.size))).mono ?_; rintro e' Wt ⟨rfl, hTt, hOt⟩; have HTt := Hid.mk hTt; have HOt := Hid.mk hOt; clear hTt hOt))
  have hnf : ∀ k, w.heap.size ≤ k → k ∉ feet t Ls := fun k hk h => by have := HTL.out k h; omega
  have htf : t ∈ feet t Ls := by simp [feet]
  have hXt : Only (fun k => k ∈ feet t Ls) Y Wt := (Only.of_new (fun k => k ∈ feet t Ls) HG.out).trans (HOt.out.mono (fun i _ (hi : i = t) => by rw [hi]; exact htf)) (fun i hi => .inl hi)
  have hb0 := (hXt.block sb (lt_of_block HSP.out) (hnf _ HSB.out)).trans HSP.out
  have hb1 := (hXt.block (w.heap.size + 1) (lt_of_block HBY.out) (hnf _ (by omega))).trans HBY.out
  have HON : Hid (Only (fun k => k ∈ feet t Ls) Y Wt) := Hid.mk hXt
  have v0 := blk_cell hb0 0
  have v1 := blk_cell hb0 1
  simp at v0 v1
  have HAA := Hid.mk (HAD.out Wt HTt.out)
  have HB1 := Hid.mk hb1
  have HSZ : Hid (w.heap.size + 1 < Wt.heap.size) := Hid.mk (lt_of_block hb1)
  have HYZ : Hid (w.heap.size + 1 < Y.heap.size) := Hid.mk (lt_of_block HBY.out)
  clear hb0 hb1 hXt x0 g0' g1 HK HGR HTK HG HOt HAD HSP HBY
  go_upto_region 18 with (go_at_call 40; refine HAA.out.mono ?_; rintro e' Wa ⟨rfl, ⟨Ls', hTa, hLo, hFt⟩, hOa⟩; have HTa := Hid.mk hTa; have HLo := Hid.mk hLo; have HFt := Hid.mk hFt; have HOa := Hid.mk hOa; clear hTa hLo hFt hOa)
  obtain ⟨m1, m2, m3⟩ := HTa.out.moreN (d := j) (by simpa using HJ.out) 1
  simp only [HLo.out] at m1 m2 m3
  obtain ⟨l3, hl3'⟩ : ∃ l3, l3 = (nodeAt (σ.nodes.modify d (fun x => x.add q j)) j).links := ⟨_, rfl⟩
  rw [← hl3'] at m1 m3
  have HT3 : Hid (TrAt (Wa.setCell ⟨locL Ls j, 1, none⟩ (.int .i64 (wrap64 (l3 + 1)))) t _ Ls') := Hid.mk m3
  have hba := (HOa.out.block (w.heap.size + 1) HSZ.out (hnf _ (by omega))).trans HB1.out
  have HBA := Hid.mk hba
  have HLF : Hid (locL Ls j ∈ feet t Ls') := Hid.mk (HLJ.out Ls' HLo.out Wa _ HTa.out (by simp))
  have HNB : Hid (¬ w.heap.size + 1 ∈ feet t Ls') := Hid.mk (fun h => by
    rcases HFt.out _ h with h | h
    · exact hnf _ (by omega) h
    · have := HSZ.out; omega)
  clear hba m3 hl3' v0 v1 HB1 HAA HLJ
  go_upto_region 19 with fail
  generalize hV : World.setCell Wa _ _ = V at *
  have hbv : V.heap[w.heap.size + 1]? = some (.cells #[.int .i64 0, .slice none 0 0, .int .i64 0, .int .i64 0, .int .i64 0, .slice none 0 0, .int .i64 0] 31 (0, 0)) := by
    rw [← hV]
    exact (Below.heap_setCell _ _ _ _ (fun e => HNB.out (by rw [e]; exact HLF.out))).trans HBA.out
  have z0 := blk_cell hbv 0
  have y0 := blk_free hbv 0
  have z1 := blk_cell hbv 1
  have y1 := blk_free hbv 1
  have z2 := blk_cell hbv 2
  have y2 := blk_free hbv 2
  have z3 := blk_cell hbv 3
  have y3 := blk_free hbv 3
  have z4 := blk_cell hbv 4
  have y4 := blk_free hbv 4
  have z5 := blk_cell hbv 5
  have y5 := blk_free hbv 5
  have z6 := blk_cell hbv 6
  have y6 := blk_free hbv 6
  simp at z0 z1 z2 z3 z4 z5 z6
  have hgo : Only (fun k => k ∈ feet t Ls) Y V := by
    rw [← hV]
    refine ((HON.out.trans HOa.out (fun i hi => .inl hi))).setCell (p := ⟨locL Ls j, 1, none⟩) ?_ _
    rcases HFt.out _ HLF.out with h | h
    · exact .inl h
    · exact .inr (Nat.le_trans HON.out.size h)
  have hst : Step (fun k => k ∈ feet t Ls) Y t V (linkT σ d q j) := ⟨⟨Ls', by unfold linkT; rw [HGQ.out]; exact HT3.out, fun k hk => by
    rcases HFt.out k hk with h | h
    · exact .inl h
    · exact .inr (Nat.le_trans HON.out.size h)⟩, hgo⟩
  have HST := Hid.mk hst
  have BXX := Hid.mk hbv
  clear hbv hgo hst hV m1 m2 HT3 HTa HLo HFt HOa HON HLF HNB HBA
  go_wp2_with fail
  have hb7 := (box7 BXX.out (.int .i64 0) (.slice none 0 0) (.int .i64 0) (.int .i64 0) (.int .i64 0) (.slice none 0 0) (.int .i64 0)).1
  have ho7 := (box7 BXX.out (.int .i64 0) (.slice none 0 0) (.int .i64 0) (.int .i64 0) (.int .i64 0) (.slice none 0 0) (.int .i64 0)).2
  obtain ⟨U, hU⟩ : ∃ U, U = (((((((V.setCell ⟨w.heap.size + 1, 0, none⟩ (.int .i64 0)).setCell ⟨w.heap.size + 1, 1, none⟩ (.slice none 0 0)).setCell ⟨w.heap.size + 1, 2, none⟩ (.int .i64 0)).setCell ⟨w.heap.size + 1, 3, none⟩ (.int .i64 0)).setCell ⟨w.heap.size + 1, 4, none⟩ (.int .i64 0)).setCell ⟨w.heap.size + 1, 5, none⟩ (.slice none 0 0)).setCell ⟨w.heap.size + 1, 6, none⟩ (.int .i64 0)) := ⟨_, rfl⟩
  rw [← hU] at hb7 ho7 ⊢
  have k0 := blk_cell hb7 0
  have k1 := blk_cell hb7 1
  have k2 := blk_cell hb7 2
  have k3 := blk_cell hb7 3
  have k4 := blk_cell hb7 4
  have k5 := blk_cell hb7 5
  have k6 := blk_cell hb7 6
  simp at k0 k1 k2 k3 k4 k5 k6
  have hnot : w.heap.size + 1 ∉ feet t Ls := hnf _ (by omega)
  have hfin := HST.out.out HWY.out (fun k hk => .inl hk) (ho7.mono (fun i _ hi => by subst hi; exact ⟨by omega, HYZ.out, hnot⟩))
  refine bodyPost_ret (v := errV 0) ?_ rfl ⟨rfl, hfin⟩
  simp [results, Tryz.results22, go_sem, errV, k0, k1, k2, k3, k4, k5, k6]
theorem doo_link (w : World) (t : Nat) (σ : Tr) (Ls : List Lay) (hT : TrAt w t σ Ls) (hOk : ∀ x ∈ σ.nodes, x.Ok) (s s2 : ByteArray) (off m : Int) (dp : Option Addr) (dl dc : Nat) (hs : s.size ≤ 16777216) (hs2 : s2.size ≤ 16777216) (L M : List (List UInt8)) (q : List UInt8) (h1 : splitL (ofS s) = some L) (h2 : splitL (ofS s2) = some (M ++ [q])) (j d : Nat) (hf : wayE σ.nodes 0 L = (some j, 0)) (hjk : (nodeAt σ.nodes j).isDir = false) (he : spotE σ.nodes M q = (0, some ⟨d, q, none⟩)) (hl : (nodeAt σ.nodes j).links < 32000) (hfit : fitsB σ.G σ.I σ.D σ.inodes σ.blocks 0 (nodeAt σ.nodes d).growth = true) :
    Calls Tryz.prog 9 #[ptrV t, callV 3 s s2 off m (.slice dp dl dc)] w fun e w' => e = .returned (errV 0) ∧ Step (fun k => k ∈ feet t Ls) w t w' (linkT σ d q j) := by
  refine (do_link w t (linkT σ d q j) Ls s s2 off m dp dl dc 0 0 0 0 0 (fun x y _ => x = .slice none 0 0 ∧ y = .slice none 0 0) (fun k hk => hT.lt k hk) (fun _ _ _ _ h _ => h) (Hid.mk (fun W hB _ => (link_main W t σ Ls (hT.below rfl hB) hOk 3 s s2 off m dp dl dc hs hs2 L M q h1 h2 j d hf hjk he hl hfit).mono (fun e w' hh => ⟨none, 0, 0, none, 0, 0, hh.1, hh.2, rfl, rfl⟩)))).mono ?_
  rintro e w' ⟨a1, n1, c1, a5, n5, c5, rfl, hst, h1, h2⟩
  cases h1; cases h2
  exact ⟨rfl, hst⟩
end Go.Proofs.YtehaoeclnmelhacGreat
