/-
  enter: where nothing is wrong but the room.
-/
import Derived.Test.YtehaoeclnmelhabGreatTrAdd2
import Derived.Deep.Cut
import Derived.Deep.CutRange
import Derived.Deep.RegionWith
namespace Go.Proofs.YtehaoeclnmelhabGreat
open Go Go.Proofs Go.RowKit Go.Shelf Go.Sort

def enterR (σ : Tr) (d : Nat) (p : List UInt8) (n : Nd) : Tr := if enterE σ d n = 0 then enterT σ d p n else σ
theorem DrAt.links {W : World} {loc : Nat → Nat} {b m r c : Nat} {l z : Int} {s : List Slt} (h : DrAt W loc b m r c l z s) (hd : [b, m, r].Nodup) (l' : Int) : DrAt (W.setCell ⟨b, 1, none⟩ (.int .i64 l')) loc b m r c l' z s := by
  obtain ⟨d1, d2, d3⟩ : b ≠ m ∧ b ≠ r ∧ m ≠ r := by simp at hd; exact ⟨hd.1.1, hd.1.2, hd.2⟩
  refine ⟨by rw [blk_set h.node]; rfl, owns_at h.row (fun k e => by cases e; exact Below.heap_setCell _ _ _ _ (fun e => d2 e.symm)), h.places.kept (Below.heap_setCell _ _ _ _ (fun e => d1 e.symm)), h.names⟩
theorem two_below {w X A B : World} (h : Below w.heap.size w A ∧ Below X.heap.size X A) (hb : Below A.heap.size A B) : Below w.heap.size w B ∧ Below X.heap.size X B := ⟨h.1.trans (hb.mono h.1.size), h.2.trans (hb.mono h.2.size)⟩
set_option maxRecDepth 100000 in
set_option maxHeartbeats 4000000 in
theorem enter_main (w : World) (t : Nat) (σ : Tr) (Ls : List Lay) (hT : TrAt w t σ Ls) (hOk : ∀ x ∈ σ.nodes, x.Ok) (s : ByteArray) (hs : s.size ≤ 16777216) (L : Lay) (n : Nd) (hN : NdAt w (locL Ls) L n) (hnk : n.Ok) (M : List (List UInt8)) (p : List UInt8) (hsp : splitL (ofS s) = some (M ++ [p])) (d : Nat) (he : spotE σ.nodes M p = (0, some ⟨d, p, none⟩)) (hc : ¬ (n.isDir = true ∧ 32000 ≤ (nodeAt σ.nodes d).links)) (hns : ∀ q, some q ∉ n.slots) (h1 : ∀ k ∈ L.foot, k ∉ feet t Ls) (h2 : L.foot.Nodup) :
    Calls Tryz.prog 38 #[ptrV t, .string s, ptrV L.b] w fun e w' => e = .returned (.int .i64 (enterE σ d n)) ∧ Step (fun k => k ∈ feet t Ls ∨ k ∈ L.foot) w t w' (enterR σ d p n) := by
  obtain ⟨hL, hll⟩ := split_bounds hsp
  have HS := Hid.mk (split_yes w s hs hsp)
  have hln : (M ++ [p]).length = M.length + 1 := by simp
  rw [hln] at HS
  have HU : Hid (∀ W ao c, Below w.heap.size w W → SAt W ao (M.length + 1) (M ++ [p]) → M.length + 1 ≤ c → c ≤ 9223372036854775807 → _) := Hid.mk (fun W ao c (hB : Below w.heap.size w W) hS h1 h2 => unnamed_any W t σ Ls (hT.below rfl hB) ao c M p hS hL (by simp at hll; omega) h1 h2)
  obtain ⟨hdl, hdk, hdn⟩ : d < σ.nodes.length ∧ (nodeAt σ.nodes d).isDir = true ∧ lookS (nodeAt σ.nodes d).slots p = none := by
    rcases spotE_or σ.nodes M p with ⟨d', o, h, h1, h2, h3⟩ | ⟨e, h, _⟩
    · rw [he] at h; cases h; exact ⟨wayE_lt hT M h1, h2, h3.symm⟩
    · rw [he] at h; cases h
  obtain ⟨b, m', r, cc, l, z, sl, q1, q2, q3, q4, q5⟩ := hT.dirAt hdl hdk
  have hdok : (Nd.dir l z sl).Ok := hOk _ (List.mem_of_getElem? q2)
  have HV : Hid (unE (0, some ⟨d, p, none⟩) = 0) := Hid.mk rfl
  rw [he] at HU
  simp only [HV.out, spotV, optV, ptrV, strV, q4] at HU
  have HK : Hid (∀ W, Below w.heap.size w W → W.cell? ⟨L.b, 0, none⟩ = some (.int .i64 n.kind) ∧ W.cell? ⟨b, 1, none⟩ = some (.int .i64 l)) := Hid.mk (fun W hB => by
    obtain ⟨_, _, _, hh⟩ := (hN.kept (fun k hk => hB.block k (hN.lt k hk))).head
    refine ⟨by rw [blk_cell hh]; rfl, ?_⟩
    have := ((hT.below rfl hB).kindAt hdl).2.1
    rw [q5, q4] at this
    exact this)
  have HNO : Hid (∀ W, Below w.heap.size w W → _) := Hid.mk (fun W (hB : Below w.heap.size w W) => nos_any W (locL Ls) L n (hN.kept (fun k hk => hB.block k (hN.lt k hk))) hnk)
  have HGR : Hid (∀ W, Below w.heap.size w W → _) := Hid.mk (fun W (hB : Below w.heap.size w W) => growth_any W (locL Ls) b m' r cc l z sl (q3.kept (fun k hk => hB.block k (by
    have := hT.lt k (mem_feet q1 hk)
    exact this))) hdok.2.2 hdok.1 hdok.2.1)
  have HTK : Hid (∀ W y, Below w.heap.size w W → _) := Hid.mk (fun W y (hB : Below w.heap.size w W) => take_any W t (locL Ls 0) σ.G σ.I σ.D σ.inodes σ.blocks (hT.tb |> fun h => (hB.block t (lt_of_block hT.tree)).trans h) 1 y)
  have HLN := Hid.mk (nos_len n hnk)
  have htf : t ∉ [b, m', r] := fun h => (List.nodup_cons.1 hT.apart).1 (List.mem_flatMap.2 ⟨_, List.mem_of_getElem? q1, by simpa [Lay.foot] using h⟩)
  have HTN : Hid (¬ (t = b ∨ t = m' ∨ t = r)) := Hid.mk (by simpa using htf)
  have hbnd : [b, m', r].Nodup := foot_nodup (List.nodup_cons.1 hT.apart).2 q1
  have HDO : Hid (∀ W, Only (fun k => k = t) w W → DrAt W (locL (Ls ++ [L])) b m' r cc l z sl ∧ ∀ W', Only (fun k => k = b ∨ k = m' ∨ k = r) W W' → W'.cell? ⟨L.b, 0, none⟩ = some (.int .i64 n.kind)) := Hid.mk (fun W ho => by
    refine ⟨?_, fun W' ho' => ?_⟩
    · have h3 : NdAt W (locL Ls) (.dir b m' r cc) (.dir l z sl) := NdAt.kept (show NdAt w (locL Ls) (.dir b m' r cc) (.dir l z sl) from q3) (fun k hk => ho.block k (hT.lt k (mem_feet q1 hk)) (fun e => by subst e; exact htf (by simpa [Lay.foot] using hk)))
      exact h3.reloc (fun q hq => (locL_push _ _ (by rw [hT.len]; exact hT.refs _ (List.mem_of_getElem? q2) q hq)).symm)
    · have hlb := hN.lt L.b L.b_foot
      obtain ⟨_, _, _, hh⟩ := hN.head
      have e1 := (ho.block L.b hlb (fun e => h1 L.b L.b_foot (by rw [e]; simp [feet]))).trans hh
      have e2 := (ho'.block L.b (lt_of_block e1) (fun e => h1 L.b L.b_foot (mem_feet q1 (by simpa [Lay.foot] using e)))).trans e1
      rw [blk_cell e2]
      rfl)
  have HADD : Hid (∀ W, DrAt W (locL (Ls ++ [L])) b m' r cc l z sl → _) := Hid.mk (fun W (h : DrAt W (locL (Ls ++ [L])) b m' r cc l z sl) => add_any W (locL (Ls ++ [L])) b m' r cc l z sl h hbnd hdok.2.2 p (hL p (by simp)) (by rw [q5] at hdn; exact hdn) σ.nodes.length)
  have hlast : locL (Ls ++ [L]) σ.nodes.length = L.b := by rw [← hT.len]; exact locL_last Ls L
  rw [hlast] at HADD
  have HFIN : Hid True := Hid.mk trivial
  have HBN := Hid.mk hbnd
  clear htf hbnd hlast
  have hbb : enterB σ d n = wrap64 (roomL n.nos + Nd.growth (.dir l z sl)) := by unfold enterB; rw [q5]
  have HBB := Hid.mk hbb
  have hE : enterE σ d n = if fitsB σ.G σ.I σ.D σ.inodes σ.blocks 1 (enterB σ d n) = true then 0 else 16 := by unfold enterE; rw [if_neg hc]
  have HE := Hid.mk hE
  have HT := Hid.mk hT
  have HNN := Hid.mk hN
  have hlk : n.kind = 2 → ¬ (32000 : Int) ≤ l := fun h2' hl => hc ⟨by rcases kind_two n with ⟨k, _⟩ | ⟨_, k⟩; exact k; omega, by rw [q5]; exact hl⟩
  have hk12 : n.kind = 2 ∨ n.kind = 1 := by rcases kind_two n with ⟨_, k⟩ | ⟨_, k⟩; exact .inl k; exact .inr k
  have REST : Hid (∀ wc : World, fitsB σ.G σ.I σ.D σ.inodes σ.blocks 1 (enterB σ d n) = true → TbAt wc t σ.G σ.I σ.D (locL Ls 0) (w64 (σ.inodes + 1)) (w64 (σ.blocks + enterB σ d n)) → Only (fun k => k = t) w wc → True) := Hid.mk (fun _ _ _ _ => trivial)
  clear REST hsp hs hL hll hln HV he hc hE hbb
  generalize hkd : n.kind = kd at *
  generalize hgr : Nd.growth (.dir l z sl) = gr at *
  unfold ptrV at *
  go_enter Tryz.func38, Tryz.ntmps38
  go_upto_region 7 with (first
      | (go_at_call 59; refine HS.out.mono ?_; rintro e' W1 ⟨ao, c, rfl, hSA, h1', h2', hB⟩; have HUU := Hid.mk (HU.out W1 ao c hB hSA h1' h2'); have HB := Hid.mk hB; clear hB hSA h1' h2')
      | (go_at_call 42; refine HUU.out.mono ?_; rintro e' W2 ⟨rfl, hB⟩; have HB2 := Hid.mk hB; clear hB))
  obtain ⟨X, hX⟩ : ∃ X, X = W2.alloc (.cells #[.pointer (some ⟨b, 0, none⟩), .string (mkS p), .pointer none] 73) := ⟨_, rfl⟩
  have hWX := HB.out.trans (HB2.out.mono HB.out.size)
  have hBX : Below w.heap.size w X := by rw [hX]; exact hWX.alloc hWX.size _
  have hsb : X.heap[W2.heap.size]? = some (.cells #[.pointer (some ⟨b, 0, none⟩), .string (mkS p), .pointer none] 73 (0, 0)) := by rw [hX]; exact blk_new W2 _
  have hsz : X.heap.size = W2.heap.size + 1 := by rw [hX]; simp
  rw [← hX]
  have hwsb : w.heap.size ≤ W2.heap.size := hWX.size
  generalize W2.heap.size = sb at *
  have x0 := blk_cell hsb 0
  have x1 := blk_cell hsb 1
  simp at x0 x1
  obtain ⟨g0, g1⟩ := HK.out X hBX
  have HSB := Hid.mk hsb
  have HBX := Hid.mk hBX
  clear hX hWX hBX hsb hsz HB HB2 HUU
  rcases hk12 with rfl | rfl
  · have hl' : l < 32000 := by have := hlk rfl; omega
    clear hlk hnk hOk hN hT
    go_upto_region 9 with fail
    go_cut [10] from 41 to 49 (fun s10 wc => Hid ((fitsB σ.G σ.I σ.D σ.inodes σ.blocks 1 (enterB σ d n) = false ∧ s10 = .int .i64 16 ∧ Below w.heap.size w wc ∧ Below X.heap.size X wc) ∨ (fitsB σ.G σ.I σ.D σ.inodes σ.blocks 1 (enterB σ d n) = true ∧ s10 = .int .i64 0 ∧ TbAt wc t σ.G σ.I σ.D (locL Ls 0) (w64 (σ.inodes + 1)) (w64 (σ.blocks + enterB σ d n)) ∧ Only (fun k => k = t) X wc)))
    case first =>
      have XB0 : Hid (Below w.heap.size w X.drew ∧ Below X.heap.size X X.drew) := Hid.mk ⟨HBX.out.drew, (Below.refl _ X).drew⟩
      have hTK2 : Hid (∀ W, Below w.heap.size w W ∧ Below X.heap.size X W → Calls Tryz.prog 43 #[.pointer (some ⟨t, 0, none⟩), .int .i64 1, .int .i64 (enterB σ d n)] W fun e w' => ∃ v, e = .returned v ∧ Hid ((fitsB σ.G σ.I σ.D σ.inodes σ.blocks 1 (enterB σ d n) = false ∧ v = .int .i64 16 ∧ Below w.heap.size w w' ∧ Below X.heap.size X w') ∨ (fitsB σ.G σ.I σ.D σ.inodes σ.blocks 1 (enterB σ d n) = true ∧ v = .int .i64 0 ∧ TbAt w' t σ.G σ.I σ.D (locL Ls 0) (w64 (σ.inodes + 1)) (w64 (σ.blocks + enterB σ d n)) ∧ Only (fun k => k = t) X w'))) := Hid.mk (fun W hW => (HTK.out W _ hW.1).mono (fun e w' h => by
        rcases h with ⟨h1, h2, h3⟩ | ⟨h1, h2, h3, h4⟩
        · exact ⟨_, h2, .inl ⟨h1, rfl, (two_below hW h3).1, (two_below hW h3).2⟩⟩
        · exact ⟨_, h2, .inr ⟨h1, rfl, h3, (Only.of_new (fun k => k = t) hW.2).trans h4 (fun i hi => .inl hi)⟩⟩))
      have hbw : IntKind.i64.wrap (roomL n.nos + gr) = enterB σ d n := by rw [HBB.out, wrap_eq]
      have HXS : Hid (∀ W, Below X.heap.size X W → W.cell? ⟨sb, 0, none⟩ = some (.pointer (some ⟨b, 0, none⟩))) := Hid.mk (fun W h => by rw [blk_cell ((h.block sb (lt_of_block HSB.out)).trans HSB.out)]; rfl)
      clear HTK HS HU HK HE HT HNN HDO HADD HFIN hns h1 h2 q1 q2 q3 hdn hdl hdk hdok q5 x1 hwsb g0 g1 HBB HBX
      go_region_with (first
        | (go_at_call 56; refine (HNO.out _ (by first | exact XB0.out.1 | exact XG.out.1)).mono ?_; rintro e' Wn ⟨ao', c', rfl, hown, hbn⟩; obtain ⟨ao2, c2, ev, hla⟩ := owns_lat hown; cases ev; have XN := Hid.mk (by first | exact two_below XB0.out hbn | exact two_below XG.out hbn); have LN := Hid.mk hla; have xn := HXS.out _ XN.out.2; clear hown hbn hla)
        | (go_at_call 57; refine (room_any _ _ _ _ n.nos (by first | exact LN.out | exact LN2.out) (by have := HLN.out; omega)).mono ?_; rintro e' Wr ⟨rfl, hbr⟩; have XR := Hid.mk (by first | exact two_below XN.out hbr | exact two_below XG.out hbr); have xr := HXS.out _ XR.out.2; clear hbr)
        | (go_at_call 44; refine (HGR.out _ (by first | exact XB0.out.1 | exact XN.out.1 | exact XR.out.1)).mono ?_; rintro e' Wg ⟨rfl, hbg⟩; have XG := Hid.mk (by first | exact two_below XB0.out hbg | exact two_below XN.out hbg | exact two_below XR.out hbg); (try (have LN2 := Hid.mk (LN.out.blw hbg))); have xg := HXS.out _ XG.out.2; clear hbg)
        | (go_at_call 43; (try rw [hbw]); refine (hTK2.out _ (by first | exact XR.out | exact XG.out)).mono ?_; rintro e' Wt ⟨v, rfl, hrel⟩))
      all_goals (go_wp2; go_meet; exact hrel)
    case rest =>
      rcases hcut.out with ⟨hf, rfl, hB1, hB2⟩ | ⟨hf, rfl, hTb, hO⟩
      · have HV : Hid (enterE σ d n = 16) := Hid.mk (by rw [HE.out, hf]; rfl)
        have HB1 := Hid.mk hB1
        clear hcut hB1 hB2 hf
        go_wp2
        go_ret
        unfold enterR
        rw [HV.out, if_neg (by decide)]
        exact ⟨rfl, Step.still HT.out (fun k hk => .inl hk) HB1.out⟩
      · have HV : Hid (enterE σ d n = 0) := Hid.mk (by rw [HE.out, hf]; rfl)
        have hsb2 : wc.heap[sb]? = some (.cells #[.pointer (some ⟨b, 0, none⟩), .string (mkS p), .pointer none] 73 (0, 0)) := (hO.block sb (lt_of_block HSB.out) (fun e => by have := lt_of_block HT.out.tree; omega)).trans HSB.out
        have y0 := blk_cell hsb2 0
        have y1 := blk_cell hsb2 1
        simp at y0 y1
        obtain ⟨hd1, hwo⟩ := HDO.out wc (Only.of_new (fun k => k = t) HBX.out |>.trans hO (fun i hi => .inl hi))
        have HAA := Hid.mk (HADD.out wc hd1)
        unfold ptrV strV at HAA
        have HSB2 := Hid.mk hsb2
        have HTB := Hid.mk hTb
        have HWO := Hid.mk hwo
        have HWC : Hid (Only (fun k => k = t) w wc) := Hid.mk ((Only.of_new (fun k => k = t) HBX.out).trans hO (fun i hi => .inl hi))
        have HCL : Hid (sb < wc.heap.size) := Hid.mk (lt_of_block hsb2)
        clear hcut hf hsb2 hTb hO hd1 hwo HADD HDO HBX HSB HNO HGR HTK HS HU HK x0 x1 g0 g1
        go_upto_region 13 with (go_at_call 45; refine HAA.out.mono ?_; rintro e' Wa ⟨rfl, r', c', z', s', ha, hda, hoa, hra⟩; have HA := Hid.mk ha; have HDA := Hid.mk hda; have HOA := Hid.mk hoa; have HRA := Hid.mk hra; clear ha hda hoa hra)
        have k0 := HWO.out Wa HOA.out
        have hsb3 : Wa.heap[sb]? = some (.cells #[.pointer (some ⟨b, 0, none⟩), .string (mkS p), .pointer none] 73 (0, 0)) := (HOA.out.block sb HCL.out (fun e => by
          have f1 := HT.out.lt b (mem_feet q1 (by simp [Lay.foot]))
          have f2 := HT.out.lt m' (mem_feet q1 (by simp [Lay.foot]))
          have f3 := HT.out.lt r (mem_feet q1 (by simp [Lay.foot]))
          rcases e with e | e | e <;> omega)).trans HSB2.out
        have u0 := blk_cell hsb3 0
        simp at u0
        have v1 := blk_cell HDA.out.node 1
        have w1 := blk_free HDA.out.node 1
        simp at v1
        clear hsb3
        go_wp2
        go_ret
        unfold enterR
        rw [HV.out, if_pos rfl]
        refine ⟨rfl, ?_⟩
        have hra := HRA.out
        refine enter_fin HT.out HNN.out hns h1 h2 q1 q2 p HA.out (c' := c') (l' := w64 (l + 1)) ?_ ?_ (hra.imp id (fun h => Nat.le_trans HWC.out.size h.1)) ?_ ?_
        · rw [if_pos (by rcases kind_two n with ⟨k, _⟩ | ⟨_, k⟩; exact k; omega)]
        · refine HDA.out.links ?_ _
          have hb1 := HBN.out
          rcases hra with rfl | hra
          · exact hb1
          · have f1 := HT.out.lt b (mem_feet q1 (by simp [Lay.foot]))
            have f2 := HT.out.lt m' (mem_feet q1 (by simp [Lay.foot]))
            have f3 := HWC.out.size
            simp at hb1 ⊢
            exact ⟨⟨hb1.1.1, by omega⟩, by omega⟩
        · have h3 := (HOA.out.block t (lt_of_block HTB.out) (fun e => HTN.out e)).trans HTB.out
          unfold TbAt
          rw [Below.heap_setCell _ _ _ _ (fun e => HTN.out (.inl e))]
          exact h3
        · refine ((HWC.out.mono (fun i _ hi => .inl hi)).trans HOA.out (fun i hi => .inl (.inr hi))).setCell (p := ⟨b, 1, none⟩) (.inl (.inr (.inl rfl))) _
  · clear hlk hnk hOk hN hT
    go_upto_region 9 with fail
    go_cut [10] from 41 to 49 (fun s10 wc => Hid ((fitsB σ.G σ.I σ.D σ.inodes σ.blocks 1 (enterB σ d n) = false ∧ s10 = .int .i64 16 ∧ Below w.heap.size w wc ∧ Below X.heap.size X wc) ∨ (fitsB σ.G σ.I σ.D σ.inodes σ.blocks 1 (enterB σ d n) = true ∧ s10 = .int .i64 0 ∧ TbAt wc t σ.G σ.I σ.D (locL Ls 0) (w64 (σ.inodes + 1)) (w64 (σ.blocks + enterB σ d n)) ∧ Only (fun k => k = t) X wc)))
    case first =>
      have XB0 : Hid (Below w.heap.size w X.drew ∧ Below X.heap.size X X.drew) := Hid.mk ⟨HBX.out.drew, (Below.refl _ X).drew⟩
      have hTK2 : Hid (∀ W, Below w.heap.size w W ∧ Below X.heap.size X W → Calls Tryz.prog 43 #[.pointer (some ⟨t, 0, none⟩), .int .i64 1, .int .i64 (enterB σ d n)] W fun e w' => ∃ v, e = .returned v ∧ Hid ((fitsB σ.G σ.I σ.D σ.inodes σ.blocks 1 (enterB σ d n) = false ∧ v = .int .i64 16 ∧ Below w.heap.size w w' ∧ Below X.heap.size X w') ∨ (fitsB σ.G σ.I σ.D σ.inodes σ.blocks 1 (enterB σ d n) = true ∧ v = .int .i64 0 ∧ TbAt w' t σ.G σ.I σ.D (locL Ls 0) (w64 (σ.inodes + 1)) (w64 (σ.blocks + enterB σ d n)) ∧ Only (fun k => k = t) X w'))) := Hid.mk (fun W hW => (HTK.out W _ hW.1).mono (fun e w' h => by
        rcases h with ⟨h1, h2, h3⟩ | ⟨h1, h2, h3, h4⟩
        · exact ⟨_, h2, .inl ⟨h1, rfl, (two_below hW h3).1, (two_below hW h3).2⟩⟩
        · exact ⟨_, h2, .inr ⟨h1, rfl, h3, (Only.of_new (fun k => k = t) hW.2).trans h4 (fun i hi => .inl hi)⟩⟩))
      have hbw : IntKind.i64.wrap (roomL n.nos + gr) = enterB σ d n := by rw [HBB.out, wrap_eq]
      have HXS : Hid (∀ W, Below X.heap.size X W → W.cell? ⟨sb, 0, none⟩ = some (.pointer (some ⟨b, 0, none⟩))) := Hid.mk (fun W h => by rw [blk_cell ((h.block sb (lt_of_block HSB.out)).trans HSB.out)]; rfl)
      clear HTK HS HU HK HE HT HNN HDO HADD HFIN hns h1 h2 q1 q2 q3 hdn hdl hdk hdok q5 x1 hwsb g0 g1 HBB HBX
      go_region_with (first
        | (go_at_call 56; refine (HNO.out _ (by first | exact XB0.out.1 | exact XG.out.1)).mono ?_; rintro e' Wn ⟨ao', c', rfl, hown, hbn⟩; obtain ⟨ao2, c2, ev, hla⟩ := owns_lat hown; cases ev; have XN := Hid.mk (by first | exact two_below XB0.out hbn | exact two_below XG.out hbn); have LN := Hid.mk hla; have xn := HXS.out _ XN.out.2; clear hown hbn hla)
        | (go_at_call 57; refine (room_any _ _ _ _ n.nos (by first | exact LN.out | exact LN2.out) (by have := HLN.out; omega)).mono ?_; rintro e' Wr ⟨rfl, hbr⟩; have XR := Hid.mk (by first | exact two_below XN.out hbr | exact two_below XG.out hbr); have xr := HXS.out _ XR.out.2; clear hbr)
        | (go_at_call 44; refine (HGR.out _ (by first | exact XB0.out.1 | exact XN.out.1 | exact XR.out.1)).mono ?_; rintro e' Wg ⟨rfl, hbg⟩; have XG := Hid.mk (by first | exact two_below XB0.out hbg | exact two_below XN.out hbg | exact two_below XR.out hbg); (try (have LN2 := Hid.mk (LN.out.blw hbg))); have xg := HXS.out _ XG.out.2; clear hbg)
        | (go_at_call 43; (try rw [hbw]); refine (hTK2.out _ (by first | exact XR.out | exact XG.out)).mono ?_; rintro e' Wt ⟨v, rfl, hrel⟩))
      all_goals (go_wp2; go_meet; exact hrel)
    case rest =>
      rcases hcut.out with ⟨hf, rfl, hB1, hB2⟩ | ⟨hf, rfl, hTb, hO⟩
      · have HV : Hid (enterE σ d n = 16) := Hid.mk (by rw [HE.out, hf]; rfl)
        have HB1 := Hid.mk hB1
        clear hcut hB1 hB2 hf
        go_wp2
        go_ret
        unfold enterR
        rw [HV.out, if_neg (by decide)]
        exact ⟨rfl, Step.still HT.out (fun k hk => .inl hk) HB1.out⟩
      · have HV : Hid (enterE σ d n = 0) := Hid.mk (by rw [HE.out, hf]; rfl)
        have hsb2 : wc.heap[sb]? = some (.cells #[.pointer (some ⟨b, 0, none⟩), .string (mkS p), .pointer none] 73 (0, 0)) := (hO.block sb (lt_of_block HSB.out) (fun e => by have := lt_of_block HT.out.tree; omega)).trans HSB.out
        have y0 := blk_cell hsb2 0
        have y1 := blk_cell hsb2 1
        simp at y0 y1
        obtain ⟨hd1, hwo⟩ := HDO.out wc (Only.of_new (fun k => k = t) HBX.out |>.trans hO (fun i hi => .inl hi))
        have HAA := Hid.mk (HADD.out wc hd1)
        unfold ptrV strV at HAA
        have HSB2 := Hid.mk hsb2
        have HTB := Hid.mk hTb
        have HWO := Hid.mk hwo
        have HWC : Hid (Only (fun k => k = t) w wc) := Hid.mk ((Only.of_new (fun k => k = t) HBX.out).trans hO (fun i hi => .inl hi))
        have HCL : Hid (sb < wc.heap.size) := Hid.mk (lt_of_block hsb2)
        clear hcut hf hsb2 hTb hO hd1 hwo HADD HDO HBX HSB HNO HGR HTK HS HU HK x0 x1 g0 g1
        go_upto_region 13 with (go_at_call 45; refine HAA.out.mono ?_; rintro e' Wa ⟨rfl, r', c', z', s', ha, hda, hoa, hra⟩; have HA := Hid.mk ha; have HDA := Hid.mk hda; have HOA := Hid.mk hoa; have HRA := Hid.mk hra; clear ha hda hoa hra)
        have k0 := HWO.out Wa HOA.out
        have hsb3 : Wa.heap[sb]? = some (.cells #[.pointer (some ⟨b, 0, none⟩), .string (mkS p), .pointer none] 73 (0, 0)) := (HOA.out.block sb HCL.out (fun e => by
          have f1 := HT.out.lt b (mem_feet q1 (by simp [Lay.foot]))
          have f2 := HT.out.lt m' (mem_feet q1 (by simp [Lay.foot]))
          have f3 := HT.out.lt r (mem_feet q1 (by simp [Lay.foot]))
          rcases e with e | e | e <;> omega)).trans HSB2.out
        have u0 := blk_cell hsb3 0
        simp at u0
        have v1 := blk_cell HDA.out.node 1
        have w1 := blk_free HDA.out.node 1
        simp at v1
        clear hsb3
        go_wp2
        go_ret
        unfold enterR
        rw [HV.out, if_pos rfl]
        refine ⟨rfl, ?_⟩
        have hra := HRA.out
        refine enter_fin HT.out HNN.out hns h1 h2 q1 q2 p HA.out (c' := c') (l' := l) ?_ ?_ (hra.imp id (fun h => Nat.le_trans HWC.out.size h.1)) ?_ ?_
        · rw [if_neg (by rcases kind_two n with ⟨_, k⟩ | ⟨k, _⟩; omega; rw [k]; decide)]
        · exact HDA.out
        · exact (HOA.out.block t (lt_of_block HTB.out) (fun e => HTN.out e)).trans HTB.out
        · exact (HWC.out.mono (fun i _ hi => .inl hi)).trans HOA.out (fun i hi => .inl (.inr hi))
end Go.Proofs.YtehaoeclnmelhabGreat
