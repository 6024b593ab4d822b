/-
  The root is taken in.
-/
import Derived.Test.YtejnmpnioeamhaaGreatWhCut
namespace Go.Proofs.YtejnmpnioeamhaaGreat
open Go Go.Proofs Go.RowKit Go.Shelf
namespace Mk
open Sup (superL headL maskL nI nD bD)
open Din (inoL fineL inoV NAt)
open Ent (blockL okB EAt Ey entV noS noE)
/-- So many times no inode. -/
def nils (n : Nat) : List Value := List.replicate n (.pointer none)
theorem nils_length (n : Nat) : (nils n).length = n := by simp [nils]
theorem nils_get (n i : Nat) (h : i < n) : (nils n)[i]? = some (.pointer none) := by simp [nils, h]
/-- A repair with the root taken in. -/
structure TnAt (p : Rp) (n nb nt : Nat) (G I D : Int) (xs : List Int) (t gl c go co : Nat) (dir : Value) (W : World) : Prop where
  rp : RpAt p n nb nt G I D xs (.slice (some ⟨go, 0, none⟩) 1 co) ((fals nb).set 0 (.bool true)) ((nils nt).set 1 (.pointer (some ⟨t, 0, none⟩))) W
  tk : TkAt t (rootL I) dir 1 (.slice (some ⟨gl, 0, none⟩) 1 c) W
  lead : LAt W (some ⟨gl, 0, none⟩) 1 [2 + I]
  ord : LAt W (some ⟨go, 0, none⟩) 1 [1]
  ne : p.d ≠ t ∧ p.g ≠ t ∧ p.r ≠ t ∧ p.cb ≠ t ∧ p.tb ≠ t
  nl : gl ≠ t
  no : go ≠ t
theorem TnAt.new {p : Rp} {n nb nt : Nat} {G I D : Int} {xs : List Int} {t gl c go co : Nat} {dir : Value} {W W' : World} (h : TnAt p n nb nt G I D xs t gl c go co dir W) (hB : Below W.heap.size W W') : TnAt p n nb nt G I D xs t gl c go co dir W' :=
  ⟨h.rp.new hB, h.tk.new hB, h.lead.below hB (h.lead.lt (by omega)), h.ord.below hB (h.ord.lt (by omega)), h.ne, h.nl, h.no⟩
theorem TnAt.drew {p : Rp} {n nb nt : Nat} {G I D : Int} {xs : List Int} {t gl c go co : Nat} {dir : Value} {W : World} (h : TnAt p n nb nt G I D xs t gl c go co dir W) : TnAt p n nb nt G I D xs t gl c go co dir W.drew :=
  ⟨⟨⟨h.rp.dk.dk, h.rp.dk.row⟩, h.rp.rep, h.rp.cla, h.rp.tab, h.rp.ap⟩, h.tk, h.lead, h.ord, h.ne, h.nl, h.no⟩
/-- Its blocks' entries are set. -/
theorem TnAt.dirs {p : Rp} {n nb nt : Nat} {G I D : Int} {xs : List Int} {t gl c go co : Nat} {dir : Value} {W : World} (h : TnAt p n nb nt G I D xs t gl c go co dir W) (v : Value) : TnAt p n nb nt G I D xs t gl c go co v (W.setCell ⟨t, 13, none⟩ v) := by
  have ho := set_only W t 13 v
  exact ⟨h.rp.only ho h.ne.1 h.ne.2.1 h.ne.2.2.1 h.ne.2.2.2.1 h.ne.2.2.2.2, tak_dir h.tk v, h.lead.only ho (fun a e _ => by cases e; exact h.nl), h.ord.only ho (fun a e _ => by cases e; exact h.no), h.ne, h.nl, h.no⟩
theorem take_mid {w w1 w2 : World} {p : Rp} {n nb nt : Nat} {G I D : Int} {xs : List Int} {t b : Nat} (hB1 : Below w.heap.size w w1) (hr1 : RpAt p n nb nt G I D xs (.slice none 0 0) (fals nb) (nils nt) w1) (hrp : RpAt p n nb nt G I D xs (.slice none 0 0) ((fals nb).set 0 (.bool true)) (nils nt) w2) (htk : TkAt t (rootL I) (.slice none 0 0) 0 (.slice none 0 0) w2) (hon : Only (fun k => k = p.cb) w1 w2) (hge : w1.heap.size ≤ t) (hna : NAt b (rootL I) w1) (hbc : b ≠ p.cb) :
    CuAt (w2.setCell ⟨t, 14, none⟩ (.int .i64 1)) p n nb nt G I D xs (.slice none 0 0) ((fals nb).set 0 (.bool true)) (nils nt) t 1 (.slice none 0 0) (w2.setCell ⟨t, 14, none⟩ (.int .i64 1)) ∧ Only (fun k => k = p.cb) w (w2.setCell ⟨t, 14, none⟩ (.int .i64 1)) ∧ NAt b (rootL I) (w2.setCell ⟨t, 14, none⟩ (.int .i64 1)) ∧ w.heap.size ≤ t := by
  have h1 := hr1.dk.lt
  have h2 := hr1.dk.row.lt
  have h3 := lt_of_block hr1.rep
  have h4 := lt_of_block hr1.cla
  have h5 := lt_of_block hr1.tab
  have h6 := hna.lt
  have h7 := hB1.size
  have ho := set_only w2 t 14 (.int .i64 1)
  have hO2 : Only (fun k => k = p.cb) w w2 := (Only.of_new (fun k => k = p.cb) hB1).trans hon (fun i e => .inl e)
  exact ⟨⟨hrp.only ho (by omega) (by omega) (by omega) (by omega) (by omega), tak_up htk 1, Only.refl _ _, by omega, by omega, by omega, by omega, by omega⟩, hO2.setCell (p := ⟨t, 14, none⟩) (.inr (by show w.heap.size ≤ t; omega)) _, (hna.only hon hbc).only ho (by omega), by omega⟩
theorem take_end {w w3 w4 : World} {p : Rp} {n nb nt : Nat} {G I D : Int} {xs : List Int} {t gl c : Nat} (hon : Only (fun k => k = p.cb) w w3) (hlt : w.heap.size ≤ t) (hc : CuAt w3 p n nb nt G I D xs (.slice none 0 0) ((fals nb).set 0 (.bool true)) (nils nt) t 1 (.slice (some ⟨gl, 0, none⟩) 1 c) w4) (hla : LAt w4 (some ⟨gl, 0, none⟩) 1 [2 + I]) (hge : w3.heap.size ≤ gl) (hnt : 2 ≤ nt) (hc3 : CuAt w3 p n nb nt G I D xs (.slice none 0 0) ((fals nb).set 0 (.bool true)) (nils nt) t 1 (.slice none 0 0) w3) :
    ∃ go co W6, (Builtin.append_ #[31, 31] 31 #[.slice none 0 0, .slice (some ⟨w4.heap.size, 0, none⟩) 1 1]).run Tryz.prog ((w4.setCell ⟨t, 1, none⟩ (.int .i64 2)).alloc (.cells #[.int .i64 1] 3)) = .ok (.slice (some ⟨go, 0, none⟩) 1 co) W6 ∧
    (w4.setCell ⟨t, 1, none⟩ (.int .i64 2)).cell? ⟨p.r, 3, none⟩ = some (.slice none 0 0) ∧ W6.cell? ⟨p.r, 3, none⟩ = some (.slice none 0 0) ∧ W6.frozen? ⟨p.r, 3, none⟩ = false ∧ (W6.setCell ⟨p.r, 3, none⟩ (.slice (some ⟨go, 0, none⟩) 1 co)).cell? ⟨p.r, 2, none⟩ = some (.slice (some ⟨p.tb, 0, none⟩) nt nt) ∧
    (W6.setCell ⟨p.r, 3, none⟩ (.slice (some ⟨go, 0, none⟩) 1 co)).cell? ⟨p.tb, 1, none⟩ = some (.pointer none) ∧ (W6.setCell ⟨p.r, 3, none⟩ (.slice (some ⟨go, 0, none⟩) 1 co)).frozen? ⟨p.tb, 1, none⟩ = false ∧
    TnAt p n nb nt G I D xs t gl c go co (.slice none 0 0) ((W6.setCell ⟨p.r, 3, none⟩ (.slice (some ⟨go, 0, none⟩) 1 co)).setCell ⟨p.tb, 1, none⟩ (.pointer (some ⟨t, 0, none⟩))) ∧
    Only (fun k => k = p.cb ∨ k = p.tb ∨ k = p.r) w ((W6.setCell ⟨p.r, 3, none⟩ (.slice (some ⟨go, 0, none⟩) 1 co)).setCell ⟨p.tb, 1, none⟩ (.pointer (some ⟨t, 0, none⟩))) := by
  have h3t := hc3.tk.lt
  have hr3lt := lt_of_block hc3.rp.rep
  have htb3 := lt_of_block hc3.rp.tab
  have hc5 := hc.put 1 (.int .i64 2) (tak_same hc.tk 1 (by omega) 2 rfl)
  have hs5 : (w4.setCell ⟨t, 1, none⟩ (.int .i64 2)).heap.size = w4.heap.size := by simp [World.setCell]
  have hla5 := hla.only (set_only w4 t 1 (.int .i64 2)) (fun a e _ => by cases e; show gl ≠ t; omega)
  obtain ⟨go, co, W6, r6, l6, g6, b6⟩ := append_new (w4.setCell ⟨t, 1, none⟩ (.int .i64 2)) 1
  rw [hs5] at r6 g6
  have hc6 := hc5.new b6
  have hla6 := hla5.below b6 (hla5.lt (by omega))
  have hgl := hla.lt (by omega)
  have ht4 := hc.tk.lt
  have hr4 := lt_of_block hc.rp.rep
  have htb4 := lt_of_block hc.rp.tab
  have hr5 := hc6.rp.order (.slice (some ⟨go, 0, none⟩) 1 co)
  have hr6 := hr5.table 1 (.pointer (some ⟨t, 0, none⟩))
  have o1 := set_only W6 p.r 3 (.slice (some ⟨go, 0, none⟩) 1 co)
  have o2 := set_only (W6.setCell ⟨p.r, 3, none⟩ (.slice (some ⟨go, 0, none⟩) 1 co)) p.tb 1 (.pointer (some ⟨t, 0, none⟩))
  have hne := hc.ne
  refine ⟨go, co, W6, r6, hc5.rp.cells.2.2.2.1, hc6.rp.cells.2.2.2.1, blk_free hc6.rp.rep 3, hr5.cells.2.2.1, ?_, blk_free hr5.tab 1, ⟨hr6, ?_, ?_, ?_, hc.ne, by omega, by omega⟩, ?_⟩
  · rw [blk_cell hr5.tab, List.getElem?_toArray]
    exact nils_get _ _ (by omega)
  · exact (hc6.tk.only o1 hne.2.2.1.symm).only o2 hne.2.2.2.2.symm
  · exact (hla6.only o1 (fun a e _ => by cases e; show gl ≠ p.r; omega)).only o2 (fun a e _ => by cases e; show gl ≠ p.tb; omega)
  · exact (l6.only o1 (fun a e _ => by cases e; show go ≠ p.r; omega)).only o2 (fun a e _ => by cases e; show go ≠ p.tb; omega)
  · have hw4 : Only (fun k => k = p.cb ∨ k = p.tb ∨ k = p.r) w W6 := ((hon.mono (fun _ _ h => .inl h)).trans hc6.only (fun i e => .inr (by omega)))
    exact (hw4.setCell (p := ⟨p.r, 3, none⟩) (.inl (.inr (.inr rfl))) _).setCell (p := ⟨p.tb, 1, none⟩) (.inl (.inr (.inl rfl))) _
set_option maxRecDepth 100000 in
set_option maxHeartbeats 8000000 in
theorem take_root (w : World) (p : Rp) (n nb nt : Nat) (G I D : Int) (hg : good G I D = true) (hnb : 8 ≤ nb ∧ nb ≤ 8000) (hnt : 2 ≤ nt ∧ nt ≤ 1000) (xs : List Int) (hx : ImgIs G I D xs) (hn : n = totN G I D * 1024) (h : RpAt p n nb nt G I D xs (.slice none 0 0) (fals nb) (nils nt) w) :
    Calls Tryz.prog 80 #[.pointer (some ⟨p.r, 0, none⟩), .int .i64 1, .int .i64 1] w fun e w' => e = .returned (.bool true) ∧ (∃ t gl c go co, TnAt p n nb nt G I D xs t gl c go co (.slice none 0 0) w' ∧ w.heap.size ≤ t) ∧ Only (fun k => k = p.cb ∨ k = p.tb ∨ k = p.r) w w' := by
  have hb := good_iff.1 hg
  have HI := Hid.mk (fun W hd => dinode_one W p.d p.g n G I D hg xs hd hx hn)
  have HCL := Hid.mk (fun W hrp => clean_root W p n nb nt G I D hg hnb xs (.slice none 0 0) (nils nt) hrp)
  have HCU := Hid.mk (fun W t hcu => cut_root W p n nb nt G I D (by omega) xs (.slice none 0 0) ((fals nb).set 0 (.bool true)) (nils nt) t 1 hcu)
  obtain ⟨r0, r1, r2, r3, r4⟩ := h.cells
  have HR0 := Hid.mk h
  obtain ⟨hnt2, hnt3⟩ := hnt
  clear h hg hx hn hb hnb
  go_enter Tryz.func80, Tryz.ntmps80
  go_wp2_with (first
    | (go_at_call 19; refine (HI.out _ HR0.out.dk).mono ?_; rintro e w1 ⟨rfl, hB1⟩; obtain ⟨X1, Y1, b1, hrX, hrY, hNY, hBY, hb1⟩ := Din.var24 w1 (rootL I) rfl; have HBC : Hid (b1 ≠ p.cb) := Hid.mk (by have h1 := lt_of_block HR0.out.cla; have h2 := hB1.size; omega); have HR1 := Hid.mk ((HR0.out.new hB1).new hBY); have HRX := Hid.mk hrX; have HRY := Hid.mk hrY; have HNY := Hid.mk hNY; have HB1 := Hid.mk (hB1.trans (hBY.mono hB1.size)); clear hrX hrY hNY hBY hB1 hb1 r0 r1 r2 r3 r4)
    | (refine Din.wpL_alloc rfl rfl _ X1 HRX.out ?_)
    | (refine Din.wpL_store (.tmp 7) (.tmp 17) rfl rfl _ _ Y1 rfl rfl HRY.out ?_)
    | (refine Din.wpL_load (.tmp 7) rfl rfl b1 (rootL I) rfl HNY.out rfl ?_)
    | (go_at_call 96; refine (HCL.out _ HR1.out).mono ?_; rintro e w2 ⟨t, rfl, hrp, htk, hon, hge⟩; obtain ⟨c0, c1, c2, c3, c4, c5, c6, c7, cf, ck⟩ := tak_root htk; have cf14 := cf 14; obtain ⟨hcu, hon3, hna3, hlt3⟩ := take_mid HB1.out HR1.out hrp htk hon hge HNY.out HBC.out; obtain ⟨n0, n1, n2, n3, n4, n5⟩ := nat_root hna3; have HCU3 := Hid.mk hcu; have HON3 := Hid.mk hon3; have HLT := Hid.mk hlt3; clear hrp htk hon hge ck cf hcu hon3 hna3 hlt3)
    | (go_at_call 97; refine (HCU.out _ t HCU3.out).mono ?_; rintro e w4 ⟨gl, c, rfl, hcu4, hla4, hge4⟩; obtain ⟨k0, k1, k2, k3, k4, k5, k6, k7, kf, kk⟩ := tak_root hcu4.tk; have kf1 := kf 1; obtain ⟨go, co, W6, r6, q0, q1, f6, q2, s0, s1, htn, hon6⟩ := take_end HON3.out HLT.out hcu4 hla4 hge4 hnt2 HCU3.out; have HR6 := Hid.mk r6; have HTN := Hid.mk htn; have HON6 := Hid.mk hon6; clear hcu4 hla4 hge4 kk kf r6 htn hon6)
    | (at_builtin; refine wpList_append_known rfl (.tmp 46) (.tmp 48) 31 rfl _ _ _ _ rfl rfl HR6.out ?_))
  go_ret
  exact ⟨rfl, ⟨t, gl, c, go, co, HTN.out, HLT.out⟩, HON6.out⟩
set_option maxRecDepth 100000 in
set_option maxHeartbeats 8000000 in
theorem root_root (w : World) (p : Rp) (n nb nt : Nat) (G I D : Int) (hg : good G I D = true) (hnb : 8 ≤ nb ∧ nb ≤ 8000) (hnt : 2 ≤ nt ∧ nt ≤ 1000) (xs : List Int) (hx : ImgIs G I D xs) (hn : n = totN G I D * 1024) (h : RpAt p n nb nt G I D xs (.slice none 0 0) (fals nb) (nils nt) w) :
    Calls Tryz.prog 51 #[.pointer (some ⟨p.r, 0, none⟩)] w fun e w' => e = .returned (.tuple #[]) ∧ (∃ t gl c go co, TnAt p n nb nt G I D xs t gl c go co (.slice none 0 0) w' ∧ w.heap.size ≤ t) ∧ Only (fun k => k = p.cb ∨ k = p.tb ∨ k = p.r) w w' := by
  have HI := Hid.mk (fun W hd => dinode_one W p.d p.g n G I D hg xs hd hx hn)
  have HTK := Hid.mk (fun W hrp => take_root W p n nb nt G I D hg hnb hnt xs hx hn hrp)
  have HC : Hid (∀ W : World, DkAt p.d p.g n G I D xs W → Calls Tryz.prog 43 #[.pointer (some ⟨p.d, 0, none⟩), .int .i64 (2 + I)] W fun e w' => e = .returned (.bool true) ∧ Below W.heap.size W w') := Hid.mk (fun W hd => by
    have h := ddata_any W p.d p.g n G I D xs hd (2 + I)
    rwa [(do_root hg).1] at h)
  obtain ⟨r0, r1, r2, r3, r4⟩ := h.cells
  have HR0 := Hid.mk h
  clear h hg hx hn hnb hnt
  go_enter Tryz.func51, Tryz.ntmps51
  go_wp2_with (first
    | (go_at_call 19; refine (HI.out _ HR0.out.dk).mono ?_; rintro e w1 ⟨rfl, hB1⟩; obtain ⟨X1, Y1, b1, hrX, hrY, hNY, hBY⟩ := var_root w1 I; have HR1 := Hid.mk ((HR0.out.new hB1).new hBY); have HRX := Hid.mk hrX; have HRY := Hid.mk hrY; have HNY := Hid.mk hNY; have HB1 := Hid.mk (hB1.trans (hBY.mono hB1.size)); clear hrX hrY hNY hBY hB1 r0 r1 r2 r3 r4)
    | (refine Din.wpL_alloc rfl rfl _ X1 HRX.out ?_)
    | (refine Din.wpL_store (.tmp 2) (.tmp 13) rfl rfl _ _ Y1 rfl rfl HRY.out ?_))
  have HK : Hid (∀ W' : World, Below Y1.heap.size Y1.drew W' → (RpAt p n nb nt G I D xs (.slice none 0 0) (fals nb) (nils nt) W' ∧ NAt b1 (rootL I) W') ∧ Below w.heap.size w W') := Hid.mk (fun W' hB => by
    have h1 : RpAt p n nb nt G I D xs (.slice none 0 0) (fals nb) (nils nt) Y1.drew := ⟨⟨HR1.out.dk.dk, HR1.out.dk.row⟩, HR1.out.rep, HR1.out.cla, HR1.out.tab, HR1.out.ap⟩
    have h2 : NAt b1 (rootL I) Y1.drew := HNY.out
    exact ⟨⟨RpAt.new (W := Y1.drew) h1 hB, NAt.below (W := Y1.drew) h2 hB HNY.out.lt⟩, HB1.out.drew.trans (hB.mono HB1.out.size)⟩)
  refine wp_region_held_drew (S := fun W => RpAt p n nb nt G I D xs (.slice none 0 0) (fals nb) (nils nt) W ∧ NAt b1 (rootL I) W) (by kernel_rfl) (HK.out _ (Below.refl _ _)).1 (fun hH => ?_)
  change wpAnyH Tryz.prog Region.Mode.any _ _ _ 9 _ _ _
  refine takeH 0 15 (.pointer (some ⟨p.r, 0, none⟩)) rfl (by kernel_rfl) (by kernel_rfl) (by kernel_rfl) (by kernel_rfl) (fun _ _ _ h => h) (by kernel_rfl) (fun w hw => by kernel_rfl) hH ?_
  simp only [List.setIfInBounds_toArray, List.set_cons_zero, List.set_cons_succ]
  refine takeH 1 16 (.pointer (some ⟨p.r, 0, none⟩)) rfl (by kernel_rfl) (by kernel_rfl) (by kernel_rfl) (by kernel_rfl) (fun _ _ _ h => h) (by kernel_rfl) (fun w hw => by kernel_rfl) hH ?_
  simp only [List.setIfInBounds_toArray, List.set_cons_zero, List.set_cons_succ]
  refine takeH 2 17 (.pointer (some ⟨p.r, 0, none⟩)) rfl (by kernel_rfl) (by kernel_rfl) (by kernel_rfl) (by kernel_rfl) (fun _ _ _ h => h) (by kernel_rfl) (fun w hw => by (obtain ⟨r0, r1, r2, r3, r4⟩ := hw.1.cells; obtain ⟨c0, c1, c2, c3, c4, c5⟩ := nat_root hw.2; clear hw; go_simp)) hH ?_
  simp only [List.setIfInBounds_toArray, List.set_cons_zero, List.set_cons_succ]
  refine takeH 3 18 (.pointer (some ⟨p.d, 0, none⟩)) rfl (by kernel_rfl) (by kernel_rfl) (by kernel_rfl) (by kernel_rfl) (fun _ _ _ h => h) (by kernel_rfl) (fun w hw => by (obtain ⟨r0, r1, r2, r3, r4⟩ := hw.1.cells; obtain ⟨c0, c1, c2, c3, c4, c5⟩ := nat_root hw.2; clear hw; go_simp)) hH ?_
  simp only [List.setIfInBounds_toArray, List.set_cons_zero, List.set_cons_succ]
  refine takeH 4 19 (.pointer (some ⟨b1, 3, none⟩)) rfl (by kernel_rfl) (by kernel_rfl) (by kernel_rfl) (by kernel_rfl) (fun _ _ _ h => h) (by kernel_rfl) (fun w hw => by (obtain ⟨r0, r1, r2, r3, r4⟩ := hw.1.cells; obtain ⟨c0, c1, c2, c3, c4, c5⟩ := nat_root hw.2; clear hw; go_simp)) hH ?_
  simp only [List.setIfInBounds_toArray, List.set_cons_zero, List.set_cons_succ]
  refine takeH 5 20 (.pointer (some ⟨b1, 3, none⟩)) rfl (by kernel_rfl) (by kernel_rfl) (by kernel_rfl) (by kernel_rfl) (fun _ _ _ h => h) (by kernel_rfl) (fun w hw => by (obtain ⟨r0, r1, r2, r3, r4⟩ := hw.1.cells; obtain ⟨c0, c1, c2, c3, c4, c5⟩ := nat_root hw.2; clear hw; go_simp)) hH ?_
  simp only [List.setIfInBounds_toArray, List.set_cons_zero, List.set_cons_succ]
  refine takeH 6 21 (.int .i64 (2 + I)) rfl (by kernel_rfl) (by kernel_rfl) (by kernel_rfl) (by kernel_rfl) (fun _ _ _ h => h) (by kernel_rfl) (fun w hw => by (obtain ⟨r0, r1, r2, r3, r4⟩ := hw.1.cells; obtain ⟨c0, c1, c2, c3, c4, c5⟩ := nat_root hw.2; clear hw; go_simp)) hH ?_
  simp only [List.setIfInBounds_toArray, List.set_cons_zero, List.set_cons_succ]
  refine stepH_call 7 22 rfl (by kernel_rfl) (by kernel_rfl) (by kernel_rfl) 43 #[.tmp 18, .tmp 21] #[48, 3] (by kernel_rfl) (enters_of Tryz.func43 (by kernel_rfl) rfl) #[.pointer (some ⟨p.d, 0, none⟩), .int .i64 (2 + I)] (by kernel_rfl) (HC.out _ hH.1.dk) ?_
  rintro e w2 ⟨rfl, hB2⟩
  have HS2 := Hid.mk (HK.out w2 hB2).1
  have HB2 := Hid.mk (HK.out w2 hB2).2
  clear HK hH hB2
  refine ⟨_, rfl, HS2.out, ?_⟩
  simp only [List.setIfInBounds_toArray, List.set_cons_zero, List.set_cons_succ]
  refine takeH 8 4 (.bool true) rfl (by kernel_rfl) (by kernel_rfl) (by kernel_rfl) (by kernel_rfl) (fun _ _ _ h => h) (by kernel_rfl) (fun w hw => by kernel_rfl) HS2.out ?_
  simp only [List.setIfInBounds_toArray, List.set_cons_zero, List.set_cons_succ]
  refine wpAnyH_done (by kernel_rfl) ?_ _
  obtain ⟨c0, c1, c2, c3, c4, c5⟩ := nat_root HS2.out.2
  go_wp2_with (go_at_call 80; refine (HTK.out _ HS2.out.1).mono ?_; rintro e w3 ⟨rfl, htn, hon⟩; have HTN := Hid.mk htn; have HON := Hid.mk hon; clear htn hon)
  first | go_end0 | refine bodyPost_ret (results_none rfl _ _ _) rfl ?_
  obtain ⟨t, gl, c, go, co, h1, h2⟩ := HTN.out
  exact ⟨rfl, ⟨t, gl, c, go, co, h1, Nat.le_trans HB2.out.size h2⟩, (Only.of_new _ HB2.out).trans HON.out (fun i e => .inl e)⟩
end Mk
end Go.Proofs.YtejnmpnioeamhaaGreat
