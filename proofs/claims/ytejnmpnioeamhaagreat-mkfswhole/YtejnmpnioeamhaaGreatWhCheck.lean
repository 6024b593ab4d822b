/-
  Check of an empty file system: 0.
-/
import Derived.Test.YtejnmpnioeamhaaGreatWhLeast
namespace Go.Proofs.YtejnmpnioeamhaaGreat
open Go Go.Proofs Go.RowKit Go.Shelf
namespace Mk
open Sup (superL headL maskL nI nD bD)
open Din (inoL fineL inoV NAt)
open Ent (blockL okB EAt Ey entV noS noE)
/-- A disk that was made of an image. -/
theorem DkAt.made {w w1 : World} {g n : Nat} {G I D : Int} {xs : List Int} (hr : RAt w g xs) (hB : Below w.heap.size w w1) (d : Nat) (hd : d = w1.heap.size + 1) :
    DkAt d g n G I D xs ((w1.alloc (.cells #[.int .i64 G, .int .i64 I, .int .i64 D] 23)).alloc (.cells #[.slice (some ⟨g, 0, none⟩) n n, .int .i64 G, .int .i64 I, .int .i64 D] 50)) ∧ Below w.heap.size w ((w1.alloc (.cells #[.int .i64 G, .int .i64 I, .int .i64 D] 23)).alloc (.cells #[.slice (some ⟨g, 0, none⟩) n n, .int .i64 G, .int .i64 I, .int .i64 D] 50)) := by
  subst hd
  have h1 : Below w1.heap.size w1 ((w1.alloc (.cells #[.int .i64 G, .int .i64 I, .int .i64 D] 23)).alloc (.cells #[.slice (some ⟨g, 0, none⟩) n n, .int .i64 G, .int .i64 I, .int .i64 D] 50)) := ((Below.refl _ w1).alloc (Nat.le_refl _) _).alloc (by simp) _
  have h2 := blk_new (w1.alloc (.cells #[.int .i64 G, .int .i64 I, .int .i64 D] 23)) (.cells #[.slice (some ⟨g, 0, none⟩) n n, .int .i64 G, .int .i64 I, .int .i64 D] 50)
  rw [show (w1.alloc (.cells #[.int .i64 G, .int .i64 I, .int .i64 D] 23)).heap.size = w1.heap.size + 1 by simp] at h2
  have hlt := hr.lt
  have hs := hB.size
  exact ⟨⟨h2, (hr.below hB hlt).below h1 (by omega)⟩, hB.trans (h1.mono hs)⟩
/-- append(nil, x), x a row of one int. -/
theorem append_first (W : World) (q : Int) (go co : Nat) (hl : LAt W (some ⟨go, 0, none⟩) 1 [q]) : ∃ g2 c2 W', (Builtin.append_ #[31, 31] 31 #[.slice none 0 0, .slice (some ⟨go, 0, none⟩) 1 co]).run Tryz.prog W = .ok (.slice (some ⟨g2, 0, none⟩) 1 c2) W' ∧ LAt W' (some ⟨g2, 0, none⟩) 1 [q] ∧ Below W.heap.size W W' := by
  obtain ⟨v', W6, hr, hown, hgr⟩ := Din.appendi_run W W.heap.size (.slice none 0 0) 0 [] (World.ownsRow_nil _ _ _ _) (Nat.le_refl _) ⟨go, 0, none⟩ 1 co [q] hl (by omega)
  obtain ⟨g2, c2, rfl, hout, -⟩ := Din.owns_LAt hown (by omega)
  exact ⟨g2, c2, W6, hr, hout, hgr⟩
set_option maxRecDepth 100000 in
set_option maxHeartbeats 8000000 in
theorem check_root (w : World) (g n : Nat) (G I D : Int) (hg : good G I D = true) (xs : List Int) (hr : RAt w g xs) (hx : ImgIs G I D xs) (hn : n = totN G I D * 1024) :
    Calls Tryz.prog 7 #[.slice (some ⟨g, 0, none⟩) n n] w fun e w' => e = .returned (.int .i64 0) ∧ Below w.heap.size w w' := by
  have hb := good_iff.1 hg
  have HU : Hid (Calls Tryz.prog 17 #[.slice (some ⟨g, 0, none⟩) n n] w fun e w' => e = .returned (.tuple #[geo G I D, .bool true]) ∧ Below w.heap.size w w') := Hid.mk (usable_yes w g n G I D hg xs hr hx hn)
  have HRC := Hid.mk (fun W d hd => reached_root W d g n G I D hg xs hd hx hn)
  have HI := Hid.mk (fun W d hd => dinode_one W d g n G I D hg xs hd hx hn)
  have HP := Hid.mk (fun W d hd => pointers_root W d g n G I D (by omega) (by omega) xs hd)
  have HLS := Hid.mk (fun W d hd go co hl => least_root W d g n G I D hg xs hd hx hn go co hl)
  obtain ⟨-, i2, -⟩ := ino_is hg
  generalize inoN G I = N at *
  have HR0 := Hid.mk hr
  clear hr hx hn hg hb
  go_enter Tryz.func7, Tryz.ntmps7
  go_wp2_with (first
    | (go_at_call 17; refine HU.out.mono ?_; rintro e w1 ⟨rfl, hB⟩; obtain ⟨hdk, hbd⟩ := DkAt.made (n := n) (G := G) (I := I) (D := D) HR0.out hB _ rfl; have HDK := Hid.mk hdk; have HBD := Hid.mk hbd; clear hdk hbd hB)
    | (go_at_call 18; refine (HRC.out _ _ HDK.out).mono ?_; rintro e w2 ⟨go, co, gn, gs, rfl, hrc⟩; have HC2 := Hid.mk hrc; have HB2 := Hid.mk (HBD.out.trans (hrc.below.mono HBD.out.size)); clear hrc))
  generalize w1.heap.size + 1 = d at *
  obtain ⟨wd, hwd⟩ : ∃ wd, RcAt wd d g n G I D xs gn gs go (N + 1) 2 w2 := ⟨_, HC2.out⟩
  clear HC2
  have HC2 := Hid.mk hwd
  clear hwd HDK HBD HU HR0 HRC
  go_loopw [9, 10] (fun v i wr => ((i = .int .i64 0 ∧ v = .slice none 0 0) ∨ (i = .int .i64 1 ∧ ∃ g2 c2, v = .slice (some ⟨g2, 0, none⟩) 1 c2 ∧ LAt wr (some ⟨g2, 0, none⟩) 1 [2 + I])) ∧ RcAt wd d g n G I D xs gn gs go (N + 1) 2 wr ∧ Below w.heap.size w wr) (fun _ i _ => 1 - (intOf i).toNat)
  case atStart => exact ⟨.inl ⟨rfl, rfl⟩, HC2.out, HB2.out⟩
  case round =>
    obtain ⟨hcs, hrc, hbl⟩ := hrel
    obtain ⟨m0, m1, m2, m3⟩ := hrc.cells (by omega)
    have HC3 := Hid.mk hrc
    have HB3 := Hid.mk hbl
    clear hrc hbl HC2 HB2
    rcases hcs with ⟨rfl, rfl⟩ | ⟨rfl, g2, c2, rfl, hla⟩
    · go_wp2_with (first
        | (go_at_call 19; refine (HI.out _ d HC3.out.dk).mono ?_; rintro e w4 ⟨rfl, hB4⟩; obtain ⟨X4, Y4, b4, hrX, hrY, hNY, hBY⟩ := var_root w4 I; have HC4 := Hid.mk ((HC3.out.new hB4).new hBY); have hb5 := HB3.out.trans (hB4.mono HB3.out.size); have HB4 := Hid.mk (hb5.trans (hBY.mono hb5.size)); have HRX := Hid.mk hrX; have HRY := Hid.mk hrY; have HNY := Hid.mk hNY; clear hrX hrY hNY hBY hB4 hb5)
        | (refine Din.wpL_alloc rfl rfl _ X4 HRX.out ?_)
        | (refine Din.wpL_store (.tmp 11) (.tmp 51) rfl rfl _ _ Y4 rfl rfl HRY.out ?_)
        | (refine Din.wpL_load (.tmp 11) rfl rfl b4 (rootL I) rfl HNY.out rfl ?_)
        | (go_at_call 20; refine (HP.out _ d HC4.out.dk).mono ?_; rintro e w6 ⟨gp, cp, rfl, hla, hB6⟩; obtain ⟨g2, c2, W7, hr7, hl7, hB7⟩ := append_first w6 (2 + I) gp cp hla; have HC7 := Hid.mk ((HC4.out.new hB6).new hB7); have hb6 := HB4.out.trans (hB6.mono HB4.out.size); have HB7 := Hid.mk (hb6.trans (hB7.mono hb6.size)); have HR7 := Hid.mk hr7; have HL7 := Hid.mk hl7; clear hla hB6 hr7 hl7 hB7 hb6)
        | (at_builtin; refine wpList_append_known rfl (.tmp 59) (.tmp 60) 31 rfl _ _ _ _ rfl rfl HR7.out ?_))
      go_roundw
      case rel => exact ⟨.inr ⟨by go_num, g2, c2, rfl, HL7.out⟩, HC7.out, HB7.out⟩
      case measure => simp [intOf]
    · have HL3 := Hid.mk hla
      clear hla
      go_wp2_with (go_at_call 21; refine (HLS.out _ d HC3.out.dk g2 c2 HL3.out).mono ?_; rintro e w5 ⟨rfl, hB5⟩; have HC5 := Hid.mk (HC3.out.new hB5); have HB5 := Hid.mk (HB3.out.trans (hB5.mono HB3.out.size)); clear hB5)
      clear m0 m1 m2 m3 HC3 HB3 HL3
      go_loopw [16] (fun i wr => (i = .int .i64 0 ∨ i = .int .i64 1) ∧ RcAt wd d g n G I D xs gn gs go (N + 1) 2 wr ∧ Below w.heap.size w wr) (fun i _ => 1 - (intOf i).toNat)
      case atStart => exact ⟨.inl rfl, HC5.out, HB5.out⟩
      case round =>
        obtain ⟨hcs, hrc, hbl⟩ := hrel
        obtain ⟨m0, m1, m2, m3⟩ := hrc.cells (by omega)
        have HC6 := Hid.mk hrc
        have HB6 := Hid.mk hbl
        clear hrc hbl HC5 HB5
        rcases hcs with rfl | rfl
        · go_wp2_with (first
            | (go_at_call 19; refine (HI.out _ d HC6.out.dk).mono ?_; rintro e w7 ⟨rfl, hB4⟩; obtain ⟨X4, Y4, b4, hrX, hrY, hNY, hBY⟩ := var_root w7 I; have HC7 := Hid.mk ((HC6.out.new hB4).new hBY); have hb5 := HB6.out.trans (hB4.mono HB6.out.size); have HB7 := Hid.mk (hb5.trans (hBY.mono hb5.size)); have HRX := Hid.mk hrX; have HRY := Hid.mk hrY; have HNY := Hid.mk hNY; clear hrX hrY hNY hBY hB4 hb5)
            | (refine Din.wpL_alloc rfl rfl _ X4 HRX.out ?_)
            | (refine Din.wpL_store (.tmp 17) (.tmp 88) rfl rfl _ _ Y4 rfl rfl HRY.out ?_))
          obtain ⟨c0, c1, c2', c3, c4, c5⟩ := nat_root HNY.out
          obtain ⟨p0, p1, p2, p3⟩ := HC7.out.cells (by omega)
          have hS : Y4.drew.cell? ⟨b4, 1, none⟩ = some (.int .i64 2) ∧ Y4.drew.cell? ⟨go, 0, none⟩ = some (.int .i64 1) ∧ Y4.drew.cell? ⟨gn, 1, none⟩ = some (.int .i64 2) := ⟨c1, p3, p0⟩
          refine wp_region_held_drew (S := fun W => W.cell? ⟨b4, 1, none⟩ = some (.int .i64 2) ∧ W.cell? ⟨go, 0, none⟩ = some (.int .i64 1) ∧ W.cell? ⟨gn, 1, none⟩ = some (.int .i64 2)) (by kernel_rfl) hS (fun hH => ?_)
          change wpAnyH Tryz.prog Region.Mode.any _ _ _ 10 _ _ _
          refine takeH 0 90 (.pointer (some ⟨b4, 1, none⟩)) rfl (by kernel_rfl) (by kernel_rfl) (by kernel_rfl) (by kernel_rfl) (fun _ _ _ h => h) (by kernel_rfl) (fun w hw => by (obtain ⟨k0, k1, k2⟩ := hw; go_simp)) hH ?_
          simp only [List.setIfInBounds_toArray, List.set_cons_zero, List.set_cons_succ]
          refine takeH 1 91 (.int .i64 2) rfl (by kernel_rfl) (by kernel_rfl) (by kernel_rfl) (by kernel_rfl) (fun _ _ _ h => h) (by kernel_rfl) (fun w hw => by (obtain ⟨k0, k1, k2⟩ := hw; go_simp)) hH ?_
          simp only [List.setIfInBounds_toArray, List.set_cons_zero, List.set_cons_succ]
          refine takeH 2 92 (.slice (some ⟨gn, 0, none⟩) (N + 1) (N + 1)) rfl (by kernel_rfl) (by kernel_rfl) (by kernel_rfl) (by kernel_rfl) (fun _ _ _ h => h) (by kernel_rfl) (fun w hw => by kernel_rfl) hH ?_
          simp only [List.setIfInBounds_toArray, List.set_cons_zero, List.set_cons_succ]
          refine takeH 3 93 (.slice (some ⟨go, 0, none⟩) 1 co) rfl (by kernel_rfl) (by kernel_rfl) (by kernel_rfl) (by kernel_rfl) (fun _ _ _ h => h) (by kernel_rfl) (fun w hw => by kernel_rfl) hH ?_
          simp only [List.setIfInBounds_toArray, List.set_cons_zero, List.set_cons_succ]
          refine takeH 4 94 (.int .i64 0) rfl (by kernel_rfl) (by kernel_rfl) (by kernel_rfl) (by kernel_rfl) (fun _ _ _ h => h) (by kernel_rfl) (fun w hw => by kernel_rfl) hH ?_
          simp only [List.setIfInBounds_toArray, List.set_cons_zero, List.set_cons_succ]
          refine takeH 5 95 (.pointer (some ⟨go, 0, none⟩)) rfl (by kernel_rfl) (by kernel_rfl) (by kernel_rfl) (by kernel_rfl) (fun _ _ _ h => h) (by kernel_rfl) (fun w hw => by (obtain ⟨k0, k1, k2⟩ := hw; go_simp)) hH ?_
          simp only [List.setIfInBounds_toArray, List.set_cons_zero, List.set_cons_succ]
          refine takeH 6 96 (.int .i64 1) rfl (by kernel_rfl) (by kernel_rfl) (by kernel_rfl) (by kernel_rfl) (fun _ _ _ h => h) (by kernel_rfl) (fun w hw => by (obtain ⟨k0, k1, k2⟩ := hw; go_simp)) hH ?_
          simp only [List.setIfInBounds_toArray, List.set_cons_zero, List.set_cons_succ]
          refine takeH 7 97 (.pointer (some ⟨gn, 1, none⟩)) rfl (by kernel_rfl) (by kernel_rfl) (by kernel_rfl) (by kernel_rfl) (fun _ _ _ h => h) (by kernel_rfl) (fun w hw => by (go_simp; intro h; omega)) hH ?_
          simp only [List.setIfInBounds_toArray, List.set_cons_zero, List.set_cons_succ]
          refine takeH 8 98 (.int .i64 2) rfl (by kernel_rfl) (by kernel_rfl) (by kernel_rfl) (by kernel_rfl) (fun _ _ _ h => h) (by kernel_rfl) (fun w hw => by (obtain ⟨k0, k1, k2⟩ := hw; go_simp)) hH ?_
          simp only [List.setIfInBounds_toArray, List.set_cons_zero, List.set_cons_succ]
          refine takeH 9 99 (.bool false) rfl (by kernel_rfl) (by kernel_rfl) (by kernel_rfl) (by kernel_rfl) (fun _ _ _ h => h) (by kernel_rfl) (fun w hw => by (obtain ⟨k0, k1, k2⟩ := hw; go_simp)) hH ?_
          simp only [List.setIfInBounds_toArray, List.set_cons_zero, List.set_cons_succ]
          refine wpAnyH_done (by kernel_rfl) ?_ _
          clear hH hS c0 c1 c2' c3 c4 c5 p0 p1 p2 p3
          go_wp2
          go_roundw
          case rel => exact ⟨.inr (by go_num), ⟨HC7.out.nam, HC7.out.seen, HC7.out.out, ⟨HC7.out.dk.dk, HC7.out.dk.row⟩, HC7.out.below.drew, HC7.out.ge, HC7.out.ns, HC7.out.no, HC7.out.nd, HC7.out.ng⟩, HB7.out.drew⟩
          case measure => simp [intOf]
        · go_wp2
          go_ret
          exact ⟨rfl, HB6.out⟩
end Mk
end Go.Proofs.YtejnmpnioeamhaaGreat
