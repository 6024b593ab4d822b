/-
  Raw of an empty file system, once the reference's image is known.
-/
import Derived.Test.YtejnmpnioeamhaaGreatWhNode
namespace Go.Proofs.YtejnmpnioeamhaaGreat
open Go Go.Proofs Go.RowKit Go.Shelf
namespace Mk
open Sup (superL headL maskL nI nD bD)
open Din (inoL fineL inoV NAt)
open Ent (blockL okB EAt Ey entV noS noE)
section
variable {ops : Array Oper} {rest : List Oper} {o : Oper} {a : Act} {Q : Exit → Act → World → Prop} {w : World}
theorem nd_wpload (x : Operand) (ho : o.op = .load 41 x) (hw : Region.wanted o (yielded ops a.tmps) = true) (v u : Value) (hx : a.eval x = v) (hr : (Instr.loadAt 41 v).run Tryz.prog w = .ok u w) (h : wpList Tryz.prog ops Q rest (a.put o.dst u) w) : wpList Tryz.prog ops Q (o :: rest) a w :=
  Din.wpList_known hw _ _ (by
    unfold execOp
    rw [ho]
    simp only [Sem.run_bind, hx, hr, Result.andThen_ok]
    rfl) h
theorem nd_wpone (x : Operand) (ho : o.op = .buildSlice 34 1 #[(0, x)]) (hw : Region.wanted o (yielded ops a.tmps) = true) (s : Value) (q : Nat) (W1 : World) (hq : q = w.heap.size) (hW : W1 = w.alloc (.cells (ndC s).toArray 41)) (hx : a.eval x = ndV s) (h : wpList Tryz.prog ops Q rest (a.put o.dst (.slice (some ⟨q, 0, none⟩) 1 1)) W1) : wpList Tryz.prog ops Q (o :: rest) a w := by
  subst hq hW
  exact Din.wpList_known hw _ _ (nd_one ho hx) h
end
theorem cell_in {w : World} {b o : Nat} {v : Value} (h : w.cell? ⟨b, o, none⟩ = some v) : b < w.heap.size := by
  rcases Nat.lt_or_ge b w.heap.size with h' | h'
  · exact h'
  · simp [World.cell?, Array.getElem?_eq_none h'] at h
set_option maxRecDepth 100000 in
set_option maxHeartbeats 16000000 in
theorem raw_yes (w : World) (g n : Nat) (G I D : Int) (hg : good G I D = true) (xs : List Int) (hr : RAt w g xs) (hx : ImgIs G I D xs) (hn : n = totN G I D * 1024) (him : ImgYes n G I D xs) :
    Calls Tryz.prog 9 #[.slice (some ⟨g, 0, none⟩) n n] w fun e w' => ∃ gN cN ao cc, e = .returned (.tuple #[.slice (some ⟨gN, 0, none⟩) 1 cN, .int .i64 0]) ∧ 1 ≤ cN ∧ w'.cell? ⟨gN, 1, none⟩ = some (.int .i64 2) ∧ w'.cell? ⟨gN, 2, none⟩ = some (.int .i64 2) ∧ w'.cell? ⟨gN, 5, none⟩ = some (.slice ao 30 cc) ∧ Below w.heap.size w w' := by
  have HU : Hid (Calls Tryz.prog 17 #[.slice (some ⟨g, 0, none⟩) n n] w fun e w' => e = .returned (.tuple #[geo G I D, .bool true]) ∧ Below w.heap.size w w') := Hid.mk (usable_yes w g n G I D hg xs hr hx hn)
  have HF := Hid.mk (fun W hr => fix_root W g n G I D hg xs hr hx hn)
  have HIM := Hid.mk him
  obtain ⟨-, t2, t3, -⟩ := tot_is hg
  obtain ⟨i1, i2, i3⟩ := ino_is hg
  have hxl := hx.len
  rw [← hn] at t3 hxl
  have HR0 := Hid.mk hr
  have HXL := Hid.mk hxl
  clear hr hx hn hg him t2 hxl
  clear i1
  go_enter Tryz.func9, Tryz.ntmps9
  go_upto_region 5 with (first
    | (go_at_call 17; refine HU.out.mono ?_; rintro e w1 ⟨rfl, hB⟩; obtain ⟨hgt, hr1, hb1⟩ := gmade (G := G) (I := I) (D := D) HR0.out hB; obtain ⟨c0, c1, c2⟩ := hgt.g3; have HR1 := Hid.mk hr1; have HB1 := Hid.mk hb1; clear hr1 hb1 hB hgt)
    | (go_at_call 22; refine (HF.out _ HR1.out).mono ?_; rintro e w2 ⟨p, t, gl, c, go, co, gd, cd, ae, cm, rfl, hpg, hdr, hea, hB2⟩; have HD2 := Hid.mk hdr; have HE2 := Hid.mk hea; have HR2 := Hid.mk (HR1.out.below hB2 HR1.out.lt); have HB2 := Hid.mk (HB1.out.trans (hB2.mono HB1.out.size)); clear hdr hea hB2 HR1 HB1 hpg))
  clear c0 c1 c2 HF HU HR0
  obtain ⟨SX, hSX⟩ : ∃ SX, SX = strOfNums xs := ⟨_, rfl⟩
  have hCV : ∀ W, RAt W g xs → (convert 26 9 (.slice (some ⟨g, 0, none⟩) n n)).run Tryz.prog W = .ok (.string SX) W := fun W h => by
    rw [hSX]
    exact conv_bytes W _ _ _ _ (h.full HXL.out)
  have hH0 := hCV w2.drew HR2.out
  have HCV := Hid.mk hCV
  clear hCV
  refine wp_region_held_drew (S := fun W' => (convert 26 9 (.slice (some ⟨g, 0, none⟩) n n)).run Tryz.prog W' = .ok (.string SX) W') (by kernel_rfl) hH0 (fun hH => ?_)
  change wpAnyH Tryz.prog Region.Mode.any _ _ _ 6 _ _ _
  refine takeH 0 23 (.pointer (some ⟨p.r, 0, none⟩)) rfl (by kernel_rfl) (by kernel_rfl) (by kernel_rfl) (by kernel_rfl) (fun _ _ _ h => h) (by kernel_rfl) (fun w hw => by kernel_rfl) hH ?_
  simp only [List.setIfInBounds_toArray, List.set_cons_zero, List.set_cons_succ]
  refine takeH 3 26 (.slice (some ⟨g, 0, none⟩) n n) rfl (by kernel_rfl) (by kernel_rfl) (by kernel_rfl) (by kernel_rfl) (fun _ _ _ h => h) (by kernel_rfl) (fun w hw => by kernel_rfl) hH ?_
  simp only [List.setIfInBounds_toArray, List.set_cons_zero, List.set_cons_succ]
  refine takeH 4 27 (.string SX) rfl (by kernel_rfl) (by kernel_rfl) (by kernel_rfl) (by kernel_rfl) (fun _ _ _ h => h) (by kernel_rfl) (fun w hw => by exact exec_convert (x := .tmp 26) rfl (by kernel_rfl) hw) hH ?_
  simp only [List.setIfInBounds_toArray, List.set_cons_zero, List.set_cons_succ]
  refine stepH_call 1 24 rfl (by kernel_rfl) (by kernel_rfl) (by kernel_rfl) 23 #[.tmp 23] #[61] (by kernel_rfl) (enters_of Tryz.func23 (by kernel_rfl) rfl) #[.pointer (some ⟨p.r, 0, none⟩)] (by kernel_rfl) (HIM.out _ p t gl c go co gd cd ae cm HD2.out.drew HE2.out) ?_
  rintro e w3 ⟨g4, cap, hc1, rfl, hba, hB3⟩
  have HR3 := Hid.mk (RAt.below (W := w2.drew) HR2.out hB3 HR2.out.lt)
  have HB3 : Hid (Below w.heap.size w w3) := Hid.mk (HB2.out.drew.trans (hB3.mono HB2.out.size))
  have HD3 := Hid.mk (HD2.out.drew.new hB3)
  have HE3 := Hid.mk (EAt.below (W := w2.drew) HE2.out hB3)
  have hC3 : (convert 26 9 (.slice (some ⟨g4, 0, none⟩) n cap)).run Tryz.prog w3 = .ok (.string SX) w3 := by
    rw [hSX]
    exact conv_bytes w3 _ _ _ _ hba
  refine ⟨_, rfl, HCV.out w3 HR3.out, ?_⟩
  simp only [List.setIfInBounds_toArray, List.set_cons_zero, List.set_cons_succ]
  refine stepH 2 25 (.string SX) rfl (by kernel_rfl) (by kernel_rfl) (by kernel_rfl) (exec_convert (x := .tmp 24) rfl (by kernel_rfl) hC3) (HCV.out w3 HR3.out) ?_
  simp only [List.setIfInBounds_toArray, List.set_cons_zero, List.set_cons_succ]
  refine stepH 5 28 (.bool false) rfl (by kernel_rfl) (by kernel_rfl) (by kernel_rfl) (by clear hC3 hH hH0 hSX; go_simp) (HCV.out w3 HR3.out) ?_
  simp only [List.setIfInBounds_toArray, List.set_cons_zero, List.set_cons_succ]
  refine wpAnyH_done (by kernel_rfl) ?_ _
  clear hH hH0 hC3 hSX hba hB3 HCV HR2 HB2 HD2 HE2 HIM
  have HDC : Hid (∀ W, Below w3.heap.size w3 W → DrC p n (blkN G D) (inoN G I + 1) G I D t gl gd (.slice (some ae) 32 cm) W) := Hid.mk (fun W hB => (HD3.out.new hB).dc (by omega))
  have HTK : Hid (∀ W, Below w3.heap.size w3 W → W.cell? ⟨t, 0, none⟩ = some (.int .i64 2) ∧ W.cell? ⟨t, 1, none⟩ = some (.int .i64 2) ∧ W.cell? ⟨t, 2, none⟩ = some (.int .i64 1024) ∧ t < w3.heap.size ∧ gd < w3.heap.size) := Hid.mk (fun W hB => by
    have h := (HD3.out.new hB).tn.tk
    exact ⟨h.ints 0 (by simp [rootL]), h.ints 1 (by simp [rootL]), h.ints 2 (by simp [rootL]), HD3.out.tn.tk.lt, cell_in (HD3.out.dc (by omega)).d0⟩)
  have HEA : Hid (∀ W, Below w3.heap.size w3 W → EAt W (some ae) 32 freeL) := Hid.mk (fun W hB => HE3.out.below hB)
  generalize inoN G I = ni at *
  generalize blkN G D = nb at *
  clear HD3 HE3 HR3
  go_wp2
  go_loopw [7, 8] (fun v i wr => Hid (Below w3.heap.size w3 wr) ∧ ((i = .int .i64 1 ∧ v = .slice none 0 0) ∨ ∃ (ino gN cN : Nat) (ao : Option Addr) (cc : Nat), 2 ≤ ino ∧ ino ≤ ni + 1 ∧ i = .int .i64 (ino : Int) ∧ v = .slice (some ⟨gN, 0, none⟩) 1 cN ∧ Hid (1 ≤ cN ∧ wr.cell? ⟨gN, 1, none⟩ = some (.int .i64 2) ∧ wr.cell? ⟨gN, 2, none⟩ = some (.int .i64 2) ∧ wr.cell? ⟨gN, 5, none⟩ = some (.slice ao 30 cc)))) (fun _ i _ => ni + 1 - (intOf i).toNat)
  case atStart => exact ⟨Hid.mk (Below.refl _ _), .inl ⟨rfl, rfl⟩⟩
  case round =>
    obtain ⟨HBW, hcase⟩ := hrel
    have hd := HDC.out _ HBW.out
    have r2 := hd.r2
    rcases hcase with ⟨rfl, rfl⟩ | ⟨ino, gN, cN, ao, cc, hi1, hi2, rfl, rfl, HC⟩
    · have qb := hd.tb 1 (by omega)
      rw [if_pos rfl] at qb
      have hni : (1 : Int) < (ni : Int) + 1 := by omega
      clear hd
      go_upto_region 13 with fail
      obtain ⟨wo, rfl⟩ : ∃ wo, wo = wr := ⟨_, rfl⟩
      obtain ⟨s0, s1, s2, st, sg⟩ := HTK.out _ HBW.out
      obtain ⟨Y, ry, hny, hoy⟩ := nd_store (b := wo.drew.heap.size) (W := wo.drew.alloc (.cells ndZ.toArray 41)) (l := ndZ) (m := ndC (.slice none 0 0)) (blk_new wo.drew _) rfl rfl (by decide)
      have hBY : Below wo.heap.size wo Y := ((Below.refl _ wo).drew.alloc (Nat.le_refl _) _).trans (hoy.below (by rw [World.size_alloc]; exact Nat.le_succ _) (fun k e => by rw [e]; exact Nat.le_refl _))
      have hSY := HTK.out Y (HBW.out.trans (hBY.mono HBW.out.size))
      have hSA := HTK.out (wo.drew.alloc (.cells ndZ.toArray 41)) (HBW.out.trans (((Below.refl _ wo).drew.alloc (Nat.le_refl _) _).mono HBW.out.size))
      have HRY := Hid.mk ry
      have HNY := Hid.mk hny
      have HBY := Hid.mk hBY
      clear ry hny hoy hBY
      refine wp_region_held_drew (S := fun W => W.cell? ⟨t, 0, none⟩ = some (.int .i64 2) ∧ W.cell? ⟨t, 1, none⟩ = some (.int .i64 2) ∧ W.cell? ⟨t, 2, none⟩ = some (.int .i64 1024)) (by kernel_rfl) ⟨s0, s1, s2⟩ (fun hH => ?_)
      change wpAnyH Tryz.prog Region.Mode.any _ _ _ 19 _ _ _
      refine takeH 0 47 (.int .i64 1) rfl (by kernel_rfl) (by kernel_rfl) (by kernel_rfl) (by kernel_rfl) (fun _ _ _ h => h) (by kernel_rfl) (fun w hw => by kernel_rfl) hH ?_
      simp only [List.setIfInBounds_toArray, List.set_cons_zero, List.set_cons_succ]
      refine takeH 1 48 (.pointer (some ⟨t, 0, none⟩)) rfl (by kernel_rfl) (by kernel_rfl) (by kernel_rfl) (by kernel_rfl) (fun _ _ _ h => h) (by kernel_rfl) (fun w hw => by kernel_rfl) hH ?_
      simp only [List.setIfInBounds_toArray, List.set_cons_zero, List.set_cons_succ]
      refine takeH 2 49 (.pointer (some ⟨t, 0, none⟩)) rfl (by kernel_rfl) (by kernel_rfl) (by kernel_rfl) (by kernel_rfl) (fun _ _ _ h => h) (by kernel_rfl) (fun w hw => by (clear hw; go_simp)) hH ?_
      simp only [List.setIfInBounds_toArray, List.set_cons_zero, List.set_cons_succ]
      refine takeH 3 50 (.pointer (some ⟨t, 0, none⟩)) rfl (by kernel_rfl) (by kernel_rfl) (by kernel_rfl) (by kernel_rfl) (fun _ _ _ h => h) (by kernel_rfl) (fun w hw => by (clear hw; go_simp)) hH ?_
      simp only [List.setIfInBounds_toArray, List.set_cons_zero, List.set_cons_succ]
      refine takeH 4 51 (.pointer (some ⟨t, 0, none⟩)) rfl (by kernel_rfl) (by kernel_rfl) (by kernel_rfl) (by kernel_rfl) (fun _ _ _ h => h) (by kernel_rfl) (fun w hw => by (clear hw; go_simp)) hH ?_
      simp only [List.setIfInBounds_toArray, List.set_cons_zero, List.set_cons_succ]
      refine takeH 5 52 (.int .i64 2) rfl (by kernel_rfl) (by kernel_rfl) (by kernel_rfl) (by kernel_rfl) (fun _ _ _ h => h) (by kernel_rfl) (fun w hw => by (obtain ⟨e0, e1, e2⟩ := hw; go_simp)) hH ?_
      simp only [List.setIfInBounds_toArray, List.set_cons_zero, List.set_cons_succ]
      refine takeH 6 53 (.pointer (some ⟨t, 0, none⟩)) rfl (by kernel_rfl) (by kernel_rfl) (by kernel_rfl) (by kernel_rfl) (fun _ _ _ h => h) (by kernel_rfl) (fun w hw => by kernel_rfl) hH ?_
      simp only [List.setIfInBounds_toArray, List.set_cons_zero, List.set_cons_succ]
      refine takeH 7 54 (.pointer (some ⟨t, 0, none⟩)) rfl (by kernel_rfl) (by kernel_rfl) (by kernel_rfl) (by kernel_rfl) (fun _ _ _ h => h) (by kernel_rfl) (fun w hw => by (clear hw; go_simp)) hH ?_
      simp only [List.setIfInBounds_toArray, List.set_cons_zero, List.set_cons_succ]
      refine takeH 8 55 (.pointer (some ⟨t, 0, none⟩)) rfl (by kernel_rfl) (by kernel_rfl) (by kernel_rfl) (by kernel_rfl) (fun _ _ _ h => h) (by kernel_rfl) (fun w hw => by (clear hw; go_simp)) hH ?_
      simp only [List.setIfInBounds_toArray, List.set_cons_zero, List.set_cons_succ]
      refine takeH 9 56 (.pointer (some ⟨t, 1, none⟩)) rfl (by kernel_rfl) (by kernel_rfl) (by kernel_rfl) (by kernel_rfl) (fun _ _ _ h => h) (by kernel_rfl) (fun w hw => by (clear hw; go_simp)) hH ?_
      simp only [List.setIfInBounds_toArray, List.set_cons_zero, List.set_cons_succ]
      refine takeH 10 57 (.int .i64 2) rfl (by kernel_rfl) (by kernel_rfl) (by kernel_rfl) (by kernel_rfl) (fun _ _ _ h => h) (by kernel_rfl) (fun w hw => by (obtain ⟨e0, e1, e2⟩ := hw; go_simp)) hH ?_
      simp only [List.setIfInBounds_toArray, List.set_cons_zero, List.set_cons_succ]
      refine takeH 11 58 (.pointer (some ⟨t, 0, none⟩)) rfl (by kernel_rfl) (by kernel_rfl) (by kernel_rfl) (by kernel_rfl) (fun _ _ _ h => h) (by kernel_rfl) (fun w hw => by kernel_rfl) hH ?_
      simp only [List.setIfInBounds_toArray, List.set_cons_zero, List.set_cons_succ]
      refine takeH 12 59 (.pointer (some ⟨t, 0, none⟩)) rfl (by kernel_rfl) (by kernel_rfl) (by kernel_rfl) (by kernel_rfl) (fun _ _ _ h => h) (by kernel_rfl) (fun w hw => by (clear hw; go_simp)) hH ?_
      simp only [List.setIfInBounds_toArray, List.set_cons_zero, List.set_cons_succ]
      refine takeH 13 60 (.pointer (some ⟨t, 0, none⟩)) rfl (by kernel_rfl) (by kernel_rfl) (by kernel_rfl) (by kernel_rfl) (fun _ _ _ h => h) (by kernel_rfl) (fun w hw => by (clear hw; go_simp)) hH ?_
      simp only [List.setIfInBounds_toArray, List.set_cons_zero, List.set_cons_succ]
      refine takeH 14 61 (.pointer (some ⟨t, 2, none⟩)) rfl (by kernel_rfl) (by kernel_rfl) (by kernel_rfl) (by kernel_rfl) (fun _ _ _ h => h) (by kernel_rfl) (fun w hw => by (clear hw; go_simp)) hH ?_
      simp only [List.setIfInBounds_toArray, List.set_cons_zero, List.set_cons_succ]
      refine takeH 15 62 (.int .i64 1024) rfl (by kernel_rfl) (by kernel_rfl) (by kernel_rfl) (by kernel_rfl) (fun _ _ _ h => h) (by kernel_rfl) (fun w hw => by (obtain ⟨e0, e1, e2⟩ := hw; go_simp)) hH ?_
      simp only [List.setIfInBounds_toArray, List.set_cons_zero, List.set_cons_succ]
      refine takeH 16 63 (ndV (.slice none 0 0)) rfl (by kernel_rfl) (by kernel_rfl) (by kernel_rfl) (by kernel_rfl) (fun _ _ _ h => h) (by kernel_rfl) (fun w hw => by (clear hw; unfold ndV ndC; go_simp)) hH ?_
      simp only [List.setIfInBounds_toArray, List.set_cons_zero, List.set_cons_succ]
      refine stepH_run 17 10 (.pointer (some ⟨wo.drew.heap.size, 0, none⟩)) (wo.drew.alloc (.cells ndZ.toArray 41)) rfl (by kernel_rfl) (by kernel_rfl) (by kernel_rfl) (Din.exec_alloc rfl (nd_alloc _)) ⟨hSA.1, hSA.2.1, hSA.2.2.1⟩ ?_
      simp only [List.setIfInBounds_toArray, List.set_cons_zero, List.set_cons_succ]
      refine stepH_one 18 (by kernel_rfl) ?_
      refine opH_store 18 Y rfl (by kernel_rfl) (by kernel_rfl) (exec_store (p := .tmp 10) (x := .tmp 63) rfl (by kernel_rfl) (by kernel_rfl) HRY.out) ⟨hSY.1, hSY.2.1, hSY.2.2.1⟩ ?_
      refine wpAnyH_done (by kernel_rfl) ?_ _
      clear hH s0 s1 s2 st sg hSY hSA HRY r2 qb
      obtain ⟨bN, hbN⟩ : ∃ bN, bN = wo.drew.heap.size := ⟨_, rfl⟩
      rw [← hbN] at HNY ⊢
      have HBN : Hid (bN = wo.heap.size) := Hid.mk hbN
      clear hbN
      have HB4 := Hid.mk (HBW.out.trans (HBY.out.mono HBW.out.size))
      have hd := HDC.out _ HB4.out
      obtain ⟨cd2, s13⟩ := hd.t13
      clear hd
      go_wp2
      go_loopw [11] (fun i W4 => (i = .int .i64 0 ∧ W4 = Y) ∨ (i = .int .i64 1 ∧ ∃ (ao : Option Addr) (cc : Nat), Hid (NdAt bN (ndC (.slice ao 30 cc)) W4 ∧ Below wo.heap.size wo W4))) (fun i _ => 1 - (intOf i).toNat)
      case atStart => exact .inl ⟨rfl, rfl⟩
      case round =>
        rcases hrel with ⟨rfl, rfl⟩ | ⟨rfl, ao, cc, HN⟩
        · have hd := HDC.out _ HB4.out
          have d0 := hd.d0
          have n5 : wr.cell? ⟨bN, 5, none⟩ = some (.slice none 0 0) := by rw [blk_cell HNY.out]; rfl
          have hea := HEA.out wr.drew HB4.out.drew
          obtain ⟨M, hM⟩ := from2_at hea cm
          obtain ⟨ao, cc, W5, r5, hB5⟩ := ents_append wr.drew _ (cm - 2) M hM
          have hlt : bN < wr.heap.size := lt_of_block HNY.out
          have hN5 : NdAt bN (ndC (.slice none 0 0)) W5 := (hB5.block bN hlt).trans HNY.out
          have f5 : W5.cell? ⟨bN, 5, none⟩ = some (.slice none 0 0) := by rw [blk_cell hN5]; rfl
          have z5 := blk_free hN5 5
          have hd5 := HDC.out W5 (HB4.out.drew.trans (hB5.mono HB4.out.size))
          obtain ⟨cd5, q13⟩ := hd5.t13
          have h13 : W5.cell? ⟨t, 13, none⟩ = some (.slice (some ⟨gd, 0, none⟩) 1 cd2) := by
            rw [World.cell?_of_block (w := wr) (hB5.block t (by have := (HTK.out _ HB4.out).2.2.2.1; have := HB4.out.size; exact Nat.lt_of_lt_of_le (by assumption) (by assumption)))]
            exact s13
          have hg5 := hd5.d0
          have HN6 : Hid (NdAt bN (ndC (.slice ao 30 cc)) (W5.setCell ⟨bN, 5, none⟩ (.slice ao 30 cc))) := Hid.mk (by
            unfold NdAt
            rw [blk_set hN5]
            rfl)
          have HB6 : Hid (Below wo.heap.size wo (W5.setCell ⟨bN, 5, none⟩ (.slice ao 30 cc))) := Hid.mk ((HBY.out.drew.trans (hB5.mono HBY.out.size)).setCell (p := ⟨bN, 5, none⟩) (by show wo.heap.size ≤ bN; rw [HBN.out]; exact Nat.le_refl _) _)
          have hne : bN ≠ t ∧ bN ≠ gd := by
            have h1 := (HTK.out _ HB4.out).2.2.2
            have h2 := HBW.out.size
            have h3 := HBN.out
            omega
          have u13 : (W5.setCell ⟨bN, 5, none⟩ (.slice ao 30 cc)).cell? ⟨t, 13, none⟩ = some (.slice (some ⟨gd, 0, none⟩) 1 cd2) := by
            rw [World.cell?_of_block (w := W5) (Below.heap_setCell _ _ _ _ (by show t ≠ bN; exact hne.1.symm))]; exact h13
          have u0 : (W5.setCell ⟨bN, 5, none⟩ (.slice ao 30 cc)).cell? ⟨gd, 0, none⟩ = some (.slice (some ae) 32 cm) := by
            rw [World.cell?_of_block (w := W5) (Below.heap_setCell _ _ _ _ (by show gd ≠ bN; exact hne.2.symm))]; exact hg5
          have HST5 : Hid ((Instr.storeAt 39 (.pointer (some ⟨bN, 5, none⟩)) (.slice ao 30 cc)).run Tryz.prog W5 = .ok () (W5.setCell ⟨bN, 5, none⟩ (.slice ao 30 cc))) := Hid.mk (by simp [go_sem, f5, z5])
          have HR5 := Hid.mk r5
          clear hd hd5 q13 hea hM r5 hB5 hN5 hne hlt
          go_upto_region 20 with fail
          refine wp_region_held_drew (S := fun W => W.cell? ⟨t, 13, none⟩ = some (.slice (some ⟨gd, 0, none⟩) 1 cd2) ∧ W.cell? ⟨gd, 0, none⟩ = some (.slice (some ae) 32 cm)) (by kernel_rfl) ⟨s13, d0⟩ (fun hH => ?_)
          change wpAnyH Tryz.prog Region.Mode.any _ _ _ 14 _ _ _
          refine takeH 0 75 (.pointer (some ⟨bN, 5, none⟩)) rfl (by kernel_rfl) (by kernel_rfl) (by kernel_rfl) (by kernel_rfl) (fun _ _ _ h => h) (by kernel_rfl) (fun w hw => by (clear hw; go_simp)) hH ?_
          simp only [List.setIfInBounds_toArray, List.set_cons_zero, List.set_cons_succ]
          refine takeH 2 77 (.pointer (some ⟨t, 0, none⟩)) rfl (by kernel_rfl) (by kernel_rfl) (by kernel_rfl) (by kernel_rfl) (fun _ _ _ h => h) (by kernel_rfl) (fun w hw => by kernel_rfl) hH ?_
          simp only [List.setIfInBounds_toArray, List.set_cons_zero, List.set_cons_succ]
          refine takeH 3 78 (.pointer (some ⟨t, 0, none⟩)) rfl (by kernel_rfl) (by kernel_rfl) (by kernel_rfl) (by kernel_rfl) (fun _ _ _ h => h) (by kernel_rfl) (fun w hw => by (clear hw; go_simp)) hH ?_
          simp only [List.setIfInBounds_toArray, List.set_cons_zero, List.set_cons_succ]
          refine takeH 4 79 (.pointer (some ⟨t, 13, none⟩)) rfl (by kernel_rfl) (by kernel_rfl) (by kernel_rfl) (by kernel_rfl) (fun _ _ _ h => h) (by kernel_rfl) (fun w hw => by (clear hw; go_simp)) hH ?_
          simp only [List.setIfInBounds_toArray, List.set_cons_zero, List.set_cons_succ]
          refine takeH 5 80 (.slice (some ⟨gd, 0, none⟩) 1 cd2) rfl (by kernel_rfl) (by kernel_rfl) (by kernel_rfl) (by kernel_rfl) (fun _ _ _ h => h) (by kernel_rfl) (fun w hw => by (obtain ⟨e0, e1⟩ := hw; go_simp)) hH ?_
          simp only [List.setIfInBounds_toArray, List.set_cons_zero, List.set_cons_succ]
          refine takeH 6 81 (.int .i64 0) rfl (by kernel_rfl) (by kernel_rfl) (by kernel_rfl) (by kernel_rfl) (fun _ _ _ h => h) (by kernel_rfl) (fun w hw => by kernel_rfl) hH ?_
          simp only [List.setIfInBounds_toArray, List.set_cons_zero, List.set_cons_succ]
          refine takeH 7 82 (.pointer (some ⟨gd, 0, none⟩)) rfl (by kernel_rfl) (by kernel_rfl) (by kernel_rfl) (by kernel_rfl) (fun _ _ _ h => h) (by kernel_rfl) (fun w hw => by (clear hw; go_simp)) hH ?_
          simp only [List.setIfInBounds_toArray, List.set_cons_zero, List.set_cons_succ]
          refine takeH 8 83 (.slice (some ae) 32 cm) rfl (by kernel_rfl) (by kernel_rfl) (by kernel_rfl) (by kernel_rfl) (fun _ _ _ h => h) (by kernel_rfl) (fun w hw => by (obtain ⟨e0, e1⟩ := hw; go_simp)) hH ?_
          simp only [List.setIfInBounds_toArray, List.set_cons_zero, List.set_cons_succ]
          refine takeH 9 84 (.int .i64 2) rfl (by kernel_rfl) (by kernel_rfl) (by kernel_rfl) (by kernel_rfl) (fun _ _ _ h => h) (by kernel_rfl) (fun w hw => by kernel_rfl) hH ?_
          simp only [List.setIfInBounds_toArray, List.set_cons_zero, List.set_cons_succ]
          refine takeH 10 85 (.slice (some (if cm = 2 then ae else ae.add 4)) 30 (cm - 2)) rfl (by kernel_rfl) (by kernel_rfl) (by kernel_rfl) (by kernel_rfl) (fun _ _ _ h => h) (by kernel_rfl) (fun w hw => by (clear hw; exact exec_from2 (x := .tmp 83) (l := .tmp 84) rfl (by kernel_rfl) (by kernel_rfl))) hH ?_
          simp only [List.setIfInBounds_toArray, List.set_cons_zero, List.set_cons_succ]
          refine stepH 1 76 (.slice none 0 0) rfl (by kernel_rfl) (by kernel_rfl) (by kernel_rfl) (by (have n6 : wr.drew.cell? ⟨bN, 5, none⟩ = some (.slice none 0 0) := n5); go_simp) hH ?_
          simp only [List.setIfInBounds_toArray, List.set_cons_zero, List.set_cons_succ]
          refine stepH_run 11 86 (.slice ao 30 cc) W5 rfl (by kernel_rfl) (by kernel_rfl) (by kernel_rfl) (Din.exec_append (s := .tmp 76) (x := .tmp 85) rfl (by kernel_rfl) (by kernel_rfl) HR5.out) ⟨h13, hg5⟩ ?_
          simp only [List.setIfInBounds_toArray, List.set_cons_zero, List.set_cons_succ]
          refine takeH 12 87 (.pointer (some ⟨bN, 5, none⟩)) rfl (by kernel_rfl) (by kernel_rfl) (by kernel_rfl) (by kernel_rfl) (fun _ _ _ h => h) (by kernel_rfl) (fun w hw => by (clear hw; go_simp)) ⟨h13, hg5⟩ ?_
          simp only [List.setIfInBounds_toArray, List.set_cons_zero, List.set_cons_succ]
          refine stepH_one 13 (by kernel_rfl) ?_
          refine opH_store 13 (W5.setCell ⟨bN, 5, none⟩ (.slice ao 30 cc)) rfl (by kernel_rfl) (by kernel_rfl) (exec_store (p := .tmp 87) (x := .tmp 86) rfl (by kernel_rfl) (by kernel_rfl) HST5.out) ⟨u13, u0⟩ ?_
          refine wpAnyH_done (by kernel_rfl) ?_ _
          clear hH n5 f5 z5 h13 hg5 u13 u0 d0 s13
          go_wp2
          go_roundw
          case rel => exact .inr ⟨rfl, ao, cc, Hid.mk ⟨HN6.out, HB6.out⟩⟩
          case measure => simp [intOf]
        · obtain ⟨hN4, hB4⟩ := HN.out
          have HB7 := Hid.mk (HBW.out.trans (hB4.mono HBW.out.size))
          have hd := HDC.out _ HB7.out
          obtain ⟨cd4, v13⟩ := hd.t13
          obtain ⟨v0, -⟩ := HTK.out _ HB7.out
          obtain ⟨gN, cN, W8, r8, k1, k2, k3, k4, hB8⟩ := nd_append wr (.slice ao 30 cc) rfl
          have HRL := Hid.mk (nd_load hN4 rfl)
          have HR8 := Hid.mk r8
          have HC8 := Hid.mk (And.intro k1 (And.intro k2 (And.intro k3 k4)))
          have HB8 := Hid.mk (HB7.out.trans (hB8.mono HB7.out.size))
          clear hd hN4 hB4 r8 k1 k2 k3 k4 hB8 HN
          go_wp2_with (first
            | (refine nd_wpload (.tmp 10) rfl rfl _ _ rfl HRL.out ?_)
            | (refine nd_wpone (.tmp 99) rfl rfl (.slice ao 30 cc) _ _ rfl rfl rfl ?_)
            | (at_builtin; refine wpList_append_known rfl (.tmp 98) (.tmp 100) 34 rfl _ _ _ _ rfl rfl HR8.out ?_))
          go_roundw
          case rel => exact ⟨HB8, .inr ⟨2, gN, cN, ao, cc, Nat.le_refl _, by omega, rfl, rfl, HC8⟩⟩
          case measure => simp [intOf]; omega
    · by_cases hlt : ino < ni + 1
      · have hi : (ino : Int) < (ni : Int) + 1 := by omega
        have qb := hd.tb ino hlt
        rw [if_neg (show ¬ ino = 1 by omega)] at qb
        clear hd
        go_wp2
        go_roundw
        case rel => exact ⟨HBW, .inr ⟨ino + 1, gN, cN, ao, cc, by omega, by omega, by go_num, rfl, HC⟩⟩
        case measure => simp [intOf]; omega
      · have hi : ¬ (ino : Int) < (ni : Int) + 1 := by omega
        clear hd
        go_wp2
        go_ret2
        obtain ⟨k1, k2, k3, k4⟩ := HC.out
        exact ⟨gN, cN, rfl, k1, k2, k3, ⟨ao, cc, k4⟩, HB3.out.trans (HBW.out.mono HB3.out.size)⟩
end Mk
end Go.Proofs.YtejnmpnioeamhaaGreat
