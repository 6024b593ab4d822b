/-
  A repair of an empty file system: fix.
-/
import Derived.Test.YtejnmpnioeamhaaGreatWhEnts
namespace Go.Proofs.YtejnmpnioeamhaaGreat
open Go Go.Proofs Go.RowKit Go.Shelf
namespace Mk
open Sup (superL headL maskL nI nD bD)
open Din (inoL fineL inoV NAt)
open Ent (blockL okB EAt Ey entV noS noE)
theorem infoT : (Tryz.prog.info? 68).map (fun i => (i.zero, i.size, i.bytes)) = some (some (.pointer none), 1, 8) := by kernel_rfl
/-- make([]*taken, n). -/
theorem maket_run (w : World) (n : Nat) (hn : n ≤ 1000) : (Instr.makeSlice 65 (.int .i64 n) (.int .i64 n)).run Tryz.prog w = .ok (.slice (some ⟨w.heap.size, 0, none⟩) n n) (w.alloc (.cells (nils n).toArray 68)) := by
  cases hi : Tryz.prog.info? 68 with
  | none => have := infoT; rw [hi] at this; cases this
  | some i0 =>
    have h2 := infoT
    rw [hi] at h2
    simp at h2
    obtain ⟨hz0, hz1, hz2⟩ := h2
    rw [run_makeSlice (P := Tryz.prog) w 65 68 i0 (.pointer none) Tryz.underlying65 hi hz0 .i64 .i64 n n (by omega) (by omega) (by rw [hz1]; simp; omega) (by rw [hz2]; omega) (by omega)]
    have e : madeCells (Value.pointer none).cells ((n : Int).toNat * i0.size) = (nils n).toArray := by
      rw [hz1]
      apply Array.ext'
      rw [show (nils n).toArray.toList = List.replicate n (Value.pointer none) by simp [nils], List.eq_replicate_iff]
      simp [madeCells, Value.cells, Nat.mod_one]
    rw [e]
    simp
theorem gat_new {b : Nat} {G I D : Int} {W : World} {o : Obj} (h : GAt b G I D W) : GAt b G I D (W.alloc o) := h.below ((Below.refl _ W).alloc (Nat.le_refl _) o) h.lt
theorem exec_boxd {ev : Operand → Value} {oi : Oper} {x : Operand} {v a b c : Value} {W : World} (ho : oi.op = .box 50 x) (hx : ev x = .agg #[v, a, b, c]) : (execOp ev oi).run Tryz.prog W = .ok (.value (.pointer (some ⟨W.heap.size, 0, none⟩))) (W.alloc (.cells #[v, a, b, c] 50)) := by
  unfold execOp
  rw [ho]
  simp only [hx]
  simp [Instr.box, newVar, newRow, Value.cells]
theorem exec_boxr {ev : Operand → Value} {oi : Oper} {x : Operand} {v a b c d : Value} {W : World} (ho : oi.op = .box 67 x) (hx : ev x = .agg #[v, a, b, c, d]) : (execOp ev oi).run Tryz.prog W = .ok (.value (.pointer (some ⟨W.heap.size, 0, none⟩))) (W.alloc (.cells #[v, a, b, c, d] 67)) := by
  unfold execOp
  rw [ho]
  simp only [hx]
  simp [Instr.box, newVar, newRow, Value.cells]
theorem maket_run2 (w : World) (N : Nat) (hn : N ≤ 900) : (Instr.makeSlice 65 (.int .i64 (N + 1)) (.int .i64 (N + 1))).run Tryz.prog w = .ok (.slice (some ⟨w.heap.size, 0, none⟩) (N + 1) (N + 1)) (w.alloc (.cells (nils (N + 1)).toArray 68)) := by
  have h := maket_run w (N + 1) (by omega)
  simpa only [Int.natCast_add, Int.natCast_one] using h
theorem exec_make {P : Program} {ev : Operand → Value} {oi : Oper} {t : TypeId} {l c : Operand} {vl vc v' : Value} {w w' : World} (ho : oi.op = .makeSlice t l c) (hl : ev l = vl) (hc : ev c = vc) (h : (Instr.makeSlice t vl vc).run P w = .ok v' w') : (execOp ev oi).run P w = .ok (.value v') w' := by
  unfold execOp
  simp only [ho, Sem.run_bind, Sem.run_pure, Result.andThen_ok, hl, hc, h]
section
variable {P : Program} {ops : Array Oper} {Q : Exit → Act → World → Prop} {md : Region.Mode} {S : World → Prop} {fuel : Nat} {listed : Array Bool} {t : Array Value} {w : World}
theorem stepH_three (i j k : Nat) (hr : Region.ready md ops listed = [i, j, k])
    (h1 : wpOp P ops Q i (fun a' w' => S w' ∧ wpAnyH P md ops Q S fuel (listed.setIfInBounds i true) a' w') { tmps := t, defers := [] } w)
    (h2 : wpOp P ops Q j (fun a' w' => S w' ∧ wpAnyH P md ops Q S fuel (listed.setIfInBounds j true) a' w') { tmps := t, defers := [] } w)
    (h3 : wpOp P ops Q k (fun a' w' => S w' ∧ wpAnyH P md ops Q S fuel (listed.setIfInBounds k true) a' w') { tmps := t, defers := [] } w) : wpAnyH P md ops Q S (fuel + 1) listed { tmps := t, defers := [] } w := by
  refine wpAnyH_all hr (by simp) (fun x hx => ?_)
  simp at hx
  rcases hx with rfl | rfl | rfl
  · exact h1
  · exact h2
  · exact h3
end
/-- What fix has made so far: a disk, claims, inodes. -/
structure FxS (w : World) (g n nb nt : Nat) (G I D : Int) (xs : List Int) (od oc ot : Option Nat) (W : World) : Prop where
  geo : GAt w.heap.size G I D W
  row : RAt W g xs
  below : Below w.heap.size w W
  dk : ∀ d, od = some d → W.heap[d]? = some (.cells #[.slice (some ⟨g, 0, none⟩) n n, .int .i64 G, .int .i64 I, .int .i64 D] 50 (0, 0)) ∧ w.heap.size < d
  cl : ∀ c, oc = some c → W.heap[c]? = some (.cells (fals nb).toArray 4 (0, 0)) ∧ w.heap.size < c
  tb : ∀ t, ot = some t → W.heap[t]? = some (.cells (nils nt).toArray 68 (0, 0)) ∧ w.heap.size < t
  dc : ∀ d c, od = some d → oc = some c → d ≠ c
  dt : ∀ d t, od = some d → ot = some t → d ≠ t
  ct : ∀ c t, oc = some c → ot = some t → c ≠ t
theorem FxS.new {w : World} {g n nb nt : Nat} {G I D : Int} {xs : List Int} {od oc ot : Option Nat} {W W' : World} (h : FxS w g n nb nt G I D xs od oc ot W) (hB : Below W.heap.size W W') : FxS w g n nb nt G I D xs od oc ot W' :=
  ⟨h.geo.below hB h.geo.lt, h.row.below hB h.row.lt, h.below.trans (hB.mono h.below.size), fun d e => ⟨(hB.block _ (lt_of_block (h.dk d e).1)).trans (h.dk d e).1, (h.dk d e).2⟩, fun d e => ⟨(hB.block _ (lt_of_block (h.cl d e).1)).trans (h.cl d e).1, (h.cl d e).2⟩, fun d e => ⟨(hB.block _ (lt_of_block (h.tb d e).1)).trans (h.tb d e).1, (h.tb d e).2⟩, h.dc, h.dt, h.ct⟩
theorem FxS.addD {w : World} {g n nb nt : Nat} {G I D : Int} {xs : List Int} {oc ot : Option Nat} {W : World} (h : FxS w g n nb nt G I D xs none oc ot W) : FxS w g n nb nt G I D xs (some W.heap.size) oc ot (W.alloc (.cells #[.slice (some ⟨g, 0, none⟩) n n, .int .i64 G, .int .i64 I, .int .i64 D] 50)) := by
  have h1 := h.new ((Below.refl _ W).alloc (Nat.le_refl _) (.cells #[.slice (some ⟨g, 0, none⟩) n n, .int .i64 G, .int .i64 I, .int .i64 D] 50))
  exact ⟨h1.geo, h1.row, h1.below, fun d e => by cases e; exact ⟨blk_new W _, h.geo.lt⟩, h1.cl, h1.tb, fun d c e f => by cases e; have := lt_of_block (h.cl c f).1; omega, fun d c e f => by cases e; have := lt_of_block (h.tb c f).1; omega, h.ct⟩
theorem FxS.addC {w : World} {g n nb nt : Nat} {G I D : Int} {xs : List Int} {od ot : Option Nat} {W : World} (h : FxS w g n nb nt G I D xs od none ot W) : FxS w g n nb nt G I D xs od (some W.heap.size) ot (W.alloc (.cells (fals nb).toArray 4)) := by
  have h1 := h.new ((Below.refl _ W).alloc (Nat.le_refl _) (.cells (fals nb).toArray 4))
  exact ⟨h1.geo, h1.row, h1.below, h1.dk, fun d e => by cases e; exact ⟨blk_new W _, h.geo.lt⟩, h1.tb, fun d c e f => by cases f; have := lt_of_block (h.dk d e).1; omega, h.dt, fun d c e f => by cases e; have := lt_of_block (h.tb c f).1; omega⟩
theorem FxS.addT {w : World} {g n nb nt : Nat} {G I D : Int} {xs : List Int} {od oc : Option Nat} {W : World} (h : FxS w g n nb nt G I D xs od oc none W) : FxS w g n nb nt G I D xs od oc (some W.heap.size) (W.alloc (.cells (nils nt).toArray 68)) := by
  have h1 := h.new ((Below.refl _ W).alloc (Nat.le_refl _) (.cells (nils nt).toArray 68))
  exact ⟨h1.geo, h1.row, h1.below, h1.dk, h1.cl, fun d e => by cases e; exact ⟨blk_new W _, h.geo.lt⟩, h.dc, fun d c e f => by cases f; have := lt_of_block (h.dk d e).1; omega, fun d c e f => by cases f; have := lt_of_block (h.cl d e).1; omega⟩
theorem FxS.fin {w : World} {g n nb nt : Nat} {G I D : Int} {xs : List Int} {d c t : Nat} {W : World} (h : FxS w g n nb nt G I D xs (some d) (some c) (some t) W) (hg : g < w.heap.size) :
    RpAt ⟨d, g, W.heap.size, c, t⟩ n nb nt G I D xs (.slice none 0 0) (fals nb) (nils nt) (W.alloc (.cells #[.pointer (some ⟨d, 0, none⟩), .slice (some ⟨c, 0, none⟩) nb nb, .slice (some ⟨t, 0, none⟩) nt nt, .slice none 0 0, .bool false] 67)) ∧ Below w.heap.size w (W.alloc (.cells #[.pointer (some ⟨d, 0, none⟩), .slice (some ⟨c, 0, none⟩) nb nb, .slice (some ⟨t, 0, none⟩) nt nt, .slice none 0 0, .bool false] 67)) ∧ w.heap.size ≤ c ∧ w.heap.size ≤ t ∧ w.heap.size ≤ W.heap.size := by
  have h1 := h.new ((Below.refl _ W).alloc (Nat.le_refl _) (.cells #[.pointer (some ⟨d, 0, none⟩), .slice (some ⟨c, 0, none⟩) nb nb, .slice (some ⟨t, 0, none⟩) nt nt, .slice none 0 0, .bool false] 67))
  have l1 := lt_of_block (h.dk d rfl).1
  have l2 := lt_of_block (h.cl c rfl).1
  have l3 := lt_of_block (h.tb t rfl).1
  have l4 := h.row.lt
  have g1 := (h.dk d rfl).2
  have g2 := (h.cl c rfl).2
  have g3 := (h.tb t rfl).2
  have e1 := h.dc d c rfl rfl
  have e2 := h.dt d t rfl rfl
  have e3 := h.ct c t rfl rfl
  exact ⟨⟨⟨(h1.dk d rfl).1, h1.row⟩, blk_new W _, (h1.cl c rfl).1, (h1.tb t rfl).1, ⟨by dsimp only; omega, by dsimp only; omega, by dsimp only; omega, by dsimp only; omega, by dsimp only; omega, by dsimp only; omega, by dsimp only; omega, by dsimp only; omega, by dsimp only; omega⟩⟩, h1.below, by omega, by omega, h.below.size⟩
set_option maxRecDepth 100000 in
set_option maxHeartbeats 16000000 in
theorem fix_root (w : World) (g n : Nat) (G I D : Int) (hg : good G I D = true) (xs : List Int) (hr : RAt w g xs) (hx : ImgIs G I D xs) (hn : n = totN G I D * 1024) :
    Calls Tryz.prog 22 #[.slice (some ⟨g, 0, none⟩) n n, geo G I D] w fun e w' => ∃ p t gl c go co gd cd ae cm, e = .returned (.pointer (some ⟨p.r, 0, none⟩)) ∧ p.g = g ∧ DrAt p n (blkN G D) (inoN G I + 1) G I D xs t gl c go co gd cd (.slice (some ae) 32 cm) w' ∧ EAt w' (some ae) 32 freeL ∧ Below w.heap.size w w' := by
  obtain ⟨b1, b2, b3⟩ := blk_is hg
  obtain ⟨i1, i2, i3⟩ := ino_is hg
  have HBL : Hid (∀ W : World, Calls Tryz.prog 45 #[geo G I D] W fun e w' => e = .returned (.int .i64 (blkN G D : Int)) ∧ Below W.heap.size W w') := Hid.mk (fun W => by
    have h := rblocks_any W G I D
    rwa [b1] at h)
  have HIN : Hid (∀ W : World, Calls Tryz.prog 37 #[geo G I D] W fun e w' => e = .returned (.int .i64 (inoN G I : Int)) ∧ Below W.heap.size W w') := Hid.mk (fun W => by
    have h := rinodes_any W G I D
    rwa [i1] at h)
  have HRT := Hid.mk (fun W p hrp => root_root W p n (blkN G D) (inoN G I + 1) G I D hg ⟨b2, b3⟩ ⟨by omega, by omega⟩ xs hx hn hrp)
  have HEN := Hid.mk (fun W p t gl c go co htn => rentries_root W p n (blkN G D) (inoN G I + 1) G I D hg ⟨by omega, by omega⟩ xs hx hn t gl c go co htn)
  have HGL : Hid (g < w.heap.size) := Hid.mk hr.lt
  have hB0 : Below w.heap.size w (w.alloc (.cells #[.int .i64 G, .int .i64 I, .int .i64 D] 23)) := (Below.refl _ w).alloc (Nat.le_refl _) _
  have HF0 : Hid (FxS w g n (blkN G D) (inoN G I + 1) G I D xs none none none (w.alloc (.cells #[.int .i64 G, .int .i64 I, .int .i64 D] 23)).drew) := Hid.mk ⟨GAt.new w G I D, hr.below hB0.drew hr.lt, hB0.drew, fun _ e => by (cases e), fun _ e => by (cases e), fun _ e => by (cases e), fun _ _ e => by (cases e), fun _ _ e => by (cases e), fun _ _ e => by (cases e)⟩
  generalize blkN G D = nb at *
  generalize inoN G I = N at *
  clear hr hx hn hg b1 i1 hB0
  go_enter Tryz.func22, Tryz.ntmps22
  go_upto_region 1 with fail
  go_cut [5] from 7 to 19 (fun v wx => ∃ p : Rp, v = .pointer (some ⟨p.r, 0, none⟩) ∧ p.g = g ∧ RpAt p n nb (N + 1) G I D xs (.slice none 0 0) (fals nb) (nils (N + 1)) wx ∧ Below w.heap.size w wx ∧ w.heap.size ≤ p.cb ∧ w.heap.size ≤ p.tb ∧ w.heap.size ≤ p.r)
  case first =>
    refine wp_region_held_drew (S := GAt w.heap.size G I D) (by kernel_rfl) HF0.out.geo (fun hS0 => ?_)
    change wpAnyH Tryz.prog Region.Mode.any _ _ _ 14 _ _ _
    refine takeH 0 7 (.slice (some ⟨g, 0, none⟩) n n) rfl (by kernel_rfl) (by kernel_rfl) (by kernel_rfl) (by kernel_rfl) (fun _ _ _ h => h) (by kernel_rfl) (fun w hw => by kernel_rfl) hS0 ?_
    simp only [List.setIfInBounds_toArray, List.set_cons_zero, List.set_cons_succ]
    refine takeH 1 8 (geo G I D) rfl (by kernel_rfl) (by kernel_rfl) (by kernel_rfl) (by kernel_rfl) (fun _ _ _ h => h) (by kernel_rfl) (fun w hw => by ((obtain ⟨g0, g1, g2⟩ := hw.g3); clear hw; go_simp)) hS0 ?_
    simp only [List.setIfInBounds_toArray, List.set_cons_zero, List.set_cons_succ]
    refine takeH 2 9 (.agg #[.slice (some ⟨g, 0, none⟩) n n, .int .i64 G, .int .i64 I, .int .i64 D]) rfl (by kernel_rfl) (by kernel_rfl) (by kernel_rfl) (by kernel_rfl) (fun _ _ _ h => h) (by kernel_rfl) (fun w hw => by (clear hw; go_simp)) hS0 ?_
    simp only [List.setIfInBounds_toArray, List.set_cons_zero, List.set_cons_succ]
    refine takeH 4 11 (geo G I D) rfl (by kernel_rfl) (by kernel_rfl) (by kernel_rfl) (by kernel_rfl) (fun _ _ _ h => h) (by kernel_rfl) (fun w hw => by ((obtain ⟨g0, g1, g2⟩ := hw.g3); clear hw; go_simp)) hS0 ?_
    simp only [List.setIfInBounds_toArray, List.set_cons_zero, List.set_cons_succ]
    refine takeH 7 14 (geo G I D) rfl (by kernel_rfl) (by kernel_rfl) (by kernel_rfl) (by kernel_rfl) (fun _ _ _ h => h) (by kernel_rfl) (fun w hw => by ((obtain ⟨g0, g1, g2⟩ := hw.g3); clear hw; go_simp)) hS0 ?_
    simp only [List.setIfInBounds_toArray, List.set_cons_zero, List.set_cons_succ]
    generalize (w.alloc (.cells #[.int .i64 G, .int .i64 I, .int .i64 D] 23)).drew = V0 at *
    refine stepH_two 3 5 (by kernel_rfl) ?_ ?_
    · refine opH_run 3 10 (.pointer (some ⟨V0.heap.size, 0, none⟩)) (V0.alloc (.cells #[.slice (some ⟨g, 0, none⟩) n n, .int .i64 G, .int .i64 I, .int .i64 D] 50)) rfl (by kernel_rfl) (by kernel_rfl) (exec_boxd (x := .tmp 9) rfl (by kernel_rfl)) (gat_new hS0) ?_
      simp only [List.setIfInBounds_toArray, List.set_cons_zero, List.set_cons_succ]
      have HF1 := Hid.mk HF0.out.addD
      have hS1 := gat_new (o := (.cells #[.slice (some ⟨g, 0, none⟩) n n, .int .i64 G, .int .i64 I, .int .i64 D] 50)) hS0
      clear HF0
      generalize V0.alloc (.cells #[.slice (some ⟨g, 0, none⟩) n n, .int .i64 G, .int .i64 I, .int .i64 D] 50) = V1qx3 at *
      generalize V0.heap.size = b1k3 at *
      refine stepH_one 5 (by kernel_rfl) ?_
      · refine opH_call 5 12 rfl (by kernel_rfl) (by kernel_rfl) 45 #[.tmp 11] #[23] (by kernel_rfl) (enters_of Tryz.func45 (by kernel_rfl) rfl) #[geo G I D] (by kernel_rfl) (HBL.out _) ?_
        rintro e V2q3x5 ⟨rfl, hB2⟩
        have HF2 := Hid.mk (HF1.out.new hB2)
        have hS2 := HF2.out.geo
        clear HF1 hB2
        refine ⟨_, rfl, hS2, ?_⟩
        simp only [List.setIfInBounds_toArray, List.set_cons_zero, List.set_cons_succ]
        refine stepH_two 6 8 (by kernel_rfl) ?_ ?_
        · refine opH_run 6 13 (.slice (some ⟨V2q3x5.heap.size, 0, none⟩) nb nb) (V2q3x5.alloc (.cells (fals nb).toArray 4)) rfl (by kernel_rfl) (by kernel_rfl) (exec_make (l := .tmp 12) (c := .tmp 12) rfl (by kernel_rfl) (by kernel_rfl) (makeb_run V2q3x5 nb (by omega))) (gat_new hS2) ?_
          simp only [List.setIfInBounds_toArray, List.set_cons_zero, List.set_cons_succ]
          have HF3 := Hid.mk HF2.out.addC
          have hS3 := gat_new (o := (.cells (fals nb).toArray 4)) hS2
          clear HF2
          generalize V2q3x5.alloc (.cells (fals nb).toArray 4) = V3q35x6 at *
          generalize V2q3x5.heap.size = b3k6 at *
          refine stepH_one 8 (by kernel_rfl) ?_
          · refine opH_call 8 15 rfl (by kernel_rfl) (by kernel_rfl) 37 #[.tmp 14] #[23] (by kernel_rfl) (enters_of Tryz.func37 (by kernel_rfl) rfl) #[geo G I D] (by kernel_rfl) (HIN.out _) ?_
            rintro e V4q356x8 ⟨rfl, hB4⟩
            have HF4 := Hid.mk (HF3.out.new hB4)
            have hS4 := HF4.out.geo
            clear HF3 hB4
            refine ⟨_, rfl, hS4, ?_⟩
            simp only [List.setIfInBounds_toArray, List.set_cons_zero, List.set_cons_succ]
            refine takeH 9 16 (.int .i64 (N + 1)) rfl (by kernel_rfl) (by kernel_rfl) (by kernel_rfl) (by kernel_rfl) (fun _ _ _ h => h) (by kernel_rfl) (fun w hw => by (clear hw; go_simp; rw [IntKind.wrap_i64]; omega)) hS4 ?_
            simp only [List.setIfInBounds_toArray, List.set_cons_zero, List.set_cons_succ]
            refine stepH_one 10 (by kernel_rfl) ?_
            · refine opH_run 10 17 (.slice (some ⟨V4q356x8.heap.size, 0, none⟩) (N + 1) (N + 1)) (V4q356x8.alloc (.cells (nils (N + 1)).toArray 68)) rfl (by kernel_rfl) (by kernel_rfl) (exec_make (l := .tmp 16) (c := .tmp 16) rfl (by kernel_rfl) (by kernel_rfl) (maket_run2 V4q356x8 N (by omega))) (gat_new hS4) ?_
              simp only [List.setIfInBounds_toArray, List.set_cons_zero, List.set_cons_succ]
              have HF5 := Hid.mk HF4.out.addT
              have hS5 := gat_new (o := (.cells (nils (N + 1)).toArray 68)) hS4
              clear HF4
              generalize V4q356x8.alloc (.cells (nils (N + 1)).toArray 68) = V5q3568x10 at *
              generalize V4q356x8.heap.size = b5k10 at *
              refine takeH 11 18 (.agg #[.pointer (some ⟨b1k3, 0, none⟩), .slice (some ⟨b3k6, 0, none⟩) nb nb, .slice (some ⟨b5k10, 0, none⟩) (N + 1) (N + 1), .slice none 0 0, .bool false]) rfl (by kernel_rfl) (by kernel_rfl) (by kernel_rfl) (by kernel_rfl) (fun _ _ _ h => h) (by kernel_rfl) (fun w hw => by (clear hw; go_simp)) hS5 ?_
              simp only [List.setIfInBounds_toArray, List.set_cons_zero, List.set_cons_succ]
              obtain ⟨hrpF, hbF, hcF, htF, hrF⟩ := HF5.out.fin HGL.out
              refine stepH_run 12 19 (.pointer (some ⟨V5q3568x10.heap.size, 0, none⟩)) (V5q3568x10.alloc (.cells #[.pointer (some ⟨b1k3, 0, none⟩), .slice (some ⟨b3k6, 0, none⟩) nb nb, .slice (some ⟨b5k10, 0, none⟩) (N + 1) (N + 1), .slice none 0 0, .bool false] 67)) rfl (by kernel_rfl) (by kernel_rfl) (by kernel_rfl) (exec_boxr (x := .tmp 18) rfl (by kernel_rfl)) (gat_new hS5) ?_
              simp only [List.setIfInBounds_toArray, List.set_cons_zero, List.set_cons_succ]
              refine takeH 13 5 (.pointer (some ⟨V5q3568x10.heap.size, 0, none⟩)) rfl (by kernel_rfl) (by kernel_rfl) (by kernel_rfl) (by kernel_rfl) (fun _ _ _ h => h) (by kernel_rfl) (fun w hw => by kernel_rfl) (gat_new hS5) ?_
              simp only [List.setIfInBounds_toArray, List.set_cons_zero, List.set_cons_succ]
              refine wpAnyH_done (by kernel_rfl) ?_ _
              go_wp2_with fail
              go_meet
              case rel => exact ⟨⟨b1k3, g, V5q3568x10.heap.size, b3k6, b5k10⟩, rfl, rfl, hrpF, hbF, hcF, htF, hrF⟩
        · refine opH_call 8 15 rfl (by kernel_rfl) (by kernel_rfl) 37 #[.tmp 14] #[23] (by kernel_rfl) (enters_of Tryz.func37 (by kernel_rfl) rfl) #[geo G I D] (by kernel_rfl) (HIN.out _) ?_
          rintro e V3q35x8 ⟨rfl, hB3⟩
          have HF3 := Hid.mk (HF2.out.new hB3)
          have hS3 := HF3.out.geo
          clear HF2 hB3
          refine ⟨_, rfl, hS3, ?_⟩
          simp only [List.setIfInBounds_toArray, List.set_cons_zero, List.set_cons_succ]
          refine takeH 9 16 (.int .i64 (N + 1)) rfl (by kernel_rfl) (by kernel_rfl) (by kernel_rfl) (by kernel_rfl) (fun _ _ _ h => h) (by kernel_rfl) (fun w hw => by (clear hw; go_simp; rw [IntKind.wrap_i64]; omega)) hS3 ?_
          simp only [List.setIfInBounds_toArray, List.set_cons_zero, List.set_cons_succ]
          refine stepH_two 6 10 (by kernel_rfl) ?_ ?_
          · refine opH_run 6 13 (.slice (some ⟨V3q35x8.heap.size, 0, none⟩) nb nb) (V3q35x8.alloc (.cells (fals nb).toArray 4)) rfl (by kernel_rfl) (by kernel_rfl) (exec_make (l := .tmp 12) (c := .tmp 12) rfl (by kernel_rfl) (by kernel_rfl) (makeb_run V3q35x8 nb (by omega))) (gat_new hS3) ?_
            simp only [List.setIfInBounds_toArray, List.set_cons_zero, List.set_cons_succ]
            have HF4 := Hid.mk HF3.out.addC
            have hS4 := gat_new (o := (.cells (fals nb).toArray 4)) hS3
            clear HF3
            generalize V3q35x8.alloc (.cells (fals nb).toArray 4) = V4q358x6 at *
            generalize V3q35x8.heap.size = b4k6 at *
            refine stepH_one 10 (by kernel_rfl) ?_
            · refine opH_run 10 17 (.slice (some ⟨V4q358x6.heap.size, 0, none⟩) (N + 1) (N + 1)) (V4q358x6.alloc (.cells (nils (N + 1)).toArray 68)) rfl (by kernel_rfl) (by kernel_rfl) (exec_make (l := .tmp 16) (c := .tmp 16) rfl (by kernel_rfl) (by kernel_rfl) (maket_run2 V4q358x6 N (by omega))) (gat_new hS4) ?_
              simp only [List.setIfInBounds_toArray, List.set_cons_zero, List.set_cons_succ]
              have HF5 := Hid.mk HF4.out.addT
              have hS5 := gat_new (o := (.cells (nils (N + 1)).toArray 68)) hS4
              clear HF4
              generalize V4q358x6.alloc (.cells (nils (N + 1)).toArray 68) = V5q3568x10 at *
              generalize V4q358x6.heap.size = b5k10 at *
              refine takeH 11 18 (.agg #[.pointer (some ⟨b1k3, 0, none⟩), .slice (some ⟨b4k6, 0, none⟩) nb nb, .slice (some ⟨b5k10, 0, none⟩) (N + 1) (N + 1), .slice none 0 0, .bool false]) rfl (by kernel_rfl) (by kernel_rfl) (by kernel_rfl) (by kernel_rfl) (fun _ _ _ h => h) (by kernel_rfl) (fun w hw => by (clear hw; go_simp)) hS5 ?_
              simp only [List.setIfInBounds_toArray, List.set_cons_zero, List.set_cons_succ]
              obtain ⟨hrpF, hbF, hcF, htF, hrF⟩ := HF5.out.fin HGL.out
              refine stepH_run 12 19 (.pointer (some ⟨V5q3568x10.heap.size, 0, none⟩)) (V5q3568x10.alloc (.cells #[.pointer (some ⟨b1k3, 0, none⟩), .slice (some ⟨b4k6, 0, none⟩) nb nb, .slice (some ⟨b5k10, 0, none⟩) (N + 1) (N + 1), .slice none 0 0, .bool false] 67)) rfl (by kernel_rfl) (by kernel_rfl) (by kernel_rfl) (exec_boxr (x := .tmp 18) rfl (by kernel_rfl)) (gat_new hS5) ?_
              simp only [List.setIfInBounds_toArray, List.set_cons_zero, List.set_cons_succ]
              refine takeH 13 5 (.pointer (some ⟨V5q3568x10.heap.size, 0, none⟩)) rfl (by kernel_rfl) (by kernel_rfl) (by kernel_rfl) (by kernel_rfl) (fun _ _ _ h => h) (by kernel_rfl) (fun w hw => by kernel_rfl) (gat_new hS5) ?_
              simp only [List.setIfInBounds_toArray, List.set_cons_zero, List.set_cons_succ]
              refine wpAnyH_done (by kernel_rfl) ?_ _
              go_wp2_with fail
              go_meet
              case rel => exact ⟨⟨b1k3, g, V5q3568x10.heap.size, b4k6, b5k10⟩, rfl, rfl, hrpF, hbF, hcF, htF, hrF⟩
          · refine opH_run 10 17 (.slice (some ⟨V3q35x8.heap.size, 0, none⟩) (N + 1) (N + 1)) (V3q35x8.alloc (.cells (nils (N + 1)).toArray 68)) rfl (by kernel_rfl) (by kernel_rfl) (exec_make (l := .tmp 16) (c := .tmp 16) rfl (by kernel_rfl) (by kernel_rfl) (maket_run2 V3q35x8 N (by omega))) (gat_new hS3) ?_
            simp only [List.setIfInBounds_toArray, List.set_cons_zero, List.set_cons_succ]
            have HF4 := Hid.mk HF3.out.addT
            have hS4 := gat_new (o := (.cells (nils (N + 1)).toArray 68)) hS3
            clear HF3
            generalize V3q35x8.alloc (.cells (nils (N + 1)).toArray 68) = V4q358x10 at *
            generalize V3q35x8.heap.size = b4k10 at *
            refine stepH_one 6 (by kernel_rfl) ?_
            · refine opH_run 6 13 (.slice (some ⟨V4q358x10.heap.size, 0, none⟩) nb nb) (V4q358x10.alloc (.cells (fals nb).toArray 4)) rfl (by kernel_rfl) (by kernel_rfl) (exec_make (l := .tmp 12) (c := .tmp 12) rfl (by kernel_rfl) (by kernel_rfl) (makeb_run V4q358x10 nb (by omega))) (gat_new hS4) ?_
              simp only [List.setIfInBounds_toArray, List.set_cons_zero, List.set_cons_succ]
              have HF5 := Hid.mk HF4.out.addC
              have hS5 := gat_new (o := (.cells (fals nb).toArray 4)) hS4
              clear HF4
              generalize V4q358x10.alloc (.cells (fals nb).toArray 4) = V5q35810x6 at *
              generalize V4q358x10.heap.size = b5k6 at *
              refine takeH 11 18 (.agg #[.pointer (some ⟨b1k3, 0, none⟩), .slice (some ⟨b5k6, 0, none⟩) nb nb, .slice (some ⟨b4k10, 0, none⟩) (N + 1) (N + 1), .slice none 0 0, .bool false]) rfl (by kernel_rfl) (by kernel_rfl) (by kernel_rfl) (by kernel_rfl) (fun _ _ _ h => h) (by kernel_rfl) (fun w hw => by (clear hw; go_simp)) hS5 ?_
              simp only [List.setIfInBounds_toArray, List.set_cons_zero, List.set_cons_succ]
              obtain ⟨hrpF, hbF, hcF, htF, hrF⟩ := HF5.out.fin HGL.out
              refine stepH_run 12 19 (.pointer (some ⟨V5q35810x6.heap.size, 0, none⟩)) (V5q35810x6.alloc (.cells #[.pointer (some ⟨b1k3, 0, none⟩), .slice (some ⟨b5k6, 0, none⟩) nb nb, .slice (some ⟨b4k10, 0, none⟩) (N + 1) (N + 1), .slice none 0 0, .bool false] 67)) rfl (by kernel_rfl) (by kernel_rfl) (by kernel_rfl) (exec_boxr (x := .tmp 18) rfl (by kernel_rfl)) (gat_new hS5) ?_
              simp only [List.setIfInBounds_toArray, List.set_cons_zero, List.set_cons_succ]
              refine takeH 13 5 (.pointer (some ⟨V5q35810x6.heap.size, 0, none⟩)) rfl (by kernel_rfl) (by kernel_rfl) (by kernel_rfl) (by kernel_rfl) (fun _ _ _ h => h) (by kernel_rfl) (fun w hw => by kernel_rfl) (gat_new hS5) ?_
              simp only [List.setIfInBounds_toArray, List.set_cons_zero, List.set_cons_succ]
              refine wpAnyH_done (by kernel_rfl) ?_ _
              go_wp2_with fail
              go_meet
              case rel => exact ⟨⟨b1k3, g, V5q35810x6.heap.size, b5k6, b4k10⟩, rfl, rfl, hrpF, hbF, hcF, htF, hrF⟩
    · refine opH_call 5 12 rfl (by kernel_rfl) (by kernel_rfl) 45 #[.tmp 11] #[23] (by kernel_rfl) (enters_of Tryz.func45 (by kernel_rfl) rfl) #[geo G I D] (by kernel_rfl) (HBL.out _) ?_
      rintro e V1qx5 ⟨rfl, hB1⟩
      have HF1 := Hid.mk (HF0.out.new hB1)
      have hS1 := HF1.out.geo
      clear HF0 hB1
      refine ⟨_, rfl, hS1, ?_⟩
      simp only [List.setIfInBounds_toArray, List.set_cons_zero, List.set_cons_succ]
      refine stepH_three 3 6 8 (by kernel_rfl) ?_ ?_ ?_
      · refine opH_run 3 10 (.pointer (some ⟨V1qx5.heap.size, 0, none⟩)) (V1qx5.alloc (.cells #[.slice (some ⟨g, 0, none⟩) n n, .int .i64 G, .int .i64 I, .int .i64 D] 50)) rfl (by kernel_rfl) (by kernel_rfl) (exec_boxd (x := .tmp 9) rfl (by kernel_rfl)) (gat_new hS1) ?_
        simp only [List.setIfInBounds_toArray, List.set_cons_zero, List.set_cons_succ]
        have HF2 := Hid.mk HF1.out.addD
        have hS2 := gat_new (o := (.cells #[.slice (some ⟨g, 0, none⟩) n n, .int .i64 G, .int .i64 I, .int .i64 D] 50)) hS1
        clear HF1
        generalize V1qx5.alloc (.cells #[.slice (some ⟨g, 0, none⟩) n n, .int .i64 G, .int .i64 I, .int .i64 D] 50) = V2q5x3 at *
        generalize V1qx5.heap.size = b2k3 at *
        refine stepH_two 6 8 (by kernel_rfl) ?_ ?_
        · refine opH_run 6 13 (.slice (some ⟨V2q5x3.heap.size, 0, none⟩) nb nb) (V2q5x3.alloc (.cells (fals nb).toArray 4)) rfl (by kernel_rfl) (by kernel_rfl) (exec_make (l := .tmp 12) (c := .tmp 12) rfl (by kernel_rfl) (by kernel_rfl) (makeb_run V2q5x3 nb (by omega))) (gat_new hS2) ?_
          simp only [List.setIfInBounds_toArray, List.set_cons_zero, List.set_cons_succ]
          have HF3 := Hid.mk HF2.out.addC
          have hS3 := gat_new (o := (.cells (fals nb).toArray 4)) hS2
          clear HF2
          generalize V2q5x3.alloc (.cells (fals nb).toArray 4) = V3q35x6 at *
          generalize V2q5x3.heap.size = b3k6 at *
          refine stepH_one 8 (by kernel_rfl) ?_
          · refine opH_call 8 15 rfl (by kernel_rfl) (by kernel_rfl) 37 #[.tmp 14] #[23] (by kernel_rfl) (enters_of Tryz.func37 (by kernel_rfl) rfl) #[geo G I D] (by kernel_rfl) (HIN.out _) ?_
            rintro e V4q356x8 ⟨rfl, hB4⟩
            have HF4 := Hid.mk (HF3.out.new hB4)
            have hS4 := HF4.out.geo
            clear HF3 hB4
            refine ⟨_, rfl, hS4, ?_⟩
            simp only [List.setIfInBounds_toArray, List.set_cons_zero, List.set_cons_succ]
            refine takeH 9 16 (.int .i64 (N + 1)) rfl (by kernel_rfl) (by kernel_rfl) (by kernel_rfl) (by kernel_rfl) (fun _ _ _ h => h) (by kernel_rfl) (fun w hw => by (clear hw; go_simp; rw [IntKind.wrap_i64]; omega)) hS4 ?_
            simp only [List.setIfInBounds_toArray, List.set_cons_zero, List.set_cons_succ]
            refine stepH_one 10 (by kernel_rfl) ?_
            · refine opH_run 10 17 (.slice (some ⟨V4q356x8.heap.size, 0, none⟩) (N + 1) (N + 1)) (V4q356x8.alloc (.cells (nils (N + 1)).toArray 68)) rfl (by kernel_rfl) (by kernel_rfl) (exec_make (l := .tmp 16) (c := .tmp 16) rfl (by kernel_rfl) (by kernel_rfl) (maket_run2 V4q356x8 N (by omega))) (gat_new hS4) ?_
              simp only [List.setIfInBounds_toArray, List.set_cons_zero, List.set_cons_succ]
              have HF5 := Hid.mk HF4.out.addT
              have hS5 := gat_new (o := (.cells (nils (N + 1)).toArray 68)) hS4
              clear HF4
              generalize V4q356x8.alloc (.cells (nils (N + 1)).toArray 68) = V5q3568x10 at *
              generalize V4q356x8.heap.size = b5k10 at *
              refine takeH 11 18 (.agg #[.pointer (some ⟨b2k3, 0, none⟩), .slice (some ⟨b3k6, 0, none⟩) nb nb, .slice (some ⟨b5k10, 0, none⟩) (N + 1) (N + 1), .slice none 0 0, .bool false]) rfl (by kernel_rfl) (by kernel_rfl) (by kernel_rfl) (by kernel_rfl) (fun _ _ _ h => h) (by kernel_rfl) (fun w hw => by (clear hw; go_simp)) hS5 ?_
              simp only [List.setIfInBounds_toArray, List.set_cons_zero, List.set_cons_succ]
              obtain ⟨hrpF, hbF, hcF, htF, hrF⟩ := HF5.out.fin HGL.out
              refine stepH_run 12 19 (.pointer (some ⟨V5q3568x10.heap.size, 0, none⟩)) (V5q3568x10.alloc (.cells #[.pointer (some ⟨b2k3, 0, none⟩), .slice (some ⟨b3k6, 0, none⟩) nb nb, .slice (some ⟨b5k10, 0, none⟩) (N + 1) (N + 1), .slice none 0 0, .bool false] 67)) rfl (by kernel_rfl) (by kernel_rfl) (by kernel_rfl) (exec_boxr (x := .tmp 18) rfl (by kernel_rfl)) (gat_new hS5) ?_
              simp only [List.setIfInBounds_toArray, List.set_cons_zero, List.set_cons_succ]
              refine takeH 13 5 (.pointer (some ⟨V5q3568x10.heap.size, 0, none⟩)) rfl (by kernel_rfl) (by kernel_rfl) (by kernel_rfl) (by kernel_rfl) (fun _ _ _ h => h) (by kernel_rfl) (fun w hw => by kernel_rfl) (gat_new hS5) ?_
              simp only [List.setIfInBounds_toArray, List.set_cons_zero, List.set_cons_succ]
              refine wpAnyH_done (by kernel_rfl) ?_ _
              go_wp2_with fail
              go_meet
              case rel => exact ⟨⟨b2k3, g, V5q3568x10.heap.size, b3k6, b5k10⟩, rfl, rfl, hrpF, hbF, hcF, htF, hrF⟩
        · refine opH_call 8 15 rfl (by kernel_rfl) (by kernel_rfl) 37 #[.tmp 14] #[23] (by kernel_rfl) (enters_of Tryz.func37 (by kernel_rfl) rfl) #[geo G I D] (by kernel_rfl) (HIN.out _) ?_
          rintro e V3q35x8 ⟨rfl, hB3⟩
          have HF3 := Hid.mk (HF2.out.new hB3)
          have hS3 := HF3.out.geo
          clear HF2 hB3
          refine ⟨_, rfl, hS3, ?_⟩
          simp only [List.setIfInBounds_toArray, List.set_cons_zero, List.set_cons_succ]
          refine takeH 9 16 (.int .i64 (N + 1)) rfl (by kernel_rfl) (by kernel_rfl) (by kernel_rfl) (by kernel_rfl) (fun _ _ _ h => h) (by kernel_rfl) (fun w hw => by (clear hw; go_simp; rw [IntKind.wrap_i64]; omega)) hS3 ?_
          simp only [List.setIfInBounds_toArray, List.set_cons_zero, List.set_cons_succ]
          refine stepH_two 6 10 (by kernel_rfl) ?_ ?_
          · refine opH_run 6 13 (.slice (some ⟨V3q35x8.heap.size, 0, none⟩) nb nb) (V3q35x8.alloc (.cells (fals nb).toArray 4)) rfl (by kernel_rfl) (by kernel_rfl) (exec_make (l := .tmp 12) (c := .tmp 12) rfl (by kernel_rfl) (by kernel_rfl) (makeb_run V3q35x8 nb (by omega))) (gat_new hS3) ?_
            simp only [List.setIfInBounds_toArray, List.set_cons_zero, List.set_cons_succ]
            have HF4 := Hid.mk HF3.out.addC
            have hS4 := gat_new (o := (.cells (fals nb).toArray 4)) hS3
            clear HF3
            generalize V3q35x8.alloc (.cells (fals nb).toArray 4) = V4q358x6 at *
            generalize V3q35x8.heap.size = b4k6 at *
            refine stepH_one 10 (by kernel_rfl) ?_
            · refine opH_run 10 17 (.slice (some ⟨V4q358x6.heap.size, 0, none⟩) (N + 1) (N + 1)) (V4q358x6.alloc (.cells (nils (N + 1)).toArray 68)) rfl (by kernel_rfl) (by kernel_rfl) (exec_make (l := .tmp 16) (c := .tmp 16) rfl (by kernel_rfl) (by kernel_rfl) (maket_run2 V4q358x6 N (by omega))) (gat_new hS4) ?_
              simp only [List.setIfInBounds_toArray, List.set_cons_zero, List.set_cons_succ]
              have HF5 := Hid.mk HF4.out.addT
              have hS5 := gat_new (o := (.cells (nils (N + 1)).toArray 68)) hS4
              clear HF4
              generalize V4q358x6.alloc (.cells (nils (N + 1)).toArray 68) = V5q3568x10 at *
              generalize V4q358x6.heap.size = b5k10 at *
              refine takeH 11 18 (.agg #[.pointer (some ⟨b2k3, 0, none⟩), .slice (some ⟨b4k6, 0, none⟩) nb nb, .slice (some ⟨b5k10, 0, none⟩) (N + 1) (N + 1), .slice none 0 0, .bool false]) rfl (by kernel_rfl) (by kernel_rfl) (by kernel_rfl) (by kernel_rfl) (fun _ _ _ h => h) (by kernel_rfl) (fun w hw => by (clear hw; go_simp)) hS5 ?_
              simp only [List.setIfInBounds_toArray, List.set_cons_zero, List.set_cons_succ]
              obtain ⟨hrpF, hbF, hcF, htF, hrF⟩ := HF5.out.fin HGL.out
              refine stepH_run 12 19 (.pointer (some ⟨V5q3568x10.heap.size, 0, none⟩)) (V5q3568x10.alloc (.cells #[.pointer (some ⟨b2k3, 0, none⟩), .slice (some ⟨b4k6, 0, none⟩) nb nb, .slice (some ⟨b5k10, 0, none⟩) (N + 1) (N + 1), .slice none 0 0, .bool false] 67)) rfl (by kernel_rfl) (by kernel_rfl) (by kernel_rfl) (exec_boxr (x := .tmp 18) rfl (by kernel_rfl)) (gat_new hS5) ?_
              simp only [List.setIfInBounds_toArray, List.set_cons_zero, List.set_cons_succ]
              refine takeH 13 5 (.pointer (some ⟨V5q3568x10.heap.size, 0, none⟩)) rfl (by kernel_rfl) (by kernel_rfl) (by kernel_rfl) (by kernel_rfl) (fun _ _ _ h => h) (by kernel_rfl) (fun w hw => by kernel_rfl) (gat_new hS5) ?_
              simp only [List.setIfInBounds_toArray, List.set_cons_zero, List.set_cons_succ]
              refine wpAnyH_done (by kernel_rfl) ?_ _
              go_wp2_with fail
              go_meet
              case rel => exact ⟨⟨b2k3, g, V5q3568x10.heap.size, b4k6, b5k10⟩, rfl, rfl, hrpF, hbF, hcF, htF, hrF⟩
          · refine opH_run 10 17 (.slice (some ⟨V3q35x8.heap.size, 0, none⟩) (N + 1) (N + 1)) (V3q35x8.alloc (.cells (nils (N + 1)).toArray 68)) rfl (by kernel_rfl) (by kernel_rfl) (exec_make (l := .tmp 16) (c := .tmp 16) rfl (by kernel_rfl) (by kernel_rfl) (maket_run2 V3q35x8 N (by omega))) (gat_new hS3) ?_
            simp only [List.setIfInBounds_toArray, List.set_cons_zero, List.set_cons_succ]
            have HF4 := Hid.mk HF3.out.addT
            have hS4 := gat_new (o := (.cells (nils (N + 1)).toArray 68)) hS3
            clear HF3
            generalize V3q35x8.alloc (.cells (nils (N + 1)).toArray 68) = V4q358x10 at *
            generalize V3q35x8.heap.size = b4k10 at *
            refine stepH_one 6 (by kernel_rfl) ?_
            · refine opH_run 6 13 (.slice (some ⟨V4q358x10.heap.size, 0, none⟩) nb nb) (V4q358x10.alloc (.cells (fals nb).toArray 4)) rfl (by kernel_rfl) (by kernel_rfl) (exec_make (l := .tmp 12) (c := .tmp 12) rfl (by kernel_rfl) (by kernel_rfl) (makeb_run V4q358x10 nb (by omega))) (gat_new hS4) ?_
              simp only [List.setIfInBounds_toArray, List.set_cons_zero, List.set_cons_succ]
              have HF5 := Hid.mk HF4.out.addC
              have hS5 := gat_new (o := (.cells (fals nb).toArray 4)) hS4
              clear HF4
              generalize V4q358x10.alloc (.cells (fals nb).toArray 4) = V5q35810x6 at *
              generalize V4q358x10.heap.size = b5k6 at *
              refine takeH 11 18 (.agg #[.pointer (some ⟨b2k3, 0, none⟩), .slice (some ⟨b5k6, 0, none⟩) nb nb, .slice (some ⟨b4k10, 0, none⟩) (N + 1) (N + 1), .slice none 0 0, .bool false]) rfl (by kernel_rfl) (by kernel_rfl) (by kernel_rfl) (by kernel_rfl) (fun _ _ _ h => h) (by kernel_rfl) (fun w hw => by (clear hw; go_simp)) hS5 ?_
              simp only [List.setIfInBounds_toArray, List.set_cons_zero, List.set_cons_succ]
              obtain ⟨hrpF, hbF, hcF, htF, hrF⟩ := HF5.out.fin HGL.out
              refine stepH_run 12 19 (.pointer (some ⟨V5q35810x6.heap.size, 0, none⟩)) (V5q35810x6.alloc (.cells #[.pointer (some ⟨b2k3, 0, none⟩), .slice (some ⟨b5k6, 0, none⟩) nb nb, .slice (some ⟨b4k10, 0, none⟩) (N + 1) (N + 1), .slice none 0 0, .bool false] 67)) rfl (by kernel_rfl) (by kernel_rfl) (by kernel_rfl) (exec_boxr (x := .tmp 18) rfl (by kernel_rfl)) (gat_new hS5) ?_
              simp only [List.setIfInBounds_toArray, List.set_cons_zero, List.set_cons_succ]
              refine takeH 13 5 (.pointer (some ⟨V5q35810x6.heap.size, 0, none⟩)) rfl (by kernel_rfl) (by kernel_rfl) (by kernel_rfl) (by kernel_rfl) (fun _ _ _ h => h) (by kernel_rfl) (fun w hw => by kernel_rfl) (gat_new hS5) ?_
              simp only [List.setIfInBounds_toArray, List.set_cons_zero, List.set_cons_succ]
              refine wpAnyH_done (by kernel_rfl) ?_ _
              go_wp2_with fail
              go_meet
              case rel => exact ⟨⟨b2k3, g, V5q35810x6.heap.size, b5k6, b4k10⟩, rfl, rfl, hrpF, hbF, hcF, htF, hrF⟩
      · refine opH_run 6 13 (.slice (some ⟨V1qx5.heap.size, 0, none⟩) nb nb) (V1qx5.alloc (.cells (fals nb).toArray 4)) rfl (by kernel_rfl) (by kernel_rfl) (exec_make (l := .tmp 12) (c := .tmp 12) rfl (by kernel_rfl) (by kernel_rfl) (makeb_run V1qx5 nb (by omega))) (gat_new hS1) ?_
        simp only [List.setIfInBounds_toArray, List.set_cons_zero, List.set_cons_succ]
        have HF2 := Hid.mk HF1.out.addC
        have hS2 := gat_new (o := (.cells (fals nb).toArray 4)) hS1
        clear HF1
        generalize V1qx5.alloc (.cells (fals nb).toArray 4) = V2q5x6 at *
        generalize V1qx5.heap.size = b2k6 at *
        refine stepH_two 3 8 (by kernel_rfl) ?_ ?_
        · refine opH_run 3 10 (.pointer (some ⟨V2q5x6.heap.size, 0, none⟩)) (V2q5x6.alloc (.cells #[.slice (some ⟨g, 0, none⟩) n n, .int .i64 G, .int .i64 I, .int .i64 D] 50)) rfl (by kernel_rfl) (by kernel_rfl) (exec_boxd (x := .tmp 9) rfl (by kernel_rfl)) (gat_new hS2) ?_
          simp only [List.setIfInBounds_toArray, List.set_cons_zero, List.set_cons_succ]
          have HF3 := Hid.mk HF2.out.addD
          have hS3 := gat_new (o := (.cells #[.slice (some ⟨g, 0, none⟩) n n, .int .i64 G, .int .i64 I, .int .i64 D] 50)) hS2
          clear HF2
          generalize V2q5x6.alloc (.cells #[.slice (some ⟨g, 0, none⟩) n n, .int .i64 G, .int .i64 I, .int .i64 D] 50) = V3q56x3 at *
          generalize V2q5x6.heap.size = b3k3 at *
          refine stepH_one 8 (by kernel_rfl) ?_
          · refine opH_call 8 15 rfl (by kernel_rfl) (by kernel_rfl) 37 #[.tmp 14] #[23] (by kernel_rfl) (enters_of Tryz.func37 (by kernel_rfl) rfl) #[geo G I D] (by kernel_rfl) (HIN.out _) ?_
            rintro e V4q356x8 ⟨rfl, hB4⟩
            have HF4 := Hid.mk (HF3.out.new hB4)
            have hS4 := HF4.out.geo
            clear HF3 hB4
            refine ⟨_, rfl, hS4, ?_⟩
            simp only [List.setIfInBounds_toArray, List.set_cons_zero, List.set_cons_succ]
            refine takeH 9 16 (.int .i64 (N + 1)) rfl (by kernel_rfl) (by kernel_rfl) (by kernel_rfl) (by kernel_rfl) (fun _ _ _ h => h) (by kernel_rfl) (fun w hw => by (clear hw; go_simp; rw [IntKind.wrap_i64]; omega)) hS4 ?_
            simp only [List.setIfInBounds_toArray, List.set_cons_zero, List.set_cons_succ]
            refine stepH_one 10 (by kernel_rfl) ?_
            · refine opH_run 10 17 (.slice (some ⟨V4q356x8.heap.size, 0, none⟩) (N + 1) (N + 1)) (V4q356x8.alloc (.cells (nils (N + 1)).toArray 68)) rfl (by kernel_rfl) (by kernel_rfl) (exec_make (l := .tmp 16) (c := .tmp 16) rfl (by kernel_rfl) (by kernel_rfl) (maket_run2 V4q356x8 N (by omega))) (gat_new hS4) ?_
              simp only [List.setIfInBounds_toArray, List.set_cons_zero, List.set_cons_succ]
              have HF5 := Hid.mk HF4.out.addT
              have hS5 := gat_new (o := (.cells (nils (N + 1)).toArray 68)) hS4
              clear HF4
              generalize V4q356x8.alloc (.cells (nils (N + 1)).toArray 68) = V5q3568x10 at *
              generalize V4q356x8.heap.size = b5k10 at *
              refine takeH 11 18 (.agg #[.pointer (some ⟨b3k3, 0, none⟩), .slice (some ⟨b2k6, 0, none⟩) nb nb, .slice (some ⟨b5k10, 0, none⟩) (N + 1) (N + 1), .slice none 0 0, .bool false]) rfl (by kernel_rfl) (by kernel_rfl) (by kernel_rfl) (by kernel_rfl) (fun _ _ _ h => h) (by kernel_rfl) (fun w hw => by (clear hw; go_simp)) hS5 ?_
              simp only [List.setIfInBounds_toArray, List.set_cons_zero, List.set_cons_succ]
              obtain ⟨hrpF, hbF, hcF, htF, hrF⟩ := HF5.out.fin HGL.out
              refine stepH_run 12 19 (.pointer (some ⟨V5q3568x10.heap.size, 0, none⟩)) (V5q3568x10.alloc (.cells #[.pointer (some ⟨b3k3, 0, none⟩), .slice (some ⟨b2k6, 0, none⟩) nb nb, .slice (some ⟨b5k10, 0, none⟩) (N + 1) (N + 1), .slice none 0 0, .bool false] 67)) rfl (by kernel_rfl) (by kernel_rfl) (by kernel_rfl) (exec_boxr (x := .tmp 18) rfl (by kernel_rfl)) (gat_new hS5) ?_
              simp only [List.setIfInBounds_toArray, List.set_cons_zero, List.set_cons_succ]
              refine takeH 13 5 (.pointer (some ⟨V5q3568x10.heap.size, 0, none⟩)) rfl (by kernel_rfl) (by kernel_rfl) (by kernel_rfl) (by kernel_rfl) (fun _ _ _ h => h) (by kernel_rfl) (fun w hw => by kernel_rfl) (gat_new hS5) ?_
              simp only [List.setIfInBounds_toArray, List.set_cons_zero, List.set_cons_succ]
              refine wpAnyH_done (by kernel_rfl) ?_ _
              go_wp2_with fail
              go_meet
              case rel => exact ⟨⟨b3k3, g, V5q3568x10.heap.size, b2k6, b5k10⟩, rfl, rfl, hrpF, hbF, hcF, htF, hrF⟩
        · refine opH_call 8 15 rfl (by kernel_rfl) (by kernel_rfl) 37 #[.tmp 14] #[23] (by kernel_rfl) (enters_of Tryz.func37 (by kernel_rfl) rfl) #[geo G I D] (by kernel_rfl) (HIN.out _) ?_
          rintro e V3q56x8 ⟨rfl, hB3⟩
          have HF3 := Hid.mk (HF2.out.new hB3)
          have hS3 := HF3.out.geo
          clear HF2 hB3
          refine ⟨_, rfl, hS3, ?_⟩
          simp only [List.setIfInBounds_toArray, List.set_cons_zero, List.set_cons_succ]
          refine takeH 9 16 (.int .i64 (N + 1)) rfl (by kernel_rfl) (by kernel_rfl) (by kernel_rfl) (by kernel_rfl) (fun _ _ _ h => h) (by kernel_rfl) (fun w hw => by (clear hw; go_simp; rw [IntKind.wrap_i64]; omega)) hS3 ?_
          simp only [List.setIfInBounds_toArray, List.set_cons_zero, List.set_cons_succ]
          refine stepH_two 3 10 (by kernel_rfl) ?_ ?_
          · refine opH_run 3 10 (.pointer (some ⟨V3q56x8.heap.size, 0, none⟩)) (V3q56x8.alloc (.cells #[.slice (some ⟨g, 0, none⟩) n n, .int .i64 G, .int .i64 I, .int .i64 D] 50)) rfl (by kernel_rfl) (by kernel_rfl) (exec_boxd (x := .tmp 9) rfl (by kernel_rfl)) (gat_new hS3) ?_
            simp only [List.setIfInBounds_toArray, List.set_cons_zero, List.set_cons_succ]
            have HF4 := Hid.mk HF3.out.addD
            have hS4 := gat_new (o := (.cells #[.slice (some ⟨g, 0, none⟩) n n, .int .i64 G, .int .i64 I, .int .i64 D] 50)) hS3
            clear HF3
            generalize V3q56x8.alloc (.cells #[.slice (some ⟨g, 0, none⟩) n n, .int .i64 G, .int .i64 I, .int .i64 D] 50) = V4q568x3 at *
            generalize V3q56x8.heap.size = b4k3 at *
            refine stepH_one 10 (by kernel_rfl) ?_
            · refine opH_run 10 17 (.slice (some ⟨V4q568x3.heap.size, 0, none⟩) (N + 1) (N + 1)) (V4q568x3.alloc (.cells (nils (N + 1)).toArray 68)) rfl (by kernel_rfl) (by kernel_rfl) (exec_make (l := .tmp 16) (c := .tmp 16) rfl (by kernel_rfl) (by kernel_rfl) (maket_run2 V4q568x3 N (by omega))) (gat_new hS4) ?_
              simp only [List.setIfInBounds_toArray, List.set_cons_zero, List.set_cons_succ]
              have HF5 := Hid.mk HF4.out.addT
              have hS5 := gat_new (o := (.cells (nils (N + 1)).toArray 68)) hS4
              clear HF4
              generalize V4q568x3.alloc (.cells (nils (N + 1)).toArray 68) = V5q3568x10 at *
              generalize V4q568x3.heap.size = b5k10 at *
              refine takeH 11 18 (.agg #[.pointer (some ⟨b4k3, 0, none⟩), .slice (some ⟨b2k6, 0, none⟩) nb nb, .slice (some ⟨b5k10, 0, none⟩) (N + 1) (N + 1), .slice none 0 0, .bool false]) rfl (by kernel_rfl) (by kernel_rfl) (by kernel_rfl) (by kernel_rfl) (fun _ _ _ h => h) (by kernel_rfl) (fun w hw => by (clear hw; go_simp)) hS5 ?_
              simp only [List.setIfInBounds_toArray, List.set_cons_zero, List.set_cons_succ]
              obtain ⟨hrpF, hbF, hcF, htF, hrF⟩ := HF5.out.fin HGL.out
              refine stepH_run 12 19 (.pointer (some ⟨V5q3568x10.heap.size, 0, none⟩)) (V5q3568x10.alloc (.cells #[.pointer (some ⟨b4k3, 0, none⟩), .slice (some ⟨b2k6, 0, none⟩) nb nb, .slice (some ⟨b5k10, 0, none⟩) (N + 1) (N + 1), .slice none 0 0, .bool false] 67)) rfl (by kernel_rfl) (by kernel_rfl) (by kernel_rfl) (exec_boxr (x := .tmp 18) rfl (by kernel_rfl)) (gat_new hS5) ?_
              simp only [List.setIfInBounds_toArray, List.set_cons_zero, List.set_cons_succ]
              refine takeH 13 5 (.pointer (some ⟨V5q3568x10.heap.size, 0, none⟩)) rfl (by kernel_rfl) (by kernel_rfl) (by kernel_rfl) (by kernel_rfl) (fun _ _ _ h => h) (by kernel_rfl) (fun w hw => by kernel_rfl) (gat_new hS5) ?_
              simp only [List.setIfInBounds_toArray, List.set_cons_zero, List.set_cons_succ]
              refine wpAnyH_done (by kernel_rfl) ?_ _
              go_wp2_with fail
              go_meet
              case rel => exact ⟨⟨b4k3, g, V5q3568x10.heap.size, b2k6, b5k10⟩, rfl, rfl, hrpF, hbF, hcF, htF, hrF⟩
          · refine opH_run 10 17 (.slice (some ⟨V3q56x8.heap.size, 0, none⟩) (N + 1) (N + 1)) (V3q56x8.alloc (.cells (nils (N + 1)).toArray 68)) rfl (by kernel_rfl) (by kernel_rfl) (exec_make (l := .tmp 16) (c := .tmp 16) rfl (by kernel_rfl) (by kernel_rfl) (maket_run2 V3q56x8 N (by omega))) (gat_new hS3) ?_
            simp only [List.setIfInBounds_toArray, List.set_cons_zero, List.set_cons_succ]
            have HF4 := Hid.mk HF3.out.addT
            have hS4 := gat_new (o := (.cells (nils (N + 1)).toArray 68)) hS3
            clear HF3
            generalize V3q56x8.alloc (.cells (nils (N + 1)).toArray 68) = V4q568x10 at *
            generalize V3q56x8.heap.size = b4k10 at *
            refine stepH_one 3 (by kernel_rfl) ?_
            · refine opH_run 3 10 (.pointer (some ⟨V4q568x10.heap.size, 0, none⟩)) (V4q568x10.alloc (.cells #[.slice (some ⟨g, 0, none⟩) n n, .int .i64 G, .int .i64 I, .int .i64 D] 50)) rfl (by kernel_rfl) (by kernel_rfl) (exec_boxd (x := .tmp 9) rfl (by kernel_rfl)) (gat_new hS4) ?_
              simp only [List.setIfInBounds_toArray, List.set_cons_zero, List.set_cons_succ]
              have HF5 := Hid.mk HF4.out.addD
              have hS5 := gat_new (o := (.cells #[.slice (some ⟨g, 0, none⟩) n n, .int .i64 G, .int .i64 I, .int .i64 D] 50)) hS4
              clear HF4
              generalize V4q568x10.alloc (.cells #[.slice (some ⟨g, 0, none⟩) n n, .int .i64 G, .int .i64 I, .int .i64 D] 50) = V5q56810x3 at *
              generalize V4q568x10.heap.size = b5k3 at *
              refine takeH 11 18 (.agg #[.pointer (some ⟨b5k3, 0, none⟩), .slice (some ⟨b2k6, 0, none⟩) nb nb, .slice (some ⟨b4k10, 0, none⟩) (N + 1) (N + 1), .slice none 0 0, .bool false]) rfl (by kernel_rfl) (by kernel_rfl) (by kernel_rfl) (by kernel_rfl) (fun _ _ _ h => h) (by kernel_rfl) (fun w hw => by (clear hw; go_simp)) hS5 ?_
              simp only [List.setIfInBounds_toArray, List.set_cons_zero, List.set_cons_succ]
              obtain ⟨hrpF, hbF, hcF, htF, hrF⟩ := HF5.out.fin HGL.out
              refine stepH_run 12 19 (.pointer (some ⟨V5q56810x3.heap.size, 0, none⟩)) (V5q56810x3.alloc (.cells #[.pointer (some ⟨b5k3, 0, none⟩), .slice (some ⟨b2k6, 0, none⟩) nb nb, .slice (some ⟨b4k10, 0, none⟩) (N + 1) (N + 1), .slice none 0 0, .bool false] 67)) rfl (by kernel_rfl) (by kernel_rfl) (by kernel_rfl) (exec_boxr (x := .tmp 18) rfl (by kernel_rfl)) (gat_new hS5) ?_
              simp only [List.setIfInBounds_toArray, List.set_cons_zero, List.set_cons_succ]
              refine takeH 13 5 (.pointer (some ⟨V5q56810x3.heap.size, 0, none⟩)) rfl (by kernel_rfl) (by kernel_rfl) (by kernel_rfl) (by kernel_rfl) (fun _ _ _ h => h) (by kernel_rfl) (fun w hw => by kernel_rfl) (gat_new hS5) ?_
              simp only [List.setIfInBounds_toArray, List.set_cons_zero, List.set_cons_succ]
              refine wpAnyH_done (by kernel_rfl) ?_ _
              go_wp2_with fail
              go_meet
              case rel => exact ⟨⟨b5k3, g, V5q56810x3.heap.size, b2k6, b4k10⟩, rfl, rfl, hrpF, hbF, hcF, htF, hrF⟩
      · refine opH_call 8 15 rfl (by kernel_rfl) (by kernel_rfl) 37 #[.tmp 14] #[23] (by kernel_rfl) (enters_of Tryz.func37 (by kernel_rfl) rfl) #[geo G I D] (by kernel_rfl) (HIN.out _) ?_
        rintro e V2q5x8 ⟨rfl, hB2⟩
        have HF2 := Hid.mk (HF1.out.new hB2)
        have hS2 := HF2.out.geo
        clear HF1 hB2
        refine ⟨_, rfl, hS2, ?_⟩
        simp only [List.setIfInBounds_toArray, List.set_cons_zero, List.set_cons_succ]
        refine takeH 9 16 (.int .i64 (N + 1)) rfl (by kernel_rfl) (by kernel_rfl) (by kernel_rfl) (by kernel_rfl) (fun _ _ _ h => h) (by kernel_rfl) (fun w hw => by (clear hw; go_simp; rw [IntKind.wrap_i64]; omega)) hS2 ?_
        simp only [List.setIfInBounds_toArray, List.set_cons_zero, List.set_cons_succ]
        refine stepH_three 3 6 10 (by kernel_rfl) ?_ ?_ ?_
        · refine opH_run 3 10 (.pointer (some ⟨V2q5x8.heap.size, 0, none⟩)) (V2q5x8.alloc (.cells #[.slice (some ⟨g, 0, none⟩) n n, .int .i64 G, .int .i64 I, .int .i64 D] 50)) rfl (by kernel_rfl) (by kernel_rfl) (exec_boxd (x := .tmp 9) rfl (by kernel_rfl)) (gat_new hS2) ?_
          simp only [List.setIfInBounds_toArray, List.set_cons_zero, List.set_cons_succ]
          have HF3 := Hid.mk HF2.out.addD
          have hS3 := gat_new (o := (.cells #[.slice (some ⟨g, 0, none⟩) n n, .int .i64 G, .int .i64 I, .int .i64 D] 50)) hS2
          clear HF2
          generalize V2q5x8.alloc (.cells #[.slice (some ⟨g, 0, none⟩) n n, .int .i64 G, .int .i64 I, .int .i64 D] 50) = V3q58x3 at *
          generalize V2q5x8.heap.size = b3k3 at *
          refine stepH_two 6 10 (by kernel_rfl) ?_ ?_
          · refine opH_run 6 13 (.slice (some ⟨V3q58x3.heap.size, 0, none⟩) nb nb) (V3q58x3.alloc (.cells (fals nb).toArray 4)) rfl (by kernel_rfl) (by kernel_rfl) (exec_make (l := .tmp 12) (c := .tmp 12) rfl (by kernel_rfl) (by kernel_rfl) (makeb_run V3q58x3 nb (by omega))) (gat_new hS3) ?_
            simp only [List.setIfInBounds_toArray, List.set_cons_zero, List.set_cons_succ]
            have HF4 := Hid.mk HF3.out.addC
            have hS4 := gat_new (o := (.cells (fals nb).toArray 4)) hS3
            clear HF3
            generalize V3q58x3.alloc (.cells (fals nb).toArray 4) = V4q358x6 at *
            generalize V3q58x3.heap.size = b4k6 at *
            refine stepH_one 10 (by kernel_rfl) ?_
            · refine opH_run 10 17 (.slice (some ⟨V4q358x6.heap.size, 0, none⟩) (N + 1) (N + 1)) (V4q358x6.alloc (.cells (nils (N + 1)).toArray 68)) rfl (by kernel_rfl) (by kernel_rfl) (exec_make (l := .tmp 16) (c := .tmp 16) rfl (by kernel_rfl) (by kernel_rfl) (maket_run2 V4q358x6 N (by omega))) (gat_new hS4) ?_
              simp only [List.setIfInBounds_toArray, List.set_cons_zero, List.set_cons_succ]
              have HF5 := Hid.mk HF4.out.addT
              have hS5 := gat_new (o := (.cells (nils (N + 1)).toArray 68)) hS4
              clear HF4
              generalize V4q358x6.alloc (.cells (nils (N + 1)).toArray 68) = V5q3568x10 at *
              generalize V4q358x6.heap.size = b5k10 at *
              refine takeH 11 18 (.agg #[.pointer (some ⟨b3k3, 0, none⟩), .slice (some ⟨b4k6, 0, none⟩) nb nb, .slice (some ⟨b5k10, 0, none⟩) (N + 1) (N + 1), .slice none 0 0, .bool false]) rfl (by kernel_rfl) (by kernel_rfl) (by kernel_rfl) (by kernel_rfl) (fun _ _ _ h => h) (by kernel_rfl) (fun w hw => by (clear hw; go_simp)) hS5 ?_
              simp only [List.setIfInBounds_toArray, List.set_cons_zero, List.set_cons_succ]
              obtain ⟨hrpF, hbF, hcF, htF, hrF⟩ := HF5.out.fin HGL.out
              refine stepH_run 12 19 (.pointer (some ⟨V5q3568x10.heap.size, 0, none⟩)) (V5q3568x10.alloc (.cells #[.pointer (some ⟨b3k3, 0, none⟩), .slice (some ⟨b4k6, 0, none⟩) nb nb, .slice (some ⟨b5k10, 0, none⟩) (N + 1) (N + 1), .slice none 0 0, .bool false] 67)) rfl (by kernel_rfl) (by kernel_rfl) (by kernel_rfl) (exec_boxr (x := .tmp 18) rfl (by kernel_rfl)) (gat_new hS5) ?_
              simp only [List.setIfInBounds_toArray, List.set_cons_zero, List.set_cons_succ]
              refine takeH 13 5 (.pointer (some ⟨V5q3568x10.heap.size, 0, none⟩)) rfl (by kernel_rfl) (by kernel_rfl) (by kernel_rfl) (by kernel_rfl) (fun _ _ _ h => h) (by kernel_rfl) (fun w hw => by kernel_rfl) (gat_new hS5) ?_
              simp only [List.setIfInBounds_toArray, List.set_cons_zero, List.set_cons_succ]
              refine wpAnyH_done (by kernel_rfl) ?_ _
              go_wp2_with fail
              go_meet
              case rel => exact ⟨⟨b3k3, g, V5q3568x10.heap.size, b4k6, b5k10⟩, rfl, rfl, hrpF, hbF, hcF, htF, hrF⟩
          · refine opH_run 10 17 (.slice (some ⟨V3q58x3.heap.size, 0, none⟩) (N + 1) (N + 1)) (V3q58x3.alloc (.cells (nils (N + 1)).toArray 68)) rfl (by kernel_rfl) (by kernel_rfl) (exec_make (l := .tmp 16) (c := .tmp 16) rfl (by kernel_rfl) (by kernel_rfl) (maket_run2 V3q58x3 N (by omega))) (gat_new hS3) ?_
            simp only [List.setIfInBounds_toArray, List.set_cons_zero, List.set_cons_succ]
            have HF4 := Hid.mk HF3.out.addT
            have hS4 := gat_new (o := (.cells (nils (N + 1)).toArray 68)) hS3
            clear HF3
            generalize V3q58x3.alloc (.cells (nils (N + 1)).toArray 68) = V4q358x10 at *
            generalize V3q58x3.heap.size = b4k10 at *
            refine stepH_one 6 (by kernel_rfl) ?_
            · refine opH_run 6 13 (.slice (some ⟨V4q358x10.heap.size, 0, none⟩) nb nb) (V4q358x10.alloc (.cells (fals nb).toArray 4)) rfl (by kernel_rfl) (by kernel_rfl) (exec_make (l := .tmp 12) (c := .tmp 12) rfl (by kernel_rfl) (by kernel_rfl) (makeb_run V4q358x10 nb (by omega))) (gat_new hS4) ?_
              simp only [List.setIfInBounds_toArray, List.set_cons_zero, List.set_cons_succ]
              have HF5 := Hid.mk HF4.out.addC
              have hS5 := gat_new (o := (.cells (fals nb).toArray 4)) hS4
              clear HF4
              generalize V4q358x10.alloc (.cells (fals nb).toArray 4) = V5q35810x6 at *
              generalize V4q358x10.heap.size = b5k6 at *
              refine takeH 11 18 (.agg #[.pointer (some ⟨b3k3, 0, none⟩), .slice (some ⟨b5k6, 0, none⟩) nb nb, .slice (some ⟨b4k10, 0, none⟩) (N + 1) (N + 1), .slice none 0 0, .bool false]) rfl (by kernel_rfl) (by kernel_rfl) (by kernel_rfl) (by kernel_rfl) (fun _ _ _ h => h) (by kernel_rfl) (fun w hw => by (clear hw; go_simp)) hS5 ?_
              simp only [List.setIfInBounds_toArray, List.set_cons_zero, List.set_cons_succ]
              obtain ⟨hrpF, hbF, hcF, htF, hrF⟩ := HF5.out.fin HGL.out
              refine stepH_run 12 19 (.pointer (some ⟨V5q35810x6.heap.size, 0, none⟩)) (V5q35810x6.alloc (.cells #[.pointer (some ⟨b3k3, 0, none⟩), .slice (some ⟨b5k6, 0, none⟩) nb nb, .slice (some ⟨b4k10, 0, none⟩) (N + 1) (N + 1), .slice none 0 0, .bool false] 67)) rfl (by kernel_rfl) (by kernel_rfl) (by kernel_rfl) (exec_boxr (x := .tmp 18) rfl (by kernel_rfl)) (gat_new hS5) ?_
              simp only [List.setIfInBounds_toArray, List.set_cons_zero, List.set_cons_succ]
              refine takeH 13 5 (.pointer (some ⟨V5q35810x6.heap.size, 0, none⟩)) rfl (by kernel_rfl) (by kernel_rfl) (by kernel_rfl) (by kernel_rfl) (fun _ _ _ h => h) (by kernel_rfl) (fun w hw => by kernel_rfl) (gat_new hS5) ?_
              simp only [List.setIfInBounds_toArray, List.set_cons_zero, List.set_cons_succ]
              refine wpAnyH_done (by kernel_rfl) ?_ _
              go_wp2_with fail
              go_meet
              case rel => exact ⟨⟨b3k3, g, V5q35810x6.heap.size, b5k6, b4k10⟩, rfl, rfl, hrpF, hbF, hcF, htF, hrF⟩
        · refine opH_run 6 13 (.slice (some ⟨V2q5x8.heap.size, 0, none⟩) nb nb) (V2q5x8.alloc (.cells (fals nb).toArray 4)) rfl (by kernel_rfl) (by kernel_rfl) (exec_make (l := .tmp 12) (c := .tmp 12) rfl (by kernel_rfl) (by kernel_rfl) (makeb_run V2q5x8 nb (by omega))) (gat_new hS2) ?_
          simp only [List.setIfInBounds_toArray, List.set_cons_zero, List.set_cons_succ]
          have HF3 := Hid.mk HF2.out.addC
          have hS3 := gat_new (o := (.cells (fals nb).toArray 4)) hS2
          clear HF2
          generalize V2q5x8.alloc (.cells (fals nb).toArray 4) = V3q58x6 at *
          generalize V2q5x8.heap.size = b3k6 at *
          refine stepH_two 3 10 (by kernel_rfl) ?_ ?_
          · refine opH_run 3 10 (.pointer (some ⟨V3q58x6.heap.size, 0, none⟩)) (V3q58x6.alloc (.cells #[.slice (some ⟨g, 0, none⟩) n n, .int .i64 G, .int .i64 I, .int .i64 D] 50)) rfl (by kernel_rfl) (by kernel_rfl) (exec_boxd (x := .tmp 9) rfl (by kernel_rfl)) (gat_new hS3) ?_
            simp only [List.setIfInBounds_toArray, List.set_cons_zero, List.set_cons_succ]
            have HF4 := Hid.mk HF3.out.addD
            have hS4 := gat_new (o := (.cells #[.slice (some ⟨g, 0, none⟩) n n, .int .i64 G, .int .i64 I, .int .i64 D] 50)) hS3
            clear HF3
            generalize V3q58x6.alloc (.cells #[.slice (some ⟨g, 0, none⟩) n n, .int .i64 G, .int .i64 I, .int .i64 D] 50) = V4q568x3 at *
            generalize V3q58x6.heap.size = b4k3 at *
            refine stepH_one 10 (by kernel_rfl) ?_
            · refine opH_run 10 17 (.slice (some ⟨V4q568x3.heap.size, 0, none⟩) (N + 1) (N + 1)) (V4q568x3.alloc (.cells (nils (N + 1)).toArray 68)) rfl (by kernel_rfl) (by kernel_rfl) (exec_make (l := .tmp 16) (c := .tmp 16) rfl (by kernel_rfl) (by kernel_rfl) (maket_run2 V4q568x3 N (by omega))) (gat_new hS4) ?_
              simp only [List.setIfInBounds_toArray, List.set_cons_zero, List.set_cons_succ]
              have HF5 := Hid.mk HF4.out.addT
              have hS5 := gat_new (o := (.cells (nils (N + 1)).toArray 68)) hS4
              clear HF4
              generalize V4q568x3.alloc (.cells (nils (N + 1)).toArray 68) = V5q3568x10 at *
              generalize V4q568x3.heap.size = b5k10 at *
              refine takeH 11 18 (.agg #[.pointer (some ⟨b4k3, 0, none⟩), .slice (some ⟨b3k6, 0, none⟩) nb nb, .slice (some ⟨b5k10, 0, none⟩) (N + 1) (N + 1), .slice none 0 0, .bool false]) rfl (by kernel_rfl) (by kernel_rfl) (by kernel_rfl) (by kernel_rfl) (fun _ _ _ h => h) (by kernel_rfl) (fun w hw => by (clear hw; go_simp)) hS5 ?_
              simp only [List.setIfInBounds_toArray, List.set_cons_zero, List.set_cons_succ]
              obtain ⟨hrpF, hbF, hcF, htF, hrF⟩ := HF5.out.fin HGL.out
              refine stepH_run 12 19 (.pointer (some ⟨V5q3568x10.heap.size, 0, none⟩)) (V5q3568x10.alloc (.cells #[.pointer (some ⟨b4k3, 0, none⟩), .slice (some ⟨b3k6, 0, none⟩) nb nb, .slice (some ⟨b5k10, 0, none⟩) (N + 1) (N + 1), .slice none 0 0, .bool false] 67)) rfl (by kernel_rfl) (by kernel_rfl) (by kernel_rfl) (exec_boxr (x := .tmp 18) rfl (by kernel_rfl)) (gat_new hS5) ?_
              simp only [List.setIfInBounds_toArray, List.set_cons_zero, List.set_cons_succ]
              refine takeH 13 5 (.pointer (some ⟨V5q3568x10.heap.size, 0, none⟩)) rfl (by kernel_rfl) (by kernel_rfl) (by kernel_rfl) (by kernel_rfl) (fun _ _ _ h => h) (by kernel_rfl) (fun w hw => by kernel_rfl) (gat_new hS5) ?_
              simp only [List.setIfInBounds_toArray, List.set_cons_zero, List.set_cons_succ]
              refine wpAnyH_done (by kernel_rfl) ?_ _
              go_wp2_with fail
              go_meet
              case rel => exact ⟨⟨b4k3, g, V5q3568x10.heap.size, b3k6, b5k10⟩, rfl, rfl, hrpF, hbF, hcF, htF, hrF⟩
          · refine opH_run 10 17 (.slice (some ⟨V3q58x6.heap.size, 0, none⟩) (N + 1) (N + 1)) (V3q58x6.alloc (.cells (nils (N + 1)).toArray 68)) rfl (by kernel_rfl) (by kernel_rfl) (exec_make (l := .tmp 16) (c := .tmp 16) rfl (by kernel_rfl) (by kernel_rfl) (maket_run2 V3q58x6 N (by omega))) (gat_new hS3) ?_
            simp only [List.setIfInBounds_toArray, List.set_cons_zero, List.set_cons_succ]
            have HF4 := Hid.mk HF3.out.addT
            have hS4 := gat_new (o := (.cells (nils (N + 1)).toArray 68)) hS3
            clear HF3
            generalize V3q58x6.alloc (.cells (nils (N + 1)).toArray 68) = V4q568x10 at *
            generalize V3q58x6.heap.size = b4k10 at *
            refine stepH_one 3 (by kernel_rfl) ?_
            · refine opH_run 3 10 (.pointer (some ⟨V4q568x10.heap.size, 0, none⟩)) (V4q568x10.alloc (.cells #[.slice (some ⟨g, 0, none⟩) n n, .int .i64 G, .int .i64 I, .int .i64 D] 50)) rfl (by kernel_rfl) (by kernel_rfl) (exec_boxd (x := .tmp 9) rfl (by kernel_rfl)) (gat_new hS4) ?_
              simp only [List.setIfInBounds_toArray, List.set_cons_zero, List.set_cons_succ]
              have HF5 := Hid.mk HF4.out.addD
              have hS5 := gat_new (o := (.cells #[.slice (some ⟨g, 0, none⟩) n n, .int .i64 G, .int .i64 I, .int .i64 D] 50)) hS4
              clear HF4
              generalize V4q568x10.alloc (.cells #[.slice (some ⟨g, 0, none⟩) n n, .int .i64 G, .int .i64 I, .int .i64 D] 50) = V5q56810x3 at *
              generalize V4q568x10.heap.size = b5k3 at *
              refine takeH 11 18 (.agg #[.pointer (some ⟨b5k3, 0, none⟩), .slice (some ⟨b3k6, 0, none⟩) nb nb, .slice (some ⟨b4k10, 0, none⟩) (N + 1) (N + 1), .slice none 0 0, .bool false]) rfl (by kernel_rfl) (by kernel_rfl) (by kernel_rfl) (by kernel_rfl) (fun _ _ _ h => h) (by kernel_rfl) (fun w hw => by (clear hw; go_simp)) hS5 ?_
              simp only [List.setIfInBounds_toArray, List.set_cons_zero, List.set_cons_succ]
              obtain ⟨hrpF, hbF, hcF, htF, hrF⟩ := HF5.out.fin HGL.out
              refine stepH_run 12 19 (.pointer (some ⟨V5q56810x3.heap.size, 0, none⟩)) (V5q56810x3.alloc (.cells #[.pointer (some ⟨b5k3, 0, none⟩), .slice (some ⟨b3k6, 0, none⟩) nb nb, .slice (some ⟨b4k10, 0, none⟩) (N + 1) (N + 1), .slice none 0 0, .bool false] 67)) rfl (by kernel_rfl) (by kernel_rfl) (by kernel_rfl) (exec_boxr (x := .tmp 18) rfl (by kernel_rfl)) (gat_new hS5) ?_
              simp only [List.setIfInBounds_toArray, List.set_cons_zero, List.set_cons_succ]
              refine takeH 13 5 (.pointer (some ⟨V5q56810x3.heap.size, 0, none⟩)) rfl (by kernel_rfl) (by kernel_rfl) (by kernel_rfl) (by kernel_rfl) (fun _ _ _ h => h) (by kernel_rfl) (fun w hw => by kernel_rfl) (gat_new hS5) ?_
              simp only [List.setIfInBounds_toArray, List.set_cons_zero, List.set_cons_succ]
              refine wpAnyH_done (by kernel_rfl) ?_ _
              go_wp2_with fail
              go_meet
              case rel => exact ⟨⟨b5k3, g, V5q56810x3.heap.size, b3k6, b4k10⟩, rfl, rfl, hrpF, hbF, hcF, htF, hrF⟩
        · refine opH_run 10 17 (.slice (some ⟨V2q5x8.heap.size, 0, none⟩) (N + 1) (N + 1)) (V2q5x8.alloc (.cells (nils (N + 1)).toArray 68)) rfl (by kernel_rfl) (by kernel_rfl) (exec_make (l := .tmp 16) (c := .tmp 16) rfl (by kernel_rfl) (by kernel_rfl) (maket_run2 V2q5x8 N (by omega))) (gat_new hS2) ?_
          simp only [List.setIfInBounds_toArray, List.set_cons_zero, List.set_cons_succ]
          have HF3 := Hid.mk HF2.out.addT
          have hS3 := gat_new (o := (.cells (nils (N + 1)).toArray 68)) hS2
          clear HF2
          generalize V2q5x8.alloc (.cells (nils (N + 1)).toArray 68) = V3q58x10 at *
          generalize V2q5x8.heap.size = b3k10 at *
          refine stepH_two 3 6 (by kernel_rfl) ?_ ?_
          · refine opH_run 3 10 (.pointer (some ⟨V3q58x10.heap.size, 0, none⟩)) (V3q58x10.alloc (.cells #[.slice (some ⟨g, 0, none⟩) n n, .int .i64 G, .int .i64 I, .int .i64 D] 50)) rfl (by kernel_rfl) (by kernel_rfl) (exec_boxd (x := .tmp 9) rfl (by kernel_rfl)) (gat_new hS3) ?_
            simp only [List.setIfInBounds_toArray, List.set_cons_zero, List.set_cons_succ]
            have HF4 := Hid.mk HF3.out.addD
            have hS4 := gat_new (o := (.cells #[.slice (some ⟨g, 0, none⟩) n n, .int .i64 G, .int .i64 I, .int .i64 D] 50)) hS3
            clear HF3
            generalize V3q58x10.alloc (.cells #[.slice (some ⟨g, 0, none⟩) n n, .int .i64 G, .int .i64 I, .int .i64 D] 50) = V4q5810x3 at *
            generalize V3q58x10.heap.size = b4k3 at *
            refine stepH_one 6 (by kernel_rfl) ?_
            · refine opH_run 6 13 (.slice (some ⟨V4q5810x3.heap.size, 0, none⟩) nb nb) (V4q5810x3.alloc (.cells (fals nb).toArray 4)) rfl (by kernel_rfl) (by kernel_rfl) (exec_make (l := .tmp 12) (c := .tmp 12) rfl (by kernel_rfl) (by kernel_rfl) (makeb_run V4q5810x3 nb (by omega))) (gat_new hS4) ?_
              simp only [List.setIfInBounds_toArray, List.set_cons_zero, List.set_cons_succ]
              have HF5 := Hid.mk HF4.out.addC
              have hS5 := gat_new (o := (.cells (fals nb).toArray 4)) hS4
              clear HF4
              generalize V4q5810x3.alloc (.cells (fals nb).toArray 4) = V5q35810x6 at *
              generalize V4q5810x3.heap.size = b5k6 at *
              refine takeH 11 18 (.agg #[.pointer (some ⟨b4k3, 0, none⟩), .slice (some ⟨b5k6, 0, none⟩) nb nb, .slice (some ⟨b3k10, 0, none⟩) (N + 1) (N + 1), .slice none 0 0, .bool false]) rfl (by kernel_rfl) (by kernel_rfl) (by kernel_rfl) (by kernel_rfl) (fun _ _ _ h => h) (by kernel_rfl) (fun w hw => by (clear hw; go_simp)) hS5 ?_
              simp only [List.setIfInBounds_toArray, List.set_cons_zero, List.set_cons_succ]
              obtain ⟨hrpF, hbF, hcF, htF, hrF⟩ := HF5.out.fin HGL.out
              refine stepH_run 12 19 (.pointer (some ⟨V5q35810x6.heap.size, 0, none⟩)) (V5q35810x6.alloc (.cells #[.pointer (some ⟨b4k3, 0, none⟩), .slice (some ⟨b5k6, 0, none⟩) nb nb, .slice (some ⟨b3k10, 0, none⟩) (N + 1) (N + 1), .slice none 0 0, .bool false] 67)) rfl (by kernel_rfl) (by kernel_rfl) (by kernel_rfl) (exec_boxr (x := .tmp 18) rfl (by kernel_rfl)) (gat_new hS5) ?_
              simp only [List.setIfInBounds_toArray, List.set_cons_zero, List.set_cons_succ]
              refine takeH 13 5 (.pointer (some ⟨V5q35810x6.heap.size, 0, none⟩)) rfl (by kernel_rfl) (by kernel_rfl) (by kernel_rfl) (by kernel_rfl) (fun _ _ _ h => h) (by kernel_rfl) (fun w hw => by kernel_rfl) (gat_new hS5) ?_
              simp only [List.setIfInBounds_toArray, List.set_cons_zero, List.set_cons_succ]
              refine wpAnyH_done (by kernel_rfl) ?_ _
              go_wp2_with fail
              go_meet
              case rel => exact ⟨⟨b4k3, g, V5q35810x6.heap.size, b5k6, b3k10⟩, rfl, rfl, hrpF, hbF, hcF, htF, hrF⟩
          · refine opH_run 6 13 (.slice (some ⟨V3q58x10.heap.size, 0, none⟩) nb nb) (V3q58x10.alloc (.cells (fals nb).toArray 4)) rfl (by kernel_rfl) (by kernel_rfl) (exec_make (l := .tmp 12) (c := .tmp 12) rfl (by kernel_rfl) (by kernel_rfl) (makeb_run V3q58x10 nb (by omega))) (gat_new hS3) ?_
            simp only [List.setIfInBounds_toArray, List.set_cons_zero, List.set_cons_succ]
            have HF4 := Hid.mk HF3.out.addC
            have hS4 := gat_new (o := (.cells (fals nb).toArray 4)) hS3
            clear HF3
            generalize V3q58x10.alloc (.cells (fals nb).toArray 4) = V4q5810x6 at *
            generalize V3q58x10.heap.size = b4k6 at *
            refine stepH_one 3 (by kernel_rfl) ?_
            · refine opH_run 3 10 (.pointer (some ⟨V4q5810x6.heap.size, 0, none⟩)) (V4q5810x6.alloc (.cells #[.slice (some ⟨g, 0, none⟩) n n, .int .i64 G, .int .i64 I, .int .i64 D] 50)) rfl (by kernel_rfl) (by kernel_rfl) (exec_boxd (x := .tmp 9) rfl (by kernel_rfl)) (gat_new hS4) ?_
              simp only [List.setIfInBounds_toArray, List.set_cons_zero, List.set_cons_succ]
              have HF5 := Hid.mk HF4.out.addD
              have hS5 := gat_new (o := (.cells #[.slice (some ⟨g, 0, none⟩) n n, .int .i64 G, .int .i64 I, .int .i64 D] 50)) hS4
              clear HF4
              generalize V4q5810x6.alloc (.cells #[.slice (some ⟨g, 0, none⟩) n n, .int .i64 G, .int .i64 I, .int .i64 D] 50) = V5q56810x3 at *
              generalize V4q5810x6.heap.size = b5k3 at *
              refine takeH 11 18 (.agg #[.pointer (some ⟨b5k3, 0, none⟩), .slice (some ⟨b4k6, 0, none⟩) nb nb, .slice (some ⟨b3k10, 0, none⟩) (N + 1) (N + 1), .slice none 0 0, .bool false]) rfl (by kernel_rfl) (by kernel_rfl) (by kernel_rfl) (by kernel_rfl) (fun _ _ _ h => h) (by kernel_rfl) (fun w hw => by (clear hw; go_simp)) hS5 ?_
              simp only [List.setIfInBounds_toArray, List.set_cons_zero, List.set_cons_succ]
              obtain ⟨hrpF, hbF, hcF, htF, hrF⟩ := HF5.out.fin HGL.out
              refine stepH_run 12 19 (.pointer (some ⟨V5q56810x3.heap.size, 0, none⟩)) (V5q56810x3.alloc (.cells #[.pointer (some ⟨b5k3, 0, none⟩), .slice (some ⟨b4k6, 0, none⟩) nb nb, .slice (some ⟨b3k10, 0, none⟩) (N + 1) (N + 1), .slice none 0 0, .bool false] 67)) rfl (by kernel_rfl) (by kernel_rfl) (by kernel_rfl) (exec_boxr (x := .tmp 18) rfl (by kernel_rfl)) (gat_new hS5) ?_
              simp only [List.setIfInBounds_toArray, List.set_cons_zero, List.set_cons_succ]
              refine takeH 13 5 (.pointer (some ⟨V5q56810x3.heap.size, 0, none⟩)) rfl (by kernel_rfl) (by kernel_rfl) (by kernel_rfl) (by kernel_rfl) (fun _ _ _ h => h) (by kernel_rfl) (fun w hw => by kernel_rfl) (gat_new hS5) ?_
              simp only [List.setIfInBounds_toArray, List.set_cons_zero, List.set_cons_succ]
              refine wpAnyH_done (by kernel_rfl) ?_ _
              go_wp2_with fail
              go_meet
              case rel => exact ⟨⟨b5k3, g, V5q56810x3.heap.size, b4k6, b3k10⟩, rfl, rfl, hrpF, hbF, hcF, htF, hrF⟩
  case rest =>
    obtain ⟨p, rfl, hpg, hrp, hB, hge1, hge2, hge3⟩ := hcut
    have HP := Hid.mk hrp
    have HB := Hid.mk hB
    have HPG := Hid.mk hpg
    have HPL : Hid (w.heap.size ≤ wc.heap.size) := Hid.mk hB.size
    clear hrp hB hpg HF0
    go_wp2_with (go_at_call 51; refine (HRT.out _ p HP.out).mono ?_; rintro e w2 ⟨rfl, ⟨t, gl, c, go, co, htn, hge⟩, hon⟩; have HTN := Hid.mk htn; have HON := Hid.mk hon; have HB2 := Hid.mk (HB.out.trans (hon.below HB.out.size (fun k e => by rcases e with e | e | e <;> omega))); have HGE := Hid.mk (Nat.le_trans HPL.out hge); clear htn hon hge)
    go_loopw [6] (fun i wr => (i = .int .i64 0 ∧ TnAt p n nb (N + 1) G I D xs t gl c go co (.slice none 0 0) wr ∧ Below w.heap.size w wr) ∨ (i = .int .i64 1 ∧ ∃ gd cd ae cm, DrAt p n nb (N + 1) G I D xs t gl c go co gd cd (.slice (some ae) 32 cm) wr ∧ EAt wr (some ae) 32 freeL ∧ Below w.heap.size w wr)) (fun i _ => 1 - (intOf i).toNat)
    case atStart => exact .inl ⟨rfl, HTN.out, HB2.out⟩
    case round =>
      rcases hrel with ⟨rfl, htn, hbl⟩ | ⟨rfl, gd, cd, ae, cm, hdr, hea, hbl⟩
      · obtain ⟨r0, r2, r3, r4, s1, c4, c5, c6, l0, o0⟩ := tn_cells htn (by omega)
        have HT3 := Hid.mk htn
        have HB3 := Hid.mk hbl
        clear htn hbl HTN HB2
        go_wp2_with (go_at_call 52; refine (HEN.out _ p t gl c go co HT3.out).mono ?_; rintro e w4 ⟨rfl, gd, cd, ae, cm, hdr, hea, hon⟩; have HDR := Hid.mk hdr; have HEA := Hid.mk hea; have HB4 := Hid.mk (HB3.out.trans (hon.below HB3.out.size (fun k e => by subst e; exact HGE.out))); clear hdr hea hon)
        go_roundw
        case rel => exact .inr ⟨by go_num, gd, cd, ae, cm, HDR.out, HEA.out, HB4.out⟩
        case measure => simp [intOf]
      · obtain ⟨r0, r2, r3, r4, s1, c4, c5, c6, l0, o0⟩ := tn_cells hdr.tn (by omega)
        have HDR := Hid.mk hdr
        have HEA := Hid.mk hea
        have HB3 := Hid.mk hbl
        clear hdr hea hbl HTN HB2
        go_wp2
        go_ret
        exact ⟨p, t, gl, c, go, co, gd, cd, ae, cm, rfl, HPG.out, HDR.out, HEA.out, HB3.out⟩
end Mk
end Go.Proofs.YtejnmpnioeamhaaGreat
