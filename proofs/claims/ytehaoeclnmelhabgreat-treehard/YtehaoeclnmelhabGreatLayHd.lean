/-
  read: where nothing is wrong.
-/
import Derived.Test.YtehaoeclnmelhabGreatLayPz
import Derived.Test.YtehaoeclnmelhabGreatLayLaw
import Derived.Test.YtehaoeclnmelhabGreatLayTop
import Derived.Test.YtehaoeclnmelhabGreatLayMv
import Derived.Test.YtehaoeclnmelhabGreatLayWr
import Derived.Test.YtehaoeclnmelhabGreatLayRo
namespace Go.Proofs.YtehaoeclnmelhabGreat
open Go Go.Proofs Go.RowKit Go.Shelf
attribute [local go_sem] Oper.semAt_some

/-- The bytes of a file behind k runs. -/
def rdP (off : Int) (L : Nat) (p : List (Int × List Int)) : Nat → List Int
  | 0 => zeros L
  | k + 1 => match getP p (pzB off k) with
    | none => rdP off L p k
    | some d => splice (rdP off L p k) (pzF off L k).toNat ((d.drop (pzA off k).toNat).take (pzF off L (k + 1) - pzF off L k).toNat)
theorem rd_len {off : Int} {L : Nat} (h0 : 0 ≤ off) {p : List (Int × List Int)} {k : Nat} (hk : k ≤ pzN off L) : (rdP off L p k).length = L := by
  induction k with
  | zero => exact zeros_length L
  | succ k ih =>
    have ih := ih (by omega)
    rw [rdP]
    cases hg : getP p (pzB off k) with
    | none => exact ih
    | some d =>
      obtain ⟨p0, p1, p2, p3, p4, p5, p6, p7, p8, p9⟩ := pz_in h0 (show (0 : Int) ≤ (L : Int) by omega) (show k < pzN off L by omega)
      simp only
      rw [length_splice _ _ _ (by rw [List.length_take]; omega)]
      exact ih
/-- Between two rounds. -/
structure RdI (w : World) (g : Nat) (off : Int) (L : Nat) (p : List (Int × List Int)) (k : Nat) (W : World) : Prop where
  row : RAt W g (rdP off L p k)
  only : Only (fun j => j = g) w W
theorem RdI_own {w : World} {g : Nat} {off : Int} {L : Nat} {p : List (Int × List Int)} (hg0 : g < w.heap.size) (k : Nat) (A B : World) (row : Option Nat) (h : RdI w g off L p k A) (hg : A.grownBy B row) (hrow : ∀ q, row = some q → q = w.heap.size + 1) : RdI w g off L p k B :=
  ⟨(hg.block g (lt_of_block h.row) (fun e => by have := hrow g e.symm; omega)).trans h.row, h.only.grown hg (fun q e => .inr (by have := hrow q e; omega))⟩
set_option maxRecDepth 100000 in
theorem exec_allocD {ev : Operand → Value} {oi : Oper} {W : World} (ho : oi.op = .alloc 29) : (execOp ev oi).run Tryz.prog W = .ok (.value (.pointer (some ⟨W.heap.size, 0, none⟩))) (W.alloc (.cells #[.slice none 0 0] 29)) := by
  unfold execOp
  simp only [ho]
  go_simp
/-- copy(b, s) of a longer row. -/
theorem copyc_run (W : World) (g o dLen dCap : Nat) (xs ys : List Int) (a : Addr) (n c : Nat) (h : RAt W g xs) (hb : BAt W (some a) n ys) (hl : o + dLen ≤ xs.length) (hn : dLen ≤ n) :
    ∃ W', (Builtin.copy_ #[29, 29] 3 #[.slice (some ⟨g, o, none⟩) dLen dCap, .slice (some a) n c]).run Tryz.prog W = .ok (.int .i64 (dLen : Nat)) W' ∧ RAt W' g (splice xs o (ys.take dLen)) ∧ Only (fun k => k = g) W W' := by
  obtain ⟨i0, hi, hz0, hz1, hz2⟩ := info5p
  have hyl := hb.1
  have htl : (ys.take dLen).length = dLen := by rw [List.length_take]; omega
  have hcl : (By (ys.take dLen)).length = min n dLen := by rw [By_length, htl]; omega
  have hr := run_copy_row (P := Tryz.prog) W 29 29 3 5 g o dLen dCap a n c (By xs).toArray 5 (By (ys.take dLen)) Tryz.underlying29 (by rw [hi]; simp [hz1]) h hcl (fun j u hj => by
    have hjl := (List.getElem?_eq_some_iff.1 hj).1
    rw [By_length, htl] at hjl
    rw [By_get _ j (by omega)] at hj
    obtain ⟨a', e, hc⟩ := hb.at j (by omega)
    cases e
    rw [hc, ← hj]
    simp only [List.getD, List.getElem?_take, if_pos hjl]) (by rw [By_length, htl]; simp [By_length]; omega) (By_one _)
  refine ⟨W.setRow g (By (splice xs o (ys.take dLen))).toArray, hr.trans ?_, setRow_heap W g _ _ 5 _ h, (Only.refl (fun k => k = g) W).setRow (.inl rfl) _⟩
  rw [By_length, htl]
  have e : (By xs).toArray.toList.take o ++ By (ys.take dLen) ++ (By xs).toArray.toList.drop (o + dLen) = By (splice xs o (ys.take dLen)) := by
    unfold splice
    rw [htl]
    simp [By]
  rw [e]
  rfl
set_option maxRecDepth 100000 in
theorem exec_sl3 {ev : Operand → Value} {oi : Oper} {s y z : Operand} {W : World} (g L F E : Nat) (h : F < E ∧ E ≤ L ∧ L ≤ 8192) (ho : oi.op = .slice 29 s (some y) (some z) none) (hs : ev s = .slice (some ⟨g, 0, none⟩) L L) (hy : ev y = .int .i64 (F : Int)) (hz : ev z = .int .i64 (E : Int)) : (execOp ev oi).run Tryz.prog W = .ok (.value (.slice (some ⟨g, F, none⟩) (E - F) (L - F))) W := by
  unfold execOp
  rw [ho]
  simp only [hs, hy, hz, Option.map]
  have a1 : E ≤ L := by omega
  have a2 : F ≤ E := by omega
  have a3 : ¬ L = F := by omega
  go_simp
set_option maxRecDepth 100000 in
set_option maxHeartbeats 4000000 in
theorem read_main (w : World) (t : Nat) (σ : Tr) (Ls : List Lay) (hT : TrAt w t σ Ls) (hOk : ∀ x ∈ σ.nodes, x.Ok) (kk : Int) (s s2 : ByteArray) (off N : Int) (dp : Option Addr) (dl dc : Nat) (hs : s.size ≤ 16777216) (j : Nat) (he : fileE σ.nodes (ofS s) = (some j, 0)) (hj : j < σ.nodes.length) (hjk : (nodeAt σ.nodes j).isDir = false) (h0 : 0 ≤ off) (h1 : off ≤ 67379200) (hN0 : 0 ≤ N) (hN1 : N ≤ 8192) (hz : 0 ≤ (nodeAt σ.nodes j).size ∧ (nodeAt σ.nodes j).size ≤ 67379200) (L : Nat) (hL : (L : Int) = max 0 (min N ((nodeAt σ.nodes j).size - off))) :
    Calls Tryz.prog 31 #[ptrV t, callV kk s s2 off N (.slice dp dl dc)] w fun e w' => ∃ g, e = .returned (.agg #[.int .i64 0, .slice (some ⟨g, 0, none⟩) L L, .int .i64 0, .int .i64 0, .int .i64 0, .slice none 0 0, .int .i64 0]) ∧ Below w.heap.size w w' ∧ RAt w' g (rdP off L (nodeAt σ.nodes j).parts (pzN off L)) ∧ w.heap.size + 2 ≤ g := by
  obtain ⟨b, m, r, l, z, p, q1, q2, q3, q4, q5⟩ := hT.fileAt hj hjk
  have hok : (Nd.file l z p).Ok := hOk _ (List.mem_of_getElem? q2)
  have hpp : (nodeAt σ.nodes j).parts = p := by rw [q5]; rfl
  have hzz : (nodeAt σ.nodes j).size = z := by rw [q5]; rfl
  rw [hpp]
  rw [hzz] at hz hL
  have HFI : Hid (∀ W, Below w.heap.size w W → _) := Hid.mk (fun W (hB : Below w.heap.size w W) => file_any W t σ Ls (hT.below rfl hB) s hs)
  rw [he] at HFI
  simp only [optV, ptrV, q4] at HFI
  have hnd : (b :: m :: r).Nodup := foot_nodup (List.nodup_cons.1 hT.apart).2 q1
  have HPT : Hid (PtAt w m r p) := Hid.mk (q3.parts hok.1 (List.nodup_cons.1 hnd).2)
  have HND : Hid (w.heap[b]? = some (.cells #[.int .i64 1, .int .i64 l, .int .i64 z, .map (some m), .slice none 0 0, .map none] 66 (0, 0))) := Hid.mk q3.node
  have HFL : Hid (∀ q ∈ b :: m :: r, q < w.heap.size) := Hid.mk (fun q hq => NdAt.lt (loc := fun _ => 0) (L := .file b m r) (d := .file l z p) q3 q hq)
  have c1 : ¬ off < 0 := by omega
  have c2 : ¬ N < 0 := by omega
  have c3 : ¬ (8192 : Int) < N := by omega
  have c4 : IntKind.i64.wrap (z - off) = z - off := by rw [IntKind.wrap_i64]; omega
  have HNUM : Hid (0 ≤ off ∧ off ≤ 67379200 ∧ L ≤ 8192) := Hid.mk (by omega)
  have HL := Hid.mk hL
  clear hT hOk he hj hjk hpp hok q1 q2 q3 q5 hs hzz hnd hL hz
  unfold callV ptrV at *
  refine (callsIn_wide (n := 5)).1 ?_
  refine callsIn_of_wp_marks Tryz.func31 rfl trivial ?_ rfl
  simp only [Tryz.ntmps31, List.size_toArray, List.length_cons, List.length_nil, Nat.reduceAdd, Nat.reduceSub, Array.replicate_succ, Array.replicate_zero, List.push_toArray, List.append_toArray, List.nil_append, List.cons_append]
  gi_wp2_with fail
  obtain ⟨X, hX⟩ : ∃ X, X = (w.alloc (.cells #[.int .i64 kk, .string s, .string s2, .int .i64 off, .int .i64 N, .slice dp dl dc] 35)).alloc (.cells #[.int .i64 0, .slice none 0 0, .int .i64 0, .int .i64 0, .int .i64 0, .slice none 0 0, .int .i64 0] 32) := ⟨_, rfl⟩
  have hXB : Below w.heap.size w X := by rw [hX]; exact ((Below.refl _ w).alloc (Nat.le_refl _) _).alloc (by simp) _
  have hXs : X.heap.size = w.heap.size + 2 := by rw [hX]; simp
  have hX0 : X.heap[w.heap.size]? = some (.cells #[.int .i64 kk, .string s, .string s2, .int .i64 off, .int .i64 N, .slice dp dl dc] 35 (0, 0)) := by rw [hX, Below.heap_alloc _ _ _ (by simp)]; exact blk_new w _
  have hX1 : X.heap[w.heap.size + 1]? = some (.cells #[.int .i64 0, .slice none 0 0, .int .i64 0, .int .i64 0, .int .i64 0, .slice none 0 0, .int .i64 0] 32 (0, 0)) := by
    rw [hX]
    have := blk_new (w.alloc (.cells #[.int .i64 kk, .string s, .string s2, .int .i64 off, .int .i64 N, .slice dp dl dc] 35)) (.cells #[.int .i64 0, .slice none 0 0, .int .i64 0, .int .i64 0, .int .i64 0, .slice none 0 0, .int .i64 0] 32)
    rwa [World.size_alloc] at this
  rw [← hX]
  clear hX
  have f1 := blk_cell hX0 1
  have f3 := blk_cell hX0 3
  have f4 := blk_cell hX0 4
  simp at f1 f3 f4
  have HXB := Hid.mk hXB
  have HXS := Hid.mk hXs
  have HX0 := Hid.mk hX0
  have HX1 := Hid.mk hX1
  clear hXB hXs hX0 hX1
  gi_wp2_with (refine ⟨trivial, ?_⟩; gi_at_call 53; refine (callsIn_wide.2 (HFI.out X HXB.out)).mono ?_; rintro e' W1 ⟨rfl, hB1⟩; have HB1 := Hid.mk hB1; clear hB1 f1 f3 f4)
  obtain ⟨V, hV⟩ : ∃ V, V = W1.alloc (.cells #[.pointer (some ⟨b, 0, none⟩)] 52) := ⟨_, rfl⟩
  have hBV : Below w.heap.size w V := by rw [hV]; have := HXB.out.trans (HB1.out.mono HXB.out.size); exact this.alloc this.size _
  have hVs : V.heap.size = W1.heap.size + 1 := by rw [hV]; simp
  have hbl : ∀ q, q < X.heap.size → V.heap[q]? = X.heap[q]? := fun q hq => by rw [hV, Below.heap_alloc _ _ _ (Nat.lt_of_lt_of_le hq HB1.out.size)]; exact HB1.out.block q hq
  have hcl := (hbl _ (lt_of_block HX0.out)).trans HX0.out
  have hrs := (hbl _ (lt_of_block HX1.out)).trans HX1.out
  have hnb : V.heap[W1.heap.size]? = some (.cells #[.pointer (some ⟨b, 0, none⟩)] 52 (0, 0)) := by rw [hV]; exact blk_new W1 _
  have hnd := (hBV.block b (HFL.out b (by simp))).trans HND.out
  have hptV : PtAt V m r p := HPT.out.kept (fun q hq => hBV.block q (HFL.out q (by simp at hq ⊢; exact .inr hq)))
  have hw1s : w.heap.size + 2 ≤ W1.heap.size := by have h1 := HB1.out.size; have h2 := HXS.out; omega
  rw [← hV]
  clear hV hbl HX0 HX1 HXB HXS HB1
  have HS6 : Hid (V.drew.cell? ⟨w.heap.size, 4, none⟩ = some (.int .i64 N) ∧ V.drew.cell? ⟨W1.heap.size, 0, none⟩ = some (.pointer (some ⟨b, 0, none⟩)) ∧ V.drew.cell? ⟨b, 2, none⟩ = some (.int .i64 z) ∧ V.drew.cell? ⟨w.heap.size, 3, none⟩ = some (.int .i64 off)) := Hid.mk ⟨by rw [blk_cell (w := V.drew) hcl]; rfl, by rw [blk_cell (w := V.drew) hnb]; rfl, by rw [blk_cell (w := V.drew) hnd]; rfl, by rw [blk_cell (w := V.drew) hcl]; rfl⟩
  have hkeep : ∀ V5 : World, (∀ q, q < V.heap.size → V5.heap[q]? = V.heap[q]?) → V5.cell? ⟨w.heap.size, 4, none⟩ = some (.int .i64 N) ∧ V5.cell? ⟨W1.heap.size, 0, none⟩ = some (.pointer (some ⟨b, 0, none⟩)) ∧ V5.cell? ⟨b, 2, none⟩ = some (.int .i64 z) ∧ V5.cell? ⟨w.heap.size, 3, none⟩ = some (.int .i64 off) := fun V5 h => by
    have e1 := (h _ (lt_of_block hcl)).trans hcl
    have e2 := (h _ (lt_of_block hnb)).trans hnb
    have e3 := (h _ (lt_of_block hnd)).trans hnd
    exact ⟨by rw [blk_cell e1]; rfl, by rw [blk_cell e2]; rfl, by rw [blk_cell e3]; rfl, by rw [blk_cell e1]; rfl⟩
  have HKP := Hid.mk hkeep
  have HBV := Hid.mk hBV
  have HCL := Hid.mk hcl
  have HRS := Hid.mk hrs
  have HNB := Hid.mk hnb
  have HNV := Hid.mk hnd
  have HPV := Hid.mk hptV
  have HW1 := Hid.mk hw1s
  have HVS := Hid.mk hVs
  have hmk : ∀ Y : World, (Instr.makeSlice 29 (.int .i64 (max 0 (min N (z - off)))) (.int .i64 (max 0 (min N (z - off))))).run Tryz.prog Y = .ok (.slice (some ⟨Y.heap.size, 0, none⟩) L L) (Y.alloc (.cells (By (zeros L)).toArray 5)) := fun Y => by rw [← HL.out]; exact make_run Y L (by have := HNUM.out; omega)
  have HMK := Hid.mk hmk
  clear hBV hcl hrs hnb hnd hptV hw1s hVs hkeep hmk
  refine wide_region_held (S := fun W => W.cell? ⟨w.heap.size, 4, none⟩ = some (.int .i64 N) ∧ W.cell? ⟨W1.heap.size, 0, none⟩ = some (.pointer (some ⟨b, 0, none⟩)) ∧ W.cell? ⟨b, 2, none⟩ = some (.int .i64 z) ∧ W.cell? ⟨w.heap.size, 3, none⟩ = some (.int .i64 off)) (by kernel_rfl) (by kernel_rfl) HS6.out (fun hH => ?_)
  change wpAnyH Tryz.prog Region.Mode.any _ _ _ 14 _ _ _
  refine takeH 0 36 (.pointer (some ⟨w.heap.size, 4, none⟩)) rfl (by kernel_rfl) (by kernel_rfl) (by kernel_rfl) (by kernel_rfl) (fun _ _ _ h => h) (by kernel_rfl) (fun w hw => by (try dsimp only at hw); obtain ⟨hw1, hw2, hw3, hw4⟩ := hw; go_simp) hH ?_
  simp only [List.setIfInBounds_toArray, List.set_cons_zero, List.set_cons_succ]
  refine takeH 1 37 (.int .i64 N) rfl (by kernel_rfl) (by kernel_rfl) (by kernel_rfl) (by kernel_rfl) (fun _ _ _ h => h) (by kernel_rfl) (fun w hw => by (try dsimp only at hw); obtain ⟨hw1, hw2, hw3, hw4⟩ := hw; go_simp) hH ?_
  simp only [List.setIfInBounds_toArray, List.set_cons_zero, List.set_cons_succ]
  refine takeH 2 38 (.pointer (some ⟨b, 0, none⟩)) rfl (by kernel_rfl) (by kernel_rfl) (by kernel_rfl) (by kernel_rfl) (fun _ _ _ h => h) (by kernel_rfl) (fun w hw => by (try dsimp only at hw); obtain ⟨hw1, hw2, hw3, hw4⟩ := hw; go_simp) hH ?_
  simp only [List.setIfInBounds_toArray, List.set_cons_zero, List.set_cons_succ]
  refine takeH 3 39 (.pointer (some ⟨b, 0, none⟩)) rfl (by kernel_rfl) (by kernel_rfl) (by kernel_rfl) (by kernel_rfl) (fun _ _ _ h => h) (by kernel_rfl) (fun w hw => by (try dsimp only at hw); obtain ⟨hw1, hw2, hw3, hw4⟩ := hw; go_simp) hH ?_
  simp only [List.setIfInBounds_toArray, List.set_cons_zero, List.set_cons_succ]
  refine takeH 4 40 (.pointer (some ⟨b, 2, none⟩)) rfl (by kernel_rfl) (by kernel_rfl) (by kernel_rfl) (by kernel_rfl) (fun _ _ _ h => h) (by kernel_rfl) (fun w hw => by (try dsimp only at hw); obtain ⟨hw1, hw2, hw3, hw4⟩ := hw; go_simp) hH ?_
  simp only [List.setIfInBounds_toArray, List.set_cons_zero, List.set_cons_succ]
  refine takeH 5 41 (.int .i64 z) rfl (by kernel_rfl) (by kernel_rfl) (by kernel_rfl) (by kernel_rfl) (fun _ _ _ h => h) (by kernel_rfl) (fun w hw => by (try dsimp only at hw); obtain ⟨hw1, hw2, hw3, hw4⟩ := hw; go_simp) hH ?_
  simp only [List.setIfInBounds_toArray, List.set_cons_zero, List.set_cons_succ]
  refine takeH 6 42 (.pointer (some ⟨w.heap.size, 3, none⟩)) rfl (by kernel_rfl) (by kernel_rfl) (by kernel_rfl) (by kernel_rfl) (fun _ _ _ h => h) (by kernel_rfl) (fun w hw => by (try dsimp only at hw); obtain ⟨hw1, hw2, hw3, hw4⟩ := hw; go_simp) hH ?_
  simp only [List.setIfInBounds_toArray, List.set_cons_zero, List.set_cons_succ]
  refine takeH 7 43 (.int .i64 off) rfl (by kernel_rfl) (by kernel_rfl) (by kernel_rfl) (by kernel_rfl) (fun _ _ _ h => h) (by kernel_rfl) (fun w hw => by (try dsimp only at hw); obtain ⟨hw1, hw2, hw3, hw4⟩ := hw; go_simp) hH ?_
  simp only [List.setIfInBounds_toArray, List.set_cons_zero, List.set_cons_succ]
  refine takeH 8 44 (.int .i64 (z - off)) rfl (by kernel_rfl) (by kernel_rfl) (by kernel_rfl) (by kernel_rfl) (fun _ _ _ h => h) (by kernel_rfl) (fun w hw => by (try dsimp only at hw); obtain ⟨hw1, hw2, hw3, hw4⟩ := hw; go_simp) hH ?_
  simp only [List.setIfInBounds_toArray, List.set_cons_zero, List.set_cons_succ]
  refine takeH 9 45 (.int .i64 (min N (z - off))) rfl (by kernel_rfl) (by kernel_rfl) (by kernel_rfl) (by kernel_rfl) (fun _ _ _ h => h) (by kernel_rfl) (fun w hw => by (try dsimp only at hw); obtain ⟨hw1, hw2, hw3, hw4⟩ := hw; go_simp) hH ?_
  simp only [List.setIfInBounds_toArray, List.set_cons_zero, List.set_cons_succ]
  refine takeH 10 46 (.int .i64 (max 0 (min N (z - off)))) rfl (by kernel_rfl) (by kernel_rfl) (by kernel_rfl) (by kernel_rfl) (fun _ _ _ h => h) (by kernel_rfl) (fun w hw => by (try dsimp only at hw); obtain ⟨hw1, hw2, hw3, hw4⟩ := hw; go_simp) hH ?_
  simp only [List.setIfInBounds_toArray, List.set_cons_zero, List.set_cons_succ]
  refine stepH_two 11 12 (by kernel_rfl) ?_ ?_
  · obtain ⟨g, hg⟩ : ∃ g, g = V.drew.heap.size := ⟨_, rfl⟩
    obtain ⟨Y, hY⟩ : ∃ Y, Y = V.drew.alloc (.cells (By (zeros L)).toArray 5) := ⟨_, rfl⟩
    have e := HMK.out V.drew
    rw [← hg, ← hY] at e
    have hYs : Y.heap.size = g + 1 := by rw [hY, hg]; simp
    have hYk : ∀ q, q < V.heap.size → Y.heap[q]? = V.heap[q]? := fun q hq => by rw [hY]; exact Below.heap_alloc _ _ _ hq
    have hYg : Y.heap[g]? = some (.cells (By (zeros L)).toArray 5 (0, 0)) := by rw [hY, hg]; exact blk_new _ _
    refine opH_run 11 47 (.slice (some ⟨g, 0, none⟩) L L) Y rfl (by kernel_rfl) (by kernel_rfl) (exec_mk rfl (by kernel_rfl) (by kernel_rfl) e) (HKP.out Y hYk) ?_
    simp only [List.setIfInBounds_toArray, List.set_cons_zero, List.set_cons_succ]
    obtain ⟨db, hdb⟩ : ∃ db, db = Y.heap.size := ⟨_, rfl⟩
    obtain ⟨Z, hZ⟩ : ∃ Z, Z = Y.alloc (.cells #[.slice none 0 0] 29) := ⟨_, rfl⟩
    have hZk : ∀ q, q < V.heap.size → Z.heap[q]? = V.heap[q]? := fun q hq => by rw [hZ, Below.heap_alloc _ _ _ (by have : V.drew.heap.size = V.heap.size := rfl; omega)]; exact hYk q hq
    have hZg : Z.heap[g]? = some (.cells (By (zeros L)).toArray 5 (0, 0)) := by rw [hZ, Below.heap_alloc _ _ _ (by omega)]; exact hYg
    have hZd : Z.heap[db]? = some (.cells #[.slice none 0 0] 29 (0, 0)) := by rw [hZ, hdb]; exact blk_new _ _
    have hgd : g ≠ db ∧ V.heap.size ≤ g ∧ V.heap.size ≤ db ∧ g < Z.heap.size ∧ db < Z.heap.size := by
      have e1 : V.drew.heap.size = V.heap.size := rfl
      exact ⟨by omega, by omega, by omega, lt_of_block hZg, lt_of_block hZd⟩
    refine stepH_run 12 7 (.pointer (some ⟨db, 0, none⟩)) Z rfl (by kernel_rfl) (by kernel_rfl) (by kernel_rfl) (by rw [hdb, hZ]; exact exec_allocD (by kernel_rfl)) (HKP.out Z hZk) ?_
    simp only [List.setIfInBounds_toArray, List.set_cons_zero, List.set_cons_succ]
    have HZO : Hid (Below w.heap.size w Z) := Hid.mk (by rw [hZ, hY]; exact (HBV.out.drew.alloc HBV.out.size _).alloc (by simp; have := HBV.out.size; exact Nat.le_succ_of_le this) _)
    clear hY hYs hYk hYg e hZ hg hdb
    have d0 := blk_cell hZd 0
    have d1 := blk_free hZd 0
    simp at d0
    obtain ⟨V5, hV5⟩ : ∃ V5, V5 = Z.setCell ⟨db, 0, none⟩ (.slice (some ⟨g, 0, none⟩) L L) := ⟨_, rfl⟩
    have hUk : ∀ q, q < V.heap.size → V5.heap[q]? = V.heap[q]? := fun q hq => by rw [hV5]; exact (Below.heap_setCell _ _ _ _ (by show q ≠ db; omega)).trans (hZk q hq)
    have hUg : V5.heap[g]? = some (.cells (By (zeros L)).toArray 5 (0, 0)) := by rw [hV5]; exact (Below.heap_setCell _ _ _ _ hgd.1).trans hZg
    have hUd : V5.heap[db]? = some (.cells #[.slice (some ⟨g, 0, none⟩) L L] 29 (0, 0)) := by rw [hV5, blk_set hZd]; rfl
    have hUs : V5.heap.size = Z.heap.size := by rw [hV5]; simp [World.setCell]
    have hUB : Below w.heap.size w V5 := by rw [hV5]; exact HZO.out.setCell (p := ⟨db, 0, none⟩) (by have := HBV.out.size; show w.heap.size ≤ db; omega) _
    refine stepH_one 13 (by kernel_rfl) ?_
    refine opH_store 13 V5 rfl (by kernel_rfl) (by kernel_rfl) (by rw [hV5]; go_simp) (HKP.out V5 hUk) ?_
    refine wpAnyH_done (by kernel_rfl) ?_ _
    dsimp only [Norm]
    have i3 := blk_cell ((hUk _ (lt_of_block HCL.out)).trans HCL.out) 3
    have i7 := blk_cell hUd 0
    simp at i3 i7
    have HUK := Hid.mk hUk
    have HUG := Hid.mk hUg
    have HUD := Hid.mk hUd
    have HUB := Hid.mk hUB
    have HGD : Hid (g ≠ db ∧ V.heap.size ≤ g ∧ V.heap.size ≤ db ∧ g < V5.heap.size ∧ db < V5.heap.size) := Hid.mk (by rw [hUs]; exact hgd)
    clear hH HS6 hV5 hUk hUg hUd hUs hUB hZk hZg hZd hgd d0 d1 HZO HMK
    gi_wp2_with (refine ⟨trivial, ?_⟩; gi_at_call 54; refine (callsIn_wide.2 (pieces_any _ off L)).mono ?_; rintro e w4 ⟨rfl, hw4⟩; have HW4 := Hid.mk hw4; clear hw4)
    have hs4 : w4.heap.size = V5.heap.size + 2 := by rw [HW4.out]; simp
    have hbl4 : ∀ q, q < V5.heap.size → w4.heap[q]? = V5.heap[q]? := fun q hq => by rw [HW4.out, Below.heap_alloc _ _ _ (by simp; omega), Below.heap_alloc _ _ _ hq]
    have hp2 : w4.heap[V5.heap.size]? = some (.cells #[.int .i64 off] 3 (0, 0)) := by rw [HW4.out, Below.heap_alloc _ _ _ (by simp)]; exact blk_new V5 _
    have hp3 : w4.heap[V5.heap.size + 1]? = some (.cells #[.int .i64 L] 3 (0, 0)) := by
      rw [HW4.out]
      have := blk_new (V5.alloc (.cells #[.int .i64 off] 3)) (.cells #[.int .i64 L] 3)
      rwa [World.size_alloc] at this
    have hB4 : Below w.heap.size w w4 := by rw [HW4.out]; exact (HUB.out.alloc HUB.out.size _).alloc (by simp; have := HUB.out.size; exact Nat.le_succ_of_le this) _
    have hvl : V.heap.size ≤ V5.heap.size := by have := HGD.out; omega
    have hK4 : ∀ q, q < V.heap.size → w4.heap[q]? = V.heap[q]? := fun q hq => (hbl4 q (by omega)).trans (HUK.out q hq)
    have hcl4 := (hK4 _ (lt_of_block HCL.out)).trans HCL.out
    have hrs4 := (hK4 _ (lt_of_block HRS.out)).trans HRS.out
    have hnb4 := (hK4 _ (lt_of_block HNB.out)).trans HNB.out
    have hnd4 := (hK4 _ (lt_of_block HNV.out)).trans HNV.out
    have hdb4 := (hbl4 _ HGD.out.2.2.2.2).trans HUD.out
    have hpt4 : PtAt w4 m r p := HPT.out.kept (fun q hq => hB4.block q (HFL.out q (by simp at hq ⊢; exact .inr hq)))
    have hg4 : RAt w4 g (rdP off L p 0) := (hbl4 _ HGD.out.2.2.2.1).trans HUG.out
    have hI0 : RdI w4 g off L p 0 w4 := ⟨hg4, Only.refl _ _⟩
    have hgl : g < w4.heap.size := lt_of_block hg4
    have HGL : Hid (g < w4.heap.size ∧ g ≠ db ∧ V.heap.size ≤ g ∧ w4.heap.size = V5.heap.size + 2 ∧ w.heap.size + 2 ≤ W1.heap.size ∧ W1.heap.size < V.heap.size ∧ g < V5.heap.size ∧ w.heap.size + 1 < V.heap.size) := Hid.mk ⟨hgl, HGD.out.1, HGD.out.2.1, hs4, HW1.out, by have := HVS.out; omega, HGD.out.2.2.2.1, by have := HVS.out; have := HW1.out; omega⟩
    have HFV : Hid (∀ q ∈ b :: m :: r, q < V.heap.size) := Hid.mk (fun q hq => by have := HFL.out q hq; have := HBV.out.size; omega)
    have HST : Hid (∀ q, q < w4.heap.size → q ≠ g → ∀ k W, RdI w4 g off L p k W → W.heap[q]? = w4.heap[q]?) := Hid.mk (fun q hq hne k W hI => hI.only.block q hq hne)
    have H4 := Hid.mk (And.intro hcl4 (And.intro hrs4 (And.intro hnb4 (And.intro hnd4 (And.intro hdb4 (And.intro hpt4 (And.intro hp2 (And.intro hp3 hB4))))))))
    have HL4 : Hid (w.heap.size < w4.heap.size ∧ w.heap.size + 1 < w4.heap.size ∧ W1.heap.size < w4.heap.size ∧ b < w4.heap.size ∧ db < w4.heap.size ∧ b < V.heap.size) := Hid.mk ⟨lt_of_block hcl4, lt_of_block hrs4, lt_of_block hnb4, lt_of_block hnd4, lt_of_block hdb4, HFV.out b (by simp)⟩
    clear hs4 hbl4 hp2 hp3 hB4 hvl hK4 hcl4 hrs4 hnb4 hnd4 hdb4 hpt4 hg4 i3 i7 HW4 HUK HUG HUD HUB HGD HCL HRS HNB HNV HPV HBV HKP
    refine wpIn_range_kx (gf := 66) (lb := #[.pointer (some ⟨V5.heap.size + 1, 0, none⟩), .pointer (some ⟨V5.heap.size, 0, none⟩)]) rfl (enters_of Tryz.func66 (by kernel_rfl) rfl) (pzN off L) (fun k => #[pzV off L k]) (fun _ => rfl)
      (RdI w4 g off L p) (fun _ => False) (fun k A B row h hg hr => RdI_own hgl k A B row h hg hr) (fun _ _ _ h _ _ => h.elim) hI0 ?hit
      (fun k W => { tmps := #[.pointer (some ⟨t, 0, none⟩), .agg #[.int .i64 kk, .string s, .string s2, .int .i64 off, .int .i64 N, .slice dp dl dc], undef, .pointer (some ⟨w.heap.size, 0, none⟩), .pointer (some ⟨w.heap.size + 1, 0, none⟩), .pointer (some ⟨W1.heap.size, 0, none⟩), .int .i64 0, .pointer (some ⟨db, 0, none⟩), .pointer (some ⟨W.heap.size, 0, none⟩), undef, undef, .pointer (some ⟨w.heap.size, 3, none⟩), .int .i64 off, .bool false, .bool false, .pointer (some ⟨w.heap.size, 4, none⟩), .int .i64 N, .bool false, .bool false, .bool false, .pointer (some ⟨w.heap.size, 4, none⟩), .int .i64 N, .bool false, .bool false, undef, .tuple #[.pointer (some ⟨b, 0, none⟩), .int .i64 0], .pointer (some ⟨t, 0, none⟩), .pointer (some ⟨w.heap.size, 1, none⟩), .string s, .tuple #[.pointer (some ⟨b, 0, none⟩), .int .i64 0], .pointer (some ⟨b, 0, none⟩), .int .i64 0, .int .i64 0, .bool false, undef, undef, .pointer (some ⟨w.heap.size, 4, none⟩), .int .i64 N, .pointer (some ⟨b, 0, none⟩), .pointer (some ⟨b, 0, none⟩), .pointer (some ⟨b, 2, none⟩), .int .i64 z, .pointer (some ⟨w.heap.size, 3, none⟩), .int .i64 off, .int .i64 (z - off), .int .i64 (min N (z - off)), .int .i64 (max 0 (min N (z - off))), .slice (some ⟨g, 0, none⟩) L L, .pointer (some ⟨w.heap.size, 3, none⟩), .int .i64 off, .slice (some ⟨g, 0, none⟩) L L, .int .i64 (L : Int), .func (.func 66) #[] #[.pointer (some ⟨V5.heap.size + 1, 0, none⟩), .pointer (some ⟨V5.heap.size, 0, none⟩)], pzV off L k, undef, undef, undef, undef, undef, undef, undef, undef, undef, undef, undef, undef, undef, undef, undef, undef, undef, undef, undef, undef, undef, undef, undef, undef], defers := [] })
      (fun k W => W.alloc (pzO off L k)) (fun k W => alloc_grown W _) ?assign ?body ?done ?stop
    case hit =>
      intro l' J Jx W hJI hg hY h0'
      have hn := HNUM.out
      have h2 := H4.out
      have h3 := HGL.out
      exact pieces1_in 4 (by omega) l' V5.heap.size off L h0 (by omega) (by omega) (by omega) J Jx W (fun k A hJ => ⟨by rw [blk_cell ((HST.out V5.heap.size (by omega) (by omega) k A (hJI k A hJ)).trans h2.2.2.2.2.2.2.1)]; rfl, by rw [blk_cell ((HST.out (V5.heap.size + 1) (by omega) (by omega) k A (hJI k A hJ)).trans h2.2.2.2.2.2.2.2.1)]; rfl⟩) hY h0'
    case assign =>
      intro l' k W K hK
      unfold pzO at hK
      unfold pzV at hK ⊢
      generalize pzB off k = x1 at *
      generalize pzA off k = x2 at *
      generalize pzF off L k = x3 at *
      generalize pzF off L (k + 1) = x4 at *
      gi_wp2
      exact hK
    case body =>
      intro lp k W W2 hI hk hsz hg2 hs2
      have hn := HNUM.out
      have h4 := H4.out
      have h3 := HGL.out
      obtain ⟨p0, p1, p2, p3, p4, p5, p6, p7, p8, p9⟩ := pz_in h0 (show (0 : Int) ≤ (L : Int) by omega) hk
      have hIa := RdI_own hgl k W (W.alloc (pzO off L k)) none hI (alloc_grown W _) (by simp)
      have hI2 := RdI_own hgl k _ W2 _ hIa hg2 (fun q e => (Option.some.inj e).symm)
      have hbx : W2.heap[W.heap.size]? = some (pzO off L k) := (hg2.block W.heap.size (by simp) (fun e => by have := Option.some.inj e; omega)).trans (blk_new W _)
      have hsz2 : W2.heap.size = W.heap.size + 1 := by rw [hs2]; simp
      obtain ⟨x, hx⟩ : ∃ x, x = pzB off k := ⟨_, rfl⟩
      obtain ⟨A, hA⟩ : ∃ A : Nat, A = (pzA off k).toNat := ⟨_, rfl⟩
      obtain ⟨F, hF⟩ : ∃ F : Nat, F = (pzF off L k).toNat := ⟨_, rfl⟩
      obtain ⟨E, hE⟩ : ∃ E : Nat, E = (pzF off L (k + 1)).toNat := ⟨_, rfl⟩
      have hxb : 0 ≤ x ∧ x < 70000 := by rw [hx, ← p3]; omega
      have HA : Hid (A < 1024) := Hid.mk (by omega)
      have HF : Hid (F < E ∧ E ≤ L ∧ L ≤ 8192) := Hid.mk (by omega)
      have hef : E - F ≤ 1024 - A := by omega
      have hrl : (rdP off L p k).length = L := rd_len h0 (by omega)
      have hbx' : W2.heap[W.heap.size]? = some (.cells #[.int .i64 x, .int .i64 (A : Int), .int .i64 (F : Int), .int .i64 (E : Int)] 89 (0, 0)) := by
        rw [hbx]
        unfold pzO
        rw [← hx, show pzA off k = (A : Int) by omega, show pzF off L k = (F : Int) by omega, show pzF off L (k + 1) = (E : Int) by omega]
      have hrd : rdP off L p (k + 1) = match getP p x with
        | none => rdP off L p k
        | some d => splice (rdP off L p k) F ((d.drop A).take (E - F)) := by
        rw [rdP, ← hx, ← hA, ← hF, show (pzF off L (k + 1) - pzF off L k).toNat = E - F by omega]
      have hB2 : ∀ q, q < w4.heap.size → q ≠ g → W2.drew.heap[q]? = w4.heap[q]? := fun q hq hne => HST.out q hq hne k W2 hI2
      have hL4 := HL4.out
      have e1 := (hB2 W1.heap.size hL4.2.2.1 (by omega)).trans h4.2.2.1
      have e2 := (hB2 b hL4.2.2.2.1 (by omega)).trans h4.2.2.2.1
      have e3 := (hB2 db hL4.2.2.2.2.1 (fun e => h3.2.1 e.symm)).trans h4.2.2.2.2.1
      have hpt2 : PtAt W2.drew m r p := h4.2.2.2.2.2.1.kept (fun q hq => hB2 q (by have := HFV.out q (by simp at hq ⊢; exact .inr hq); omega) (by have := HFV.out q (by simp at hq ⊢; exact .inr hq); omega))
      have y1 : W2.drew.cell? ⟨W1.heap.size, 0, none⟩ = some (.pointer (some ⟨b, 0, none⟩)) := by rw [blk_cell e1]; rfl
      have y2 : W2.drew.cell? ⟨b, 3, none⟩ = some (.map (some m)) := by rw [blk_cell e2]; rfl
      have y3 : W2.drew.cell? ⟨W.heap.size, 0, none⟩ = some (.int .i64 x) := by rw [blk_cell (w := W2.drew) hbx']; rfl
      have HBX := Hid.mk hbx'
      have HRD := Hid.mk hrd
      have HI2 := Hid.mk hI2
      have HE3 := Hid.mk e3
      have HPT2 := Hid.mk hpt2
      have HEF := Hid.mk hef
      have HRL := Hid.mk hrl
      have HSZ : Hid (w4.heap.size + 2 ≤ W.heap.size ∧ W2.heap.size = W.heap.size + 1) := Hid.mk ⟨hsz, hsz2⟩
      have hlk := hpt2.blocks.look2 keyed3 Tryz.underlying64 (zero_bytes W2.drew) (Maps.keyOf_int_mk Tryz.underlying3 (okI_of (a := x) (by omega) (by omega)))
      have hnk : w4.heap.size ≠ g ∧ w4.heap.size + 1 ≠ g := by omega
      unfold pzV
      rw [← hx, show pzA off k = (A : Int) by omega, show pzF off L k = (F : Int) by omega, show pzF off L (k + 1) = (E : Int) by omega]
      clear hIa hI2 hbx hbx' hsz2 hrd hrl hef hB2 e1 e2 e3 hpt2 hg2 hs2 hI hsz hk p0 p1 p2 p3 p4 p5 p6 p7 p8 p9 hx hA hF hE hxb h4 hn hL4 hI0 hgl
      generalize W.heap.size = bx at *
      rcases HPT2.out.get x with ⟨g1, g2, g3⟩ | ⟨d, q, g1, g2, g3, g4⟩
      · rw [g3] at hlk
        simp only [Option.getD_none, Option.isSome_none] at hlk
        have HS0 : Hid (W2.drew.cell? ⟨W1.heap.size, 0, none⟩ = some (.pointer (some ⟨b, 0, none⟩)) ∧ W2.drew.cell? ⟨b, 3, none⟩ = some (.map (some m)) ∧ W2.drew.cell? ⟨bx, 0, none⟩ = some (.int .i64 x) ∧ (Instr.lookup 64 (.map (some m)) (.int .i64 x) true).run Tryz.prog W2.drew = .ok (.tuple #[.slice none 0 0, .bool false]) W2.drew) := Hid.mk ⟨y1, y2, y3, hlk⟩
        have HFIN : Hid (W2.drew.heap[w4.heap.size]? = W2.heap[w4.heap.size]? ∧ W2.drew.heap[w4.heap.size + 1]? = W2.heap[w4.heap.size + 1]? ∧ RdI w4 g off L p (k + 1) W2.drew) := Hid.mk ⟨rfl, rfl, ⟨by rw [HRD.out, g1]; exact HI2.out.row, ⟨HI2.out.only.os, HI2.out.only.tape, HI2.out.only.output, HI2.out.only.size, HI2.out.only.block⟩⟩⟩
        clear y1 y2 y3 hlk g1 g2 g3 hnk h3
        gi_wp2_with fail
        refine round_region_held (S := fun W => W.cell? ⟨W1.heap.size, 0, none⟩ = some (.pointer (some ⟨b, 0, none⟩)) ∧ W.cell? ⟨b, 3, none⟩ = some (.map (some m)) ∧ W.cell? ⟨bx, 0, none⟩ = some (.int .i64 x) ∧ (Instr.lookup 64 (.map (some m)) (.int .i64 x) true).run Tryz.prog W = .ok (.tuple #[.slice none 0 0, .bool false]) W) (by kernel_rfl) (by kernel_rfl) HS0.out (fun hH => ?_)
        change wpAnyH Tryz.prog Region.Mode.any _ _ _ 12 _ _ _
        refine takeH 0 55 (.pointer (some ⟨b, 0, none⟩)) rfl (by kernel_rfl) (by kernel_rfl) (by kernel_rfl) (by kernel_rfl) (fun _ _ _ h => h) (by kernel_rfl) (fun w hw => by (try dsimp only at hw); obtain ⟨hw1, hw2, hw3, hw4⟩ := hw; go_simp) hH ?_
        simp only [List.setIfInBounds_toArray, List.set_cons_zero, List.set_cons_succ]
        refine takeH 1 56 (.pointer (some ⟨b, 0, none⟩)) rfl (by kernel_rfl) (by kernel_rfl) (by kernel_rfl) (by kernel_rfl) (fun _ _ _ h => h) (by kernel_rfl) (fun w hw => by (try dsimp only at hw); obtain ⟨hw1, hw2, hw3, hw4⟩ := hw; go_simp) hH ?_
        simp only [List.setIfInBounds_toArray, List.set_cons_zero, List.set_cons_succ]
        refine takeH 2 57 (.pointer (some ⟨b, 3, none⟩)) rfl (by kernel_rfl) (by kernel_rfl) (by kernel_rfl) (by kernel_rfl) (fun _ _ _ h => h) (by kernel_rfl) (fun w hw => by (try dsimp only at hw); obtain ⟨hw1, hw2, hw3, hw4⟩ := hw; go_simp) hH ?_
        simp only [List.setIfInBounds_toArray, List.set_cons_zero, List.set_cons_succ]
        refine takeH 3 58 (.map (some m)) rfl (by kernel_rfl) (by kernel_rfl) (by kernel_rfl) (by kernel_rfl) (fun _ _ _ h => h) (by kernel_rfl) (fun w hw => by (try dsimp only at hw); obtain ⟨hw1, hw2, hw3, hw4⟩ := hw; go_simp) hH ?_
        simp only [List.setIfInBounds_toArray, List.set_cons_zero, List.set_cons_succ]
        refine takeH 4 59 (.pointer (some ⟨bx, 0, none⟩)) rfl (by kernel_rfl) (by kernel_rfl) (by kernel_rfl) (by kernel_rfl) (fun _ _ _ h => h) (by kernel_rfl) (fun w hw => by (try dsimp only at hw); obtain ⟨hw1, hw2, hw3, hw4⟩ := hw; go_simp) hH ?_
        simp only [List.setIfInBounds_toArray, List.set_cons_zero, List.set_cons_succ]
        refine takeH 5 60 (.int .i64 x) rfl (by kernel_rfl) (by kernel_rfl) (by kernel_rfl) (by kernel_rfl) (fun _ _ _ h => h) (by kernel_rfl) (fun w hw => by (try dsimp only at hw); obtain ⟨hw1, hw2, hw3, hw4⟩ := hw; go_simp) hH ?_
        simp only [List.setIfInBounds_toArray, List.set_cons_zero, List.set_cons_succ]
        refine takeH 6 61 (.tuple #[.slice none 0 0, .bool false]) rfl (by kernel_rfl) (by kernel_rfl) (by kernel_rfl) (by kernel_rfl) (fun _ _ _ h => h) (by kernel_rfl) (fun w hw => by (try dsimp only at hw); obtain ⟨hw1, hw2, hw3, hw4⟩ := hw; go_simp) hH ?_
        simp only [List.setIfInBounds_toArray, List.set_cons_zero, List.set_cons_succ]
        refine takeH 7 54 (.tuple #[.slice none 0 0, .bool false]) rfl (by kernel_rfl) (by kernel_rfl) (by kernel_rfl) (by kernel_rfl) (fun _ _ _ h => h) (by kernel_rfl) (fun w hw => by kernel_rfl) hH ?_
        simp only [List.setIfInBounds_toArray, List.set_cons_zero, List.set_cons_succ]
        refine takeH 8 62 (.slice none 0 0) rfl (by kernel_rfl) (by kernel_rfl) (by kernel_rfl) (by kernel_rfl) (fun _ _ _ h => h) (by kernel_rfl) (fun w hw => by (try dsimp only at hw); obtain ⟨hw1, hw2, hw3, hw4⟩ := hw; go_simp) hH ?_
        simp only [List.setIfInBounds_toArray, List.set_cons_zero, List.set_cons_succ]
        refine takeH 9 63 (.bool false) rfl (by kernel_rfl) (by kernel_rfl) (by kernel_rfl) (by kernel_rfl) (fun _ _ _ h => h) (by kernel_rfl) (fun w hw => by (try dsimp only at hw); obtain ⟨hw1, hw2, hw3, hw4⟩ := hw; go_simp) hH ?_
        simp only [List.setIfInBounds_toArray, List.set_cons_zero, List.set_cons_succ]
        refine takeH 10 9 (.slice none 0 0) rfl (by kernel_rfl) (by kernel_rfl) (by kernel_rfl) (by kernel_rfl) (fun _ _ _ h => h) (by kernel_rfl) (fun w hw => by kernel_rfl) hH ?_
        simp only [List.setIfInBounds_toArray, List.set_cons_zero, List.set_cons_succ]
        refine takeH 11 10 (.bool false) rfl (by kernel_rfl) (by kernel_rfl) (by kernel_rfl) (by kernel_rfl) (fun _ _ _ h => h) (by kernel_rfl) (fun w hw => by kernel_rfl) hH ?_
        simp only [List.setIfInBounds_toArray, List.set_cons_zero, List.set_cons_succ]
        refine wpAnyH_done (by kernel_rfl) ?_ _
        dsimp only [Norm]
        clear hH HS0
        gi_wp2_with fail
        first
          | exact HFIN.out
          | (rw [← HGL.out.2.2.2.1]; exact HFIN.out)
      · rw [g3] at hlk
        simp only [Option.getD_some, Option.isSome_some] at hlk
        have HS0 : Hid (W2.drew.cell? ⟨W1.heap.size, 0, none⟩ = some (.pointer (some ⟨b, 0, none⟩)) ∧ W2.drew.cell? ⟨b, 3, none⟩ = some (.map (some m)) ∧ W2.drew.cell? ⟨bx, 0, none⟩ = some (.int .i64 x) ∧ (Instr.lookup 64 (.map (some m)) (.int .i64 x) true).run Tryz.prog W2.drew = .ok (.tuple #[.slice (some ⟨q, 0, none⟩) 1024 1024, .bool true]) W2.drew) := Hid.mk ⟨y1, y2, y3, hlk⟩
        have hqr := HPT2.out.rows _ g4
        have hqb : BAt W2.drew.drew (some ⟨q, A, none⟩) (1024 - A) ((d.drop A).take (1024 - A)) := RAt.bat (W := W2.drew.drew) hqr.1 A (1024 - A) (by have hdl : d.length = 1024 := hqr.2; have := HA.out; omega)
        obtain ⟨W6, hcp, hr6, ho6⟩ := copyc_run W2.drew.drew g F (E - F) (L - F) (rdP off L p k) ((d.drop A).take (1024 - A)) ⟨q, A, none⟩ (1024 - A) (1024 - A) (show RAt W2.drew.drew g (rdP off L p k) from HI2.out.row) hqb (by have := HRL.out; have := HF.out; omega) HEF.out
        have ho2 : Only (fun j => j = g) W2 W6 := ⟨ho6.os, ho6.tape, ho6.output, ho6.size, ho6.block⟩
        have hgw : g < w4.heap.size := HGL.out.1
        have hbg : bx ≠ g := by have := HSZ.out; omega
        have HS2 : Hid (W2.drew.drew.cell? ⟨db, 0, none⟩ = some (.slice (some ⟨g, 0, none⟩) L L) ∧ W2.drew.drew.cell? ⟨bx, 1, none⟩ = some (.int .i64 (A : Int)) ∧ W2.drew.drew.cell? ⟨bx, 2, none⟩ = some (.int .i64 (F : Int)) ∧ W2.drew.drew.cell? ⟨bx, 3, none⟩ = some (.int .i64 (E : Int))) := Hid.mk ⟨by rw [blk_cell (w := W2.drew.drew) HE3.out]; rfl, by rw [blk_cell (w := W2.drew.drew) HBX.out]; rfl, by rw [blk_cell (w := W2.drew.drew) HBX.out]; rfl, by rw [blk_cell (w := W2.drew.drew) HBX.out]; rfl⟩
        have hx6 := (ho2.block bx (lt_of_block HBX.out) hbg).trans HBX.out
        have hd6 := (ho2.block db (lt_of_block (w := W2) HE3.out) (fun e => HGL.out.2.1 e.symm)).trans HE3.out
        have HS6 : Hid (W6.cell? ⟨db, 0, none⟩ = some (.slice (some ⟨g, 0, none⟩) L L) ∧ W6.cell? ⟨bx, 1, none⟩ = some (.int .i64 (A : Int)) ∧ W6.cell? ⟨bx, 2, none⟩ = some (.int .i64 (F : Int)) ∧ W6.cell? ⟨bx, 3, none⟩ = some (.int .i64 (E : Int))) := Hid.mk ⟨by rw [blk_cell hd6]; rfl, by rw [blk_cell hx6]; rfl, by rw [blk_cell hx6]; rfl, by rw [blk_cell hx6]; rfl⟩
        have HCP := Hid.mk hcp
        have HFIN : Hid (W6.heap[w4.heap.size]? = W2.heap[w4.heap.size]? ∧ W6.heap[w4.heap.size + 1]? = W2.heap[w4.heap.size + 1]? ∧ RdI w4 g off L p (k + 1) W6) := Hid.mk (by
          have hs := HSZ.out
          refine ⟨ho2.block _ (by omega) hnk.1, ho2.block _ (by omega) hnk.2, ⟨?_, HI2.out.only.trans ho2 (fun i hi => .inl hi)⟩⟩
          rw [HRD.out, g1]
          rw [List.take_take, Nat.min_eq_left HEF.out] at hr6
          exact hr6)
        clear y1 y2 y3 hlk g1 g2 g3 g4 hnk h3 hqr hqb hcp hr6 ho6 ho2 hgw hbg hx6 hd6
        gi_wp2_with fail
        refine round_region_held (S := fun W => W.cell? ⟨W1.heap.size, 0, none⟩ = some (.pointer (some ⟨b, 0, none⟩)) ∧ W.cell? ⟨b, 3, none⟩ = some (.map (some m)) ∧ W.cell? ⟨bx, 0, none⟩ = some (.int .i64 x) ∧ (Instr.lookup 64 (.map (some m)) (.int .i64 x) true).run Tryz.prog W = .ok (.tuple #[.slice (some ⟨q, 0, none⟩) 1024 1024, .bool true]) W) (by kernel_rfl) (by kernel_rfl) HS0.out (fun hH => ?_)
        change wpAnyH Tryz.prog Region.Mode.any _ _ _ 12 _ _ _
        refine takeH 0 55 (.pointer (some ⟨b, 0, none⟩)) rfl (by kernel_rfl) (by kernel_rfl) (by kernel_rfl) (by kernel_rfl) (fun _ _ _ h => h) (by kernel_rfl) (fun w hw => by (try dsimp only at hw); obtain ⟨hw1, hw2, hw3, hw4⟩ := hw; go_simp) hH ?_
        simp only [List.setIfInBounds_toArray, List.set_cons_zero, List.set_cons_succ]
        refine takeH 1 56 (.pointer (some ⟨b, 0, none⟩)) rfl (by kernel_rfl) (by kernel_rfl) (by kernel_rfl) (by kernel_rfl) (fun _ _ _ h => h) (by kernel_rfl) (fun w hw => by (try dsimp only at hw); obtain ⟨hw1, hw2, hw3, hw4⟩ := hw; go_simp) hH ?_
        simp only [List.setIfInBounds_toArray, List.set_cons_zero, List.set_cons_succ]
        refine takeH 2 57 (.pointer (some ⟨b, 3, none⟩)) rfl (by kernel_rfl) (by kernel_rfl) (by kernel_rfl) (by kernel_rfl) (fun _ _ _ h => h) (by kernel_rfl) (fun w hw => by (try dsimp only at hw); obtain ⟨hw1, hw2, hw3, hw4⟩ := hw; go_simp) hH ?_
        simp only [List.setIfInBounds_toArray, List.set_cons_zero, List.set_cons_succ]
        refine takeH 3 58 (.map (some m)) rfl (by kernel_rfl) (by kernel_rfl) (by kernel_rfl) (by kernel_rfl) (fun _ _ _ h => h) (by kernel_rfl) (fun w hw => by (try dsimp only at hw); obtain ⟨hw1, hw2, hw3, hw4⟩ := hw; go_simp) hH ?_
        simp only [List.setIfInBounds_toArray, List.set_cons_zero, List.set_cons_succ]
        refine takeH 4 59 (.pointer (some ⟨bx, 0, none⟩)) rfl (by kernel_rfl) (by kernel_rfl) (by kernel_rfl) (by kernel_rfl) (fun _ _ _ h => h) (by kernel_rfl) (fun w hw => by (try dsimp only at hw); obtain ⟨hw1, hw2, hw3, hw4⟩ := hw; go_simp) hH ?_
        simp only [List.setIfInBounds_toArray, List.set_cons_zero, List.set_cons_succ]
        refine takeH 5 60 (.int .i64 x) rfl (by kernel_rfl) (by kernel_rfl) (by kernel_rfl) (by kernel_rfl) (fun _ _ _ h => h) (by kernel_rfl) (fun w hw => by (try dsimp only at hw); obtain ⟨hw1, hw2, hw3, hw4⟩ := hw; go_simp) hH ?_
        simp only [List.setIfInBounds_toArray, List.set_cons_zero, List.set_cons_succ]
        refine takeH 6 61 (.tuple #[.slice (some ⟨q, 0, none⟩) 1024 1024, .bool true]) rfl (by kernel_rfl) (by kernel_rfl) (by kernel_rfl) (by kernel_rfl) (fun _ _ _ h => h) (by kernel_rfl) (fun w hw => by (try dsimp only at hw); obtain ⟨hw1, hw2, hw3, hw4⟩ := hw; go_simp) hH ?_
        simp only [List.setIfInBounds_toArray, List.set_cons_zero, List.set_cons_succ]
        refine takeH 7 54 (.tuple #[.slice (some ⟨q, 0, none⟩) 1024 1024, .bool true]) rfl (by kernel_rfl) (by kernel_rfl) (by kernel_rfl) (by kernel_rfl) (fun _ _ _ h => h) (by kernel_rfl) (fun w hw => by kernel_rfl) hH ?_
        simp only [List.setIfInBounds_toArray, List.set_cons_zero, List.set_cons_succ]
        refine takeH 8 62 (.slice (some ⟨q, 0, none⟩) 1024 1024) rfl (by kernel_rfl) (by kernel_rfl) (by kernel_rfl) (by kernel_rfl) (fun _ _ _ h => h) (by kernel_rfl) (fun w hw => by (try dsimp only at hw); obtain ⟨hw1, hw2, hw3, hw4⟩ := hw; go_simp) hH ?_
        simp only [List.setIfInBounds_toArray, List.set_cons_zero, List.set_cons_succ]
        refine takeH 9 63 (.bool true) rfl (by kernel_rfl) (by kernel_rfl) (by kernel_rfl) (by kernel_rfl) (fun _ _ _ h => h) (by kernel_rfl) (fun w hw => by (try dsimp only at hw); obtain ⟨hw1, hw2, hw3, hw4⟩ := hw; go_simp) hH ?_
        simp only [List.setIfInBounds_toArray, List.set_cons_zero, List.set_cons_succ]
        refine takeH 10 9 (.slice (some ⟨q, 0, none⟩) 1024 1024) rfl (by kernel_rfl) (by kernel_rfl) (by kernel_rfl) (by kernel_rfl) (fun _ _ _ h => h) (by kernel_rfl) (fun w hw => by kernel_rfl) hH ?_
        simp only [List.setIfInBounds_toArray, List.set_cons_zero, List.set_cons_succ]
        refine takeH 11 10 (.bool true) rfl (by kernel_rfl) (by kernel_rfl) (by kernel_rfl) (by kernel_rfl) (fun _ _ _ h => h) (by kernel_rfl) (fun w hw => by kernel_rfl) hH ?_
        simp only [List.setIfInBounds_toArray, List.set_cons_zero, List.set_cons_succ]
        refine wpAnyH_done (by kernel_rfl) ?_ _
        dsimp only [Norm]
        clear hH HS0
        gi_wp2_with fail
        refine round_region_held (S := fun W => W.cell? ⟨db, 0, none⟩ = some (.slice (some ⟨g, 0, none⟩) L L) ∧ W.cell? ⟨bx, 1, none⟩ = some (.int .i64 (A : Int)) ∧ W.cell? ⟨bx, 2, none⟩ = some (.int .i64 (F : Int)) ∧ W.cell? ⟨bx, 3, none⟩ = some (.int .i64 (E : Int))) (by kernel_rfl) (by kernel_rfl) HS2.out (fun hH => ?_)
        change wpAnyH Tryz.prog Region.Mode.any _ _ _ 11 _ _ _
        refine takeH 0 65 (.slice (some ⟨g, 0, none⟩) L L) rfl (by kernel_rfl) (by kernel_rfl) (by kernel_rfl) (by kernel_rfl) (fun _ _ _ h => h) (by kernel_rfl) (fun w hw => by (try dsimp only at hw); obtain ⟨hw1, hw2, hw3, hw4⟩ := hw; go_simp) hH ?_
        simp only [List.setIfInBounds_toArray, List.set_cons_zero, List.set_cons_succ]
        refine takeH 1 66 (.pointer (some ⟨bx, 2, none⟩)) rfl (by kernel_rfl) (by kernel_rfl) (by kernel_rfl) (by kernel_rfl) (fun _ _ _ h => h) (by kernel_rfl) (fun w hw => by (try dsimp only at hw); obtain ⟨hw1, hw2, hw3, hw4⟩ := hw; go_simp) hH ?_
        simp only [List.setIfInBounds_toArray, List.set_cons_zero, List.set_cons_succ]
        refine takeH 2 67 (.int .i64 (F : Int)) rfl (by kernel_rfl) (by kernel_rfl) (by kernel_rfl) (by kernel_rfl) (fun _ _ _ h => h) (by kernel_rfl) (fun w hw => by (try dsimp only at hw); obtain ⟨hw1, hw2, hw3, hw4⟩ := hw; go_simp) hH ?_
        simp only [List.setIfInBounds_toArray, List.set_cons_zero, List.set_cons_succ]
        refine takeH 3 68 (.pointer (some ⟨bx, 3, none⟩)) rfl (by kernel_rfl) (by kernel_rfl) (by kernel_rfl) (by kernel_rfl) (fun _ _ _ h => h) (by kernel_rfl) (fun w hw => by (try dsimp only at hw); obtain ⟨hw1, hw2, hw3, hw4⟩ := hw; go_simp) hH ?_
        simp only [List.setIfInBounds_toArray, List.set_cons_zero, List.set_cons_succ]
        refine takeH 4 69 (.int .i64 (E : Int)) rfl (by kernel_rfl) (by kernel_rfl) (by kernel_rfl) (by kernel_rfl) (fun _ _ _ h => h) (by kernel_rfl) (fun w hw => by (try dsimp only at hw); obtain ⟨hw1, hw2, hw3, hw4⟩ := hw; go_simp) hH ?_
        simp only [List.setIfInBounds_toArray, List.set_cons_zero, List.set_cons_succ]
        refine takeH 5 70 (.slice (some ⟨g, F, none⟩) (E - F) (L - F)) rfl (by kernel_rfl) (by kernel_rfl) (by kernel_rfl) (by kernel_rfl) (fun _ _ _ h => h) (by kernel_rfl) (fun w hw => by exact exec_sl3 (s := .tmp 65) (y := .tmp 67) (z := .tmp 69) g L F E HF.out rfl (by kernel_rfl) (by kernel_rfl) (by kernel_rfl)) hH ?_
        simp only [List.setIfInBounds_toArray, List.set_cons_zero, List.set_cons_succ]
        refine takeH 6 71 (.slice (some ⟨q, 0, none⟩) 1024 1024) rfl (by kernel_rfl) (by kernel_rfl) (by kernel_rfl) (by kernel_rfl) (fun _ _ _ h => h) (by kernel_rfl) (fun w hw => by kernel_rfl) hH ?_
        simp only [List.setIfInBounds_toArray, List.set_cons_zero, List.set_cons_succ]
        refine takeH 7 72 (.pointer (some ⟨bx, 1, none⟩)) rfl (by kernel_rfl) (by kernel_rfl) (by kernel_rfl) (by kernel_rfl) (fun _ _ _ h => h) (by kernel_rfl) (fun w hw => by (try dsimp only at hw); obtain ⟨hw1, hw2, hw3, hw4⟩ := hw; go_simp) hH ?_
        simp only [List.setIfInBounds_toArray, List.set_cons_zero, List.set_cons_succ]
        refine takeH 8 73 (.int .i64 (A : Int)) rfl (by kernel_rfl) (by kernel_rfl) (by kernel_rfl) (by kernel_rfl) (fun _ _ _ h => h) (by kernel_rfl) (fun w hw => by (try dsimp only at hw); obtain ⟨hw1, hw2, hw3, hw4⟩ := hw; go_simp) hH ?_
        simp only [List.setIfInBounds_toArray, List.set_cons_zero, List.set_cons_succ]
        refine takeH 9 74 (.slice (some ⟨q, A, none⟩) (1024 - A) (1024 - A)) rfl (by kernel_rfl) (by kernel_rfl) (by kernel_rfl) (by kernel_rfl) (fun _ _ _ h => h) (by kernel_rfl) (fun w hw => by exact exec_sl1 (s := .tmp 71) (y := .tmp 73) q A HA.out rfl (by kernel_rfl) (by kernel_rfl)) hH ?_
        simp only [List.setIfInBounds_toArray, List.set_cons_zero, List.set_cons_succ]
        refine stepH_one 10 (by kernel_rfl) ?_
        refine opH_run 10 75 (.int .i64 ((E - F : Nat) : Int)) W6 rfl (by kernel_rfl) (by kernel_rfl) (exec_cpy (d := .tmp 70) (x := .tmp 74) rfl (by kernel_rfl) (by kernel_rfl) HCP.out) HS6.out ?_
        simp only [List.setIfInBounds_toArray, List.set_cons_zero, List.set_cons_succ]
        refine wpAnyH_done (by kernel_rfl) ?_ _
        dsimp only [Norm]
        clear hH HS2 HS6 HCP
        gi_wp2_with fail
        exact HFIN.out
    case done =>
      rintro D W hD hI hKD
      subst hD
      have h4 := H4.out
      have h3 := HGL.out
      have hL4 := HL4.out
      have hrs2 := (HST.out (w.heap.size + 1) hL4.2.1 (by omega) _ W hI).trans h4.2.1
      have hdb2 := (HST.out db hL4.2.2.2.2.1 (fun e => h3.2.1 e.symm) _ W hI).trans h4.2.2.2.2.1
      have hd1 : W.cell? ⟨db, 0, none⟩ = some (.slice (some ⟨g, 0, none⟩) L L) := by rw [blk_cell hdb2]; rfl
      have g3 : W.heap[w.heap.size + 1]? = _ := hrs2
      have z0 := blk_cell g3 0
      have y0 := blk_free g3 0
      have z1 := blk_cell g3 1
      have y1 := blk_free g3 1
      have z2 := blk_cell g3 2
      have y2 := blk_free g3 2
      have z3 := blk_cell g3 3
      have y3 := blk_free g3 3
      have z4 := blk_cell g3 4
      have y4 := blk_free g3 4
      have z5 := blk_cell g3 5
      have y5 := blk_free g3 5
      have z6 := blk_cell g3 6
      have y6 := blk_free g3 6
      simp at z0 z1 z2 z3 z4 z5 z6
      have HI := Hid.mk hI
      have HKD := Hid.mk hKD
      have HR2 := Hid.mk hrs2
      have HG3 := Hid.mk g3
      clear hI hKD h4 hrs2 hdb2 hI0 hgl h3 hL4 g3
      have HU7 := Hid.mk (box7 HG3.out (.int .i64 0) (.slice (some ⟨g, 0, none⟩) L L) (.int .i64 0) (.int .i64 0) (.int .i64 0) (.slice none 0 0) (.int .i64 0))
      gi_wp2_with fail
      generalize hU : World.setCell (World.setCell (World.setCell (World.setCell (World.setCell (World.setCell (World.setCell W _ _) _ _) _ _) _ _) _ _) _ _) _ _ = U at *
      have hb7 := HU7.out
      clear hU
      have h3 := HGL.out
      have h4 := H4.out
      have hVs : w4.heap.size < W.heap.size := lt_of_block HKD.out
      have hkd : U.heap[w4.heap.size]? = some (.deferred (some [])) := (hb7.2.block _ hVs (fun e => by omega)).trans HKD.out
      have hres : (U.putObj w4.heap.size (.deferred none)).heap[w.heap.size + 1]? = _ := (World.putObj_heap_other (by omega)).trans hb7.1
      have k0 := blk_cell hres 0
      have k1 := blk_cell hres 1
      have k2 := blk_cell hres 2
      have k3 := blk_cell hres 3
      have k4 := blk_cell hres 4
      have k5 := blk_cell hres 5
      have k6 := blk_cell hres 6
      simp at k0 k1 k2 k3 k4 k5 k6
      refine ⟨by simp, .inl ⟨_, _, rfl, run_takeDeferred (by first | exact hkd | rw [← h3.2.2.2.1]; exact hkd), ?_⟩⟩
      try rw [← h3.2.2.2.1]
      have hB1 : Below w.heap.size w W := h4.2.2.2.2.2.2.2.2.trans (HI.out.only.below (Nat.le_of_lt HL4.out.1) (fun k hk => by rw [hk]; omega))
      have hB2 : Below w.heap.size w U := hB1.trans (hb7.2.below hB1.size (fun k hk => by omega))
      refine ⟨.agg #[.int .i64 0, .slice (some ⟨g, 0, none⟩) L L, .int .i64 0, .int .i64 0, .int .i64 0, .slice none 0 0, .int .i64 0], ?_, g, rfl, ⟨hB2.os, hB2.tape, hB2.output, ?_, fun k hk => ?_⟩, ?_, by omega⟩
      · simp [results, Tryz.f31, go_sem, k0, k1, k2, k3, k4, k5, k6]
      · exact Nat.le_trans hB2.size (by simp [World.putObj])
      · rw [World.putObj_heap_other (by have := HL4.out; omega)]
        exact hB2.block k hk
      · have e1 : U.heap[g]? = W.heap[g]? := hb7.2.block g (lt_of_block HI.out.row) (by omega)
        exact (World.putObj_heap_other (by omega)).trans (e1.trans HI.out.row)
    case stop =>
      rintro D W hD hX hKD
      exact hX.elim
  · obtain ⟨db, hdb⟩ : ∃ db, db = V.drew.heap.size := ⟨_, rfl⟩
    obtain ⟨Y, hY⟩ : ∃ Y, Y = V.drew.alloc (.cells #[.slice none 0 0] 29) := ⟨_, rfl⟩
    have hYs : Y.heap.size = db + 1 := by rw [hY, hdb]; simp
    have hYk : ∀ q, q < V.heap.size → Y.heap[q]? = V.heap[q]? := fun q hq => by rw [hY]; exact Below.heap_alloc _ _ _ hq
    have hYd : Y.heap[db]? = some (.cells #[.slice none 0 0] 29 (0, 0)) := by rw [hY, hdb]; exact blk_new _ _
    refine opH_run 12 7 (.pointer (some ⟨db, 0, none⟩)) Y rfl (by kernel_rfl) (by kernel_rfl) (by rw [hdb, hY]; exact exec_allocD (by kernel_rfl)) (HKP.out Y hYk) ?_
    simp only [List.setIfInBounds_toArray, List.set_cons_zero, List.set_cons_succ]
    have e := HMK.out Y
    obtain ⟨g, hg⟩ : ∃ g, g = Y.heap.size := ⟨_, rfl⟩
    obtain ⟨Z, hZ⟩ : ∃ Z, Z = Y.alloc (.cells (By (zeros L)).toArray 5) := ⟨_, rfl⟩
    rw [← hg, ← hZ] at e
    have hZk : ∀ q, q < V.heap.size → Z.heap[q]? = V.heap[q]? := fun q hq => by rw [hZ, Below.heap_alloc _ _ _ (by have : V.drew.heap.size = V.heap.size := rfl; omega)]; exact hYk q hq
    have hZd : Z.heap[db]? = some (.cells #[.slice none 0 0] 29 (0, 0)) := by rw [hZ, Below.heap_alloc _ _ _ (by omega)]; exact hYd
    have hZg : Z.heap[g]? = some (.cells (By (zeros L)).toArray 5 (0, 0)) := by rw [hZ, hg]; exact blk_new _ _
    have hgd : g ≠ db ∧ V.heap.size ≤ g ∧ V.heap.size ≤ db ∧ g < Z.heap.size ∧ db < Z.heap.size := by
      have e1 : V.drew.heap.size = V.heap.size := rfl
      exact ⟨by omega, by omega, by omega, lt_of_block hZg, lt_of_block hZd⟩
    refine stepH_run 11 47 (.slice (some ⟨g, 0, none⟩) L L) Z rfl (by kernel_rfl) (by kernel_rfl) (by kernel_rfl) (exec_mk rfl (by kernel_rfl) (by kernel_rfl) e) (HKP.out Z hZk) ?_
    simp only [List.setIfInBounds_toArray, List.set_cons_zero, List.set_cons_succ]
    have HZO : Hid (Below w.heap.size w Z) := Hid.mk (by rw [hZ, hY]; exact (HBV.out.drew.alloc HBV.out.size _).alloc (by simp; have := HBV.out.size; exact Nat.le_succ_of_le this) _)
    clear hY hYs hYk hYd e hZ hg hdb
    have d0 := blk_cell hZd 0
    have d1 := blk_free hZd 0
    simp at d0
    obtain ⟨V5, hV5⟩ : ∃ V5, V5 = Z.setCell ⟨db, 0, none⟩ (.slice (some ⟨g, 0, none⟩) L L) := ⟨_, rfl⟩
    have hUk : ∀ q, q < V.heap.size → V5.heap[q]? = V.heap[q]? := fun q hq => by rw [hV5]; exact (Below.heap_setCell _ _ _ _ (by show q ≠ db; omega)).trans (hZk q hq)
    have hUg : V5.heap[g]? = some (.cells (By (zeros L)).toArray 5 (0, 0)) := by rw [hV5]; exact (Below.heap_setCell _ _ _ _ hgd.1).trans hZg
    have hUd : V5.heap[db]? = some (.cells #[.slice (some ⟨g, 0, none⟩) L L] 29 (0, 0)) := by rw [hV5, blk_set hZd]; rfl
    have hUs : V5.heap.size = Z.heap.size := by rw [hV5]; simp [World.setCell]
    have hUB : Below w.heap.size w V5 := by rw [hV5]; exact HZO.out.setCell (p := ⟨db, 0, none⟩) (by have := HBV.out.size; show w.heap.size ≤ db; omega) _
    refine stepH_one 13 (by kernel_rfl) ?_
    refine opH_store 13 V5 rfl (by kernel_rfl) (by kernel_rfl) (by rw [hV5]; go_simp) (HKP.out V5 hUk) ?_
    refine wpAnyH_done (by kernel_rfl) ?_ _
    dsimp only [Norm]
    have i3 := blk_cell ((hUk _ (lt_of_block HCL.out)).trans HCL.out) 3
    have i7 := blk_cell hUd 0
    simp at i3 i7
    have HUK := Hid.mk hUk
    have HUG := Hid.mk hUg
    have HUD := Hid.mk hUd
    have HUB := Hid.mk hUB
    have HGD : Hid (g ≠ db ∧ V.heap.size ≤ g ∧ V.heap.size ≤ db ∧ g < V5.heap.size ∧ db < V5.heap.size) := Hid.mk (by rw [hUs]; exact hgd)
    clear hH HS6 hV5 hUk hUg hUd hUs hUB hZk hZg hZd hgd d0 d1 HZO HMK
    gi_wp2_with (refine ⟨trivial, ?_⟩; gi_at_call 54; refine (callsIn_wide.2 (pieces_any _ off L)).mono ?_; rintro e w4 ⟨rfl, hw4⟩; have HW4 := Hid.mk hw4; clear hw4)
    have hs4 : w4.heap.size = V5.heap.size + 2 := by rw [HW4.out]; simp
    have hbl4 : ∀ q, q < V5.heap.size → w4.heap[q]? = V5.heap[q]? := fun q hq => by rw [HW4.out, Below.heap_alloc _ _ _ (by simp; omega), Below.heap_alloc _ _ _ hq]
    have hp2 : w4.heap[V5.heap.size]? = some (.cells #[.int .i64 off] 3 (0, 0)) := by rw [HW4.out, Below.heap_alloc _ _ _ (by simp)]; exact blk_new V5 _
    have hp3 : w4.heap[V5.heap.size + 1]? = some (.cells #[.int .i64 L] 3 (0, 0)) := by
      rw [HW4.out]
      have := blk_new (V5.alloc (.cells #[.int .i64 off] 3)) (.cells #[.int .i64 L] 3)
      rwa [World.size_alloc] at this
    have hB4 : Below w.heap.size w w4 := by rw [HW4.out]; exact (HUB.out.alloc HUB.out.size _).alloc (by simp; have := HUB.out.size; exact Nat.le_succ_of_le this) _
    have hvl : V.heap.size ≤ V5.heap.size := by have := HGD.out; omega
    have hK4 : ∀ q, q < V.heap.size → w4.heap[q]? = V.heap[q]? := fun q hq => (hbl4 q (by omega)).trans (HUK.out q hq)
    have hcl4 := (hK4 _ (lt_of_block HCL.out)).trans HCL.out
    have hrs4 := (hK4 _ (lt_of_block HRS.out)).trans HRS.out
    have hnb4 := (hK4 _ (lt_of_block HNB.out)).trans HNB.out
    have hnd4 := (hK4 _ (lt_of_block HNV.out)).trans HNV.out
    have hdb4 := (hbl4 _ HGD.out.2.2.2.2).trans HUD.out
    have hpt4 : PtAt w4 m r p := HPT.out.kept (fun q hq => hB4.block q (HFL.out q (by simp at hq ⊢; exact .inr hq)))
    have hg4 : RAt w4 g (rdP off L p 0) := (hbl4 _ HGD.out.2.2.2.1).trans HUG.out
    have hI0 : RdI w4 g off L p 0 w4 := ⟨hg4, Only.refl _ _⟩
    have hgl : g < w4.heap.size := lt_of_block hg4
    have HGL : Hid (g < w4.heap.size ∧ g ≠ db ∧ V.heap.size ≤ g ∧ w4.heap.size = V5.heap.size + 2 ∧ w.heap.size + 2 ≤ W1.heap.size ∧ W1.heap.size < V.heap.size ∧ g < V5.heap.size ∧ w.heap.size + 1 < V.heap.size) := Hid.mk ⟨hgl, HGD.out.1, HGD.out.2.1, hs4, HW1.out, by have := HVS.out; omega, HGD.out.2.2.2.1, by have := HVS.out; have := HW1.out; omega⟩
    have HFV : Hid (∀ q ∈ b :: m :: r, q < V.heap.size) := Hid.mk (fun q hq => by have := HFL.out q hq; have := HBV.out.size; omega)
    have HST : Hid (∀ q, q < w4.heap.size → q ≠ g → ∀ k W, RdI w4 g off L p k W → W.heap[q]? = w4.heap[q]?) := Hid.mk (fun q hq hne k W hI => hI.only.block q hq hne)
    have H4 := Hid.mk (And.intro hcl4 (And.intro hrs4 (And.intro hnb4 (And.intro hnd4 (And.intro hdb4 (And.intro hpt4 (And.intro hp2 (And.intro hp3 hB4))))))))
    have HL4 : Hid (w.heap.size < w4.heap.size ∧ w.heap.size + 1 < w4.heap.size ∧ W1.heap.size < w4.heap.size ∧ b < w4.heap.size ∧ db < w4.heap.size ∧ b < V.heap.size) := Hid.mk ⟨lt_of_block hcl4, lt_of_block hrs4, lt_of_block hnb4, lt_of_block hnd4, lt_of_block hdb4, HFV.out b (by simp)⟩
    clear hs4 hbl4 hp2 hp3 hB4 hvl hK4 hcl4 hrs4 hnb4 hnd4 hdb4 hpt4 hg4 i3 i7 HW4 HUK HUG HUD HUB HGD HCL HRS HNB HNV HPV HBV HKP
    refine wpIn_range_kx (gf := 66) (lb := #[.pointer (some ⟨V5.heap.size + 1, 0, none⟩), .pointer (some ⟨V5.heap.size, 0, none⟩)]) rfl (enters_of Tryz.func66 (by kernel_rfl) rfl) (pzN off L) (fun k => #[pzV off L k]) (fun _ => rfl)
      (RdI w4 g off L p) (fun _ => False) (fun k A B row h hg hr => RdI_own hgl k A B row h hg hr) (fun _ _ _ h _ _ => h.elim) hI0 ?hit
      (fun k W => { tmps := #[.pointer (some ⟨t, 0, none⟩), .agg #[.int .i64 kk, .string s, .string s2, .int .i64 off, .int .i64 N, .slice dp dl dc], undef, .pointer (some ⟨w.heap.size, 0, none⟩), .pointer (some ⟨w.heap.size + 1, 0, none⟩), .pointer (some ⟨W1.heap.size, 0, none⟩), .int .i64 0, .pointer (some ⟨db, 0, none⟩), .pointer (some ⟨W.heap.size, 0, none⟩), undef, undef, .pointer (some ⟨w.heap.size, 3, none⟩), .int .i64 off, .bool false, .bool false, .pointer (some ⟨w.heap.size, 4, none⟩), .int .i64 N, .bool false, .bool false, .bool false, .pointer (some ⟨w.heap.size, 4, none⟩), .int .i64 N, .bool false, .bool false, undef, .tuple #[.pointer (some ⟨b, 0, none⟩), .int .i64 0], .pointer (some ⟨t, 0, none⟩), .pointer (some ⟨w.heap.size, 1, none⟩), .string s, .tuple #[.pointer (some ⟨b, 0, none⟩), .int .i64 0], .pointer (some ⟨b, 0, none⟩), .int .i64 0, .int .i64 0, .bool false, undef, undef, .pointer (some ⟨w.heap.size, 4, none⟩), .int .i64 N, .pointer (some ⟨b, 0, none⟩), .pointer (some ⟨b, 0, none⟩), .pointer (some ⟨b, 2, none⟩), .int .i64 z, .pointer (some ⟨w.heap.size, 3, none⟩), .int .i64 off, .int .i64 (z - off), .int .i64 (min N (z - off)), .int .i64 (max 0 (min N (z - off))), .slice (some ⟨g, 0, none⟩) L L, .pointer (some ⟨w.heap.size, 3, none⟩), .int .i64 off, .slice (some ⟨g, 0, none⟩) L L, .int .i64 (L : Int), .func (.func 66) #[] #[.pointer (some ⟨V5.heap.size + 1, 0, none⟩), .pointer (some ⟨V5.heap.size, 0, none⟩)], pzV off L k, undef, undef, undef, undef, undef, undef, undef, undef, undef, undef, undef, undef, undef, undef, undef, undef, undef, undef, undef, undef, undef, undef, undef, undef], defers := [] })
      (fun k W => W.alloc (pzO off L k)) (fun k W => alloc_grown W _) ?assign ?body ?done ?stop
    case hit =>
      intro l' J Jx W hJI hg hY h0'
      have hn := HNUM.out
      have h2 := H4.out
      have h3 := HGL.out
      exact pieces1_in 4 (by omega) l' V5.heap.size off L h0 (by omega) (by omega) (by omega) J Jx W (fun k A hJ => ⟨by rw [blk_cell ((HST.out V5.heap.size (by omega) (by omega) k A (hJI k A hJ)).trans h2.2.2.2.2.2.2.1)]; rfl, by rw [blk_cell ((HST.out (V5.heap.size + 1) (by omega) (by omega) k A (hJI k A hJ)).trans h2.2.2.2.2.2.2.2.1)]; rfl⟩) hY h0'
    case assign =>
      intro l' k W K hK
      unfold pzO at hK
      unfold pzV at hK ⊢
      generalize pzB off k = x1 at *
      generalize pzA off k = x2 at *
      generalize pzF off L k = x3 at *
      generalize pzF off L (k + 1) = x4 at *
      gi_wp2
      exact hK
    case body =>
      intro lp k W W2 hI hk hsz hg2 hs2
      have hn := HNUM.out
      have h4 := H4.out
      have h3 := HGL.out
      obtain ⟨p0, p1, p2, p3, p4, p5, p6, p7, p8, p9⟩ := pz_in h0 (show (0 : Int) ≤ (L : Int) by omega) hk
      have hIa := RdI_own hgl k W (W.alloc (pzO off L k)) none hI (alloc_grown W _) (by simp)
      have hI2 := RdI_own hgl k _ W2 _ hIa hg2 (fun q e => (Option.some.inj e).symm)
      have hbx : W2.heap[W.heap.size]? = some (pzO off L k) := (hg2.block W.heap.size (by simp) (fun e => by have := Option.some.inj e; omega)).trans (blk_new W _)
      have hsz2 : W2.heap.size = W.heap.size + 1 := by rw [hs2]; simp
      obtain ⟨x, hx⟩ : ∃ x, x = pzB off k := ⟨_, rfl⟩
      obtain ⟨A, hA⟩ : ∃ A : Nat, A = (pzA off k).toNat := ⟨_, rfl⟩
      obtain ⟨F, hF⟩ : ∃ F : Nat, F = (pzF off L k).toNat := ⟨_, rfl⟩
      obtain ⟨E, hE⟩ : ∃ E : Nat, E = (pzF off L (k + 1)).toNat := ⟨_, rfl⟩
      have hxb : 0 ≤ x ∧ x < 70000 := by rw [hx, ← p3]; omega
      have HA : Hid (A < 1024) := Hid.mk (by omega)
      have HF : Hid (F < E ∧ E ≤ L ∧ L ≤ 8192) := Hid.mk (by omega)
      have hef : E - F ≤ 1024 - A := by omega
      have hrl : (rdP off L p k).length = L := rd_len h0 (by omega)
      have hbx' : W2.heap[W.heap.size]? = some (.cells #[.int .i64 x, .int .i64 (A : Int), .int .i64 (F : Int), .int .i64 (E : Int)] 89 (0, 0)) := by
        rw [hbx]
        unfold pzO
        rw [← hx, show pzA off k = (A : Int) by omega, show pzF off L k = (F : Int) by omega, show pzF off L (k + 1) = (E : Int) by omega]
      have hrd : rdP off L p (k + 1) = match getP p x with
        | none => rdP off L p k
        | some d => splice (rdP off L p k) F ((d.drop A).take (E - F)) := by
        rw [rdP, ← hx, ← hA, ← hF, show (pzF off L (k + 1) - pzF off L k).toNat = E - F by omega]
      have hB2 : ∀ q, q < w4.heap.size → q ≠ g → W2.drew.heap[q]? = w4.heap[q]? := fun q hq hne => HST.out q hq hne k W2 hI2
      have hL4 := HL4.out
      have e1 := (hB2 W1.heap.size hL4.2.2.1 (by omega)).trans h4.2.2.1
      have e2 := (hB2 b hL4.2.2.2.1 (by omega)).trans h4.2.2.2.1
      have e3 := (hB2 db hL4.2.2.2.2.1 (fun e => h3.2.1 e.symm)).trans h4.2.2.2.2.1
      have hpt2 : PtAt W2.drew m r p := h4.2.2.2.2.2.1.kept (fun q hq => hB2 q (by have := HFV.out q (by simp at hq ⊢; exact .inr hq); omega) (by have := HFV.out q (by simp at hq ⊢; exact .inr hq); omega))
      have y1 : W2.drew.cell? ⟨W1.heap.size, 0, none⟩ = some (.pointer (some ⟨b, 0, none⟩)) := by rw [blk_cell e1]; rfl
      have y2 : W2.drew.cell? ⟨b, 3, none⟩ = some (.map (some m)) := by rw [blk_cell e2]; rfl
      have y3 : W2.drew.cell? ⟨W.heap.size, 0, none⟩ = some (.int .i64 x) := by rw [blk_cell (w := W2.drew) hbx']; rfl
      have HBX := Hid.mk hbx'
      have HRD := Hid.mk hrd
      have HI2 := Hid.mk hI2
      have HE3 := Hid.mk e3
      have HPT2 := Hid.mk hpt2
      have HEF := Hid.mk hef
      have HRL := Hid.mk hrl
      have HSZ : Hid (w4.heap.size + 2 ≤ W.heap.size ∧ W2.heap.size = W.heap.size + 1) := Hid.mk ⟨hsz, hsz2⟩
      have hlk := hpt2.blocks.look2 keyed3 Tryz.underlying64 (zero_bytes W2.drew) (Maps.keyOf_int_mk Tryz.underlying3 (okI_of (a := x) (by omega) (by omega)))
      have hnk : w4.heap.size ≠ g ∧ w4.heap.size + 1 ≠ g := by omega
      unfold pzV
      rw [← hx, show pzA off k = (A : Int) by omega, show pzF off L k = (F : Int) by omega, show pzF off L (k + 1) = (E : Int) by omega]
      clear hIa hI2 hbx hbx' hsz2 hrd hrl hef hB2 e1 e2 e3 hpt2 hg2 hs2 hI hsz hk p0 p1 p2 p3 p4 p5 p6 p7 p8 p9 hx hA hF hE hxb h4 hn hL4 hI0 hgl
      generalize W.heap.size = bx at *
      rcases HPT2.out.get x with ⟨g1, g2, g3⟩ | ⟨d, q, g1, g2, g3, g4⟩
      · rw [g3] at hlk
        simp only [Option.getD_none, Option.isSome_none] at hlk
        have HS0 : Hid (W2.drew.cell? ⟨W1.heap.size, 0, none⟩ = some (.pointer (some ⟨b, 0, none⟩)) ∧ W2.drew.cell? ⟨b, 3, none⟩ = some (.map (some m)) ∧ W2.drew.cell? ⟨bx, 0, none⟩ = some (.int .i64 x) ∧ (Instr.lookup 64 (.map (some m)) (.int .i64 x) true).run Tryz.prog W2.drew = .ok (.tuple #[.slice none 0 0, .bool false]) W2.drew) := Hid.mk ⟨y1, y2, y3, hlk⟩
        have HFIN : Hid (W2.drew.heap[w4.heap.size]? = W2.heap[w4.heap.size]? ∧ W2.drew.heap[w4.heap.size + 1]? = W2.heap[w4.heap.size + 1]? ∧ RdI w4 g off L p (k + 1) W2.drew) := Hid.mk ⟨rfl, rfl, ⟨by rw [HRD.out, g1]; exact HI2.out.row, ⟨HI2.out.only.os, HI2.out.only.tape, HI2.out.only.output, HI2.out.only.size, HI2.out.only.block⟩⟩⟩
        clear y1 y2 y3 hlk g1 g2 g3 hnk h3
        gi_wp2_with fail
        refine round_region_held (S := fun W => W.cell? ⟨W1.heap.size, 0, none⟩ = some (.pointer (some ⟨b, 0, none⟩)) ∧ W.cell? ⟨b, 3, none⟩ = some (.map (some m)) ∧ W.cell? ⟨bx, 0, none⟩ = some (.int .i64 x) ∧ (Instr.lookup 64 (.map (some m)) (.int .i64 x) true).run Tryz.prog W = .ok (.tuple #[.slice none 0 0, .bool false]) W) (by kernel_rfl) (by kernel_rfl) HS0.out (fun hH => ?_)
        change wpAnyH Tryz.prog Region.Mode.any _ _ _ 12 _ _ _
        refine takeH 0 55 (.pointer (some ⟨b, 0, none⟩)) rfl (by kernel_rfl) (by kernel_rfl) (by kernel_rfl) (by kernel_rfl) (fun _ _ _ h => h) (by kernel_rfl) (fun w hw => by (try dsimp only at hw); obtain ⟨hw1, hw2, hw3, hw4⟩ := hw; go_simp) hH ?_
        simp only [List.setIfInBounds_toArray, List.set_cons_zero, List.set_cons_succ]
        refine takeH 1 56 (.pointer (some ⟨b, 0, none⟩)) rfl (by kernel_rfl) (by kernel_rfl) (by kernel_rfl) (by kernel_rfl) (fun _ _ _ h => h) (by kernel_rfl) (fun w hw => by (try dsimp only at hw); obtain ⟨hw1, hw2, hw3, hw4⟩ := hw; go_simp) hH ?_
        simp only [List.setIfInBounds_toArray, List.set_cons_zero, List.set_cons_succ]
        refine takeH 2 57 (.pointer (some ⟨b, 3, none⟩)) rfl (by kernel_rfl) (by kernel_rfl) (by kernel_rfl) (by kernel_rfl) (fun _ _ _ h => h) (by kernel_rfl) (fun w hw => by (try dsimp only at hw); obtain ⟨hw1, hw2, hw3, hw4⟩ := hw; go_simp) hH ?_
        simp only [List.setIfInBounds_toArray, List.set_cons_zero, List.set_cons_succ]
        refine takeH 3 58 (.map (some m)) rfl (by kernel_rfl) (by kernel_rfl) (by kernel_rfl) (by kernel_rfl) (fun _ _ _ h => h) (by kernel_rfl) (fun w hw => by (try dsimp only at hw); obtain ⟨hw1, hw2, hw3, hw4⟩ := hw; go_simp) hH ?_
        simp only [List.setIfInBounds_toArray, List.set_cons_zero, List.set_cons_succ]
        refine takeH 4 59 (.pointer (some ⟨bx, 0, none⟩)) rfl (by kernel_rfl) (by kernel_rfl) (by kernel_rfl) (by kernel_rfl) (fun _ _ _ h => h) (by kernel_rfl) (fun w hw => by (try dsimp only at hw); obtain ⟨hw1, hw2, hw3, hw4⟩ := hw; go_simp) hH ?_
        simp only [List.setIfInBounds_toArray, List.set_cons_zero, List.set_cons_succ]
        refine takeH 5 60 (.int .i64 x) rfl (by kernel_rfl) (by kernel_rfl) (by kernel_rfl) (by kernel_rfl) (fun _ _ _ h => h) (by kernel_rfl) (fun w hw => by (try dsimp only at hw); obtain ⟨hw1, hw2, hw3, hw4⟩ := hw; go_simp) hH ?_
        simp only [List.setIfInBounds_toArray, List.set_cons_zero, List.set_cons_succ]
        refine takeH 6 61 (.tuple #[.slice none 0 0, .bool false]) rfl (by kernel_rfl) (by kernel_rfl) (by kernel_rfl) (by kernel_rfl) (fun _ _ _ h => h) (by kernel_rfl) (fun w hw => by (try dsimp only at hw); obtain ⟨hw1, hw2, hw3, hw4⟩ := hw; go_simp) hH ?_
        simp only [List.setIfInBounds_toArray, List.set_cons_zero, List.set_cons_succ]
        refine takeH 7 54 (.tuple #[.slice none 0 0, .bool false]) rfl (by kernel_rfl) (by kernel_rfl) (by kernel_rfl) (by kernel_rfl) (fun _ _ _ h => h) (by kernel_rfl) (fun w hw => by kernel_rfl) hH ?_
        simp only [List.setIfInBounds_toArray, List.set_cons_zero, List.set_cons_succ]
        refine takeH 8 62 (.slice none 0 0) rfl (by kernel_rfl) (by kernel_rfl) (by kernel_rfl) (by kernel_rfl) (fun _ _ _ h => h) (by kernel_rfl) (fun w hw => by (try dsimp only at hw); obtain ⟨hw1, hw2, hw3, hw4⟩ := hw; go_simp) hH ?_
        simp only [List.setIfInBounds_toArray, List.set_cons_zero, List.set_cons_succ]
        refine takeH 9 63 (.bool false) rfl (by kernel_rfl) (by kernel_rfl) (by kernel_rfl) (by kernel_rfl) (fun _ _ _ h => h) (by kernel_rfl) (fun w hw => by (try dsimp only at hw); obtain ⟨hw1, hw2, hw3, hw4⟩ := hw; go_simp) hH ?_
        simp only [List.setIfInBounds_toArray, List.set_cons_zero, List.set_cons_succ]
        refine takeH 10 9 (.slice none 0 0) rfl (by kernel_rfl) (by kernel_rfl) (by kernel_rfl) (by kernel_rfl) (fun _ _ _ h => h) (by kernel_rfl) (fun w hw => by kernel_rfl) hH ?_
        simp only [List.setIfInBounds_toArray, List.set_cons_zero, List.set_cons_succ]
        refine takeH 11 10 (.bool false) rfl (by kernel_rfl) (by kernel_rfl) (by kernel_rfl) (by kernel_rfl) (fun _ _ _ h => h) (by kernel_rfl) (fun w hw => by kernel_rfl) hH ?_
        simp only [List.setIfInBounds_toArray, List.set_cons_zero, List.set_cons_succ]
        refine wpAnyH_done (by kernel_rfl) ?_ _
        dsimp only [Norm]
        clear hH HS0
        gi_wp2_with fail
        first
          | exact HFIN.out
          | (rw [← HGL.out.2.2.2.1]; exact HFIN.out)
      · rw [g3] at hlk
        simp only [Option.getD_some, Option.isSome_some] at hlk
        have HS0 : Hid (W2.drew.cell? ⟨W1.heap.size, 0, none⟩ = some (.pointer (some ⟨b, 0, none⟩)) ∧ W2.drew.cell? ⟨b, 3, none⟩ = some (.map (some m)) ∧ W2.drew.cell? ⟨bx, 0, none⟩ = some (.int .i64 x) ∧ (Instr.lookup 64 (.map (some m)) (.int .i64 x) true).run Tryz.prog W2.drew = .ok (.tuple #[.slice (some ⟨q, 0, none⟩) 1024 1024, .bool true]) W2.drew) := Hid.mk ⟨y1, y2, y3, hlk⟩
        have hqr := HPT2.out.rows _ g4
        have hqb : BAt W2.drew.drew (some ⟨q, A, none⟩) (1024 - A) ((d.drop A).take (1024 - A)) := RAt.bat (W := W2.drew.drew) hqr.1 A (1024 - A) (by have hdl : d.length = 1024 := hqr.2; have := HA.out; omega)
        obtain ⟨W6, hcp, hr6, ho6⟩ := copyc_run W2.drew.drew g F (E - F) (L - F) (rdP off L p k) ((d.drop A).take (1024 - A)) ⟨q, A, none⟩ (1024 - A) (1024 - A) (show RAt W2.drew.drew g (rdP off L p k) from HI2.out.row) hqb (by have := HRL.out; have := HF.out; omega) HEF.out
        have ho2 : Only (fun j => j = g) W2 W6 := ⟨ho6.os, ho6.tape, ho6.output, ho6.size, ho6.block⟩
        have hgw : g < w4.heap.size := HGL.out.1
        have hbg : bx ≠ g := by have := HSZ.out; omega
        have HS2 : Hid (W2.drew.drew.cell? ⟨db, 0, none⟩ = some (.slice (some ⟨g, 0, none⟩) L L) ∧ W2.drew.drew.cell? ⟨bx, 1, none⟩ = some (.int .i64 (A : Int)) ∧ W2.drew.drew.cell? ⟨bx, 2, none⟩ = some (.int .i64 (F : Int)) ∧ W2.drew.drew.cell? ⟨bx, 3, none⟩ = some (.int .i64 (E : Int))) := Hid.mk ⟨by rw [blk_cell (w := W2.drew.drew) HE3.out]; rfl, by rw [blk_cell (w := W2.drew.drew) HBX.out]; rfl, by rw [blk_cell (w := W2.drew.drew) HBX.out]; rfl, by rw [blk_cell (w := W2.drew.drew) HBX.out]; rfl⟩
        have hx6 := (ho2.block bx (lt_of_block HBX.out) hbg).trans HBX.out
        have hd6 := (ho2.block db (lt_of_block (w := W2) HE3.out) (fun e => HGL.out.2.1 e.symm)).trans HE3.out
        have HS6 : Hid (W6.cell? ⟨db, 0, none⟩ = some (.slice (some ⟨g, 0, none⟩) L L) ∧ W6.cell? ⟨bx, 1, none⟩ = some (.int .i64 (A : Int)) ∧ W6.cell? ⟨bx, 2, none⟩ = some (.int .i64 (F : Int)) ∧ W6.cell? ⟨bx, 3, none⟩ = some (.int .i64 (E : Int))) := Hid.mk ⟨by rw [blk_cell hd6]; rfl, by rw [blk_cell hx6]; rfl, by rw [blk_cell hx6]; rfl, by rw [blk_cell hx6]; rfl⟩
        have HCP := Hid.mk hcp
        have HFIN : Hid (W6.heap[w4.heap.size]? = W2.heap[w4.heap.size]? ∧ W6.heap[w4.heap.size + 1]? = W2.heap[w4.heap.size + 1]? ∧ RdI w4 g off L p (k + 1) W6) := Hid.mk (by
          have hs := HSZ.out
          refine ⟨ho2.block _ (by omega) hnk.1, ho2.block _ (by omega) hnk.2, ⟨?_, HI2.out.only.trans ho2 (fun i hi => .inl hi)⟩⟩
          rw [HRD.out, g1]
          rw [List.take_take, Nat.min_eq_left HEF.out] at hr6
          exact hr6)
        clear y1 y2 y3 hlk g1 g2 g3 g4 hnk h3 hqr hqb hcp hr6 ho6 ho2 hgw hbg hx6 hd6
        gi_wp2_with fail
        refine round_region_held (S := fun W => W.cell? ⟨W1.heap.size, 0, none⟩ = some (.pointer (some ⟨b, 0, none⟩)) ∧ W.cell? ⟨b, 3, none⟩ = some (.map (some m)) ∧ W.cell? ⟨bx, 0, none⟩ = some (.int .i64 x) ∧ (Instr.lookup 64 (.map (some m)) (.int .i64 x) true).run Tryz.prog W = .ok (.tuple #[.slice (some ⟨q, 0, none⟩) 1024 1024, .bool true]) W) (by kernel_rfl) (by kernel_rfl) HS0.out (fun hH => ?_)
        change wpAnyH Tryz.prog Region.Mode.any _ _ _ 12 _ _ _
        refine takeH 0 55 (.pointer (some ⟨b, 0, none⟩)) rfl (by kernel_rfl) (by kernel_rfl) (by kernel_rfl) (by kernel_rfl) (fun _ _ _ h => h) (by kernel_rfl) (fun w hw => by (try dsimp only at hw); obtain ⟨hw1, hw2, hw3, hw4⟩ := hw; go_simp) hH ?_
        simp only [List.setIfInBounds_toArray, List.set_cons_zero, List.set_cons_succ]
        refine takeH 1 56 (.pointer (some ⟨b, 0, none⟩)) rfl (by kernel_rfl) (by kernel_rfl) (by kernel_rfl) (by kernel_rfl) (fun _ _ _ h => h) (by kernel_rfl) (fun w hw => by (try dsimp only at hw); obtain ⟨hw1, hw2, hw3, hw4⟩ := hw; go_simp) hH ?_
        simp only [List.setIfInBounds_toArray, List.set_cons_zero, List.set_cons_succ]
        refine takeH 2 57 (.pointer (some ⟨b, 3, none⟩)) rfl (by kernel_rfl) (by kernel_rfl) (by kernel_rfl) (by kernel_rfl) (fun _ _ _ h => h) (by kernel_rfl) (fun w hw => by (try dsimp only at hw); obtain ⟨hw1, hw2, hw3, hw4⟩ := hw; go_simp) hH ?_
        simp only [List.setIfInBounds_toArray, List.set_cons_zero, List.set_cons_succ]
        refine takeH 3 58 (.map (some m)) rfl (by kernel_rfl) (by kernel_rfl) (by kernel_rfl) (by kernel_rfl) (fun _ _ _ h => h) (by kernel_rfl) (fun w hw => by (try dsimp only at hw); obtain ⟨hw1, hw2, hw3, hw4⟩ := hw; go_simp) hH ?_
        simp only [List.setIfInBounds_toArray, List.set_cons_zero, List.set_cons_succ]
        refine takeH 4 59 (.pointer (some ⟨bx, 0, none⟩)) rfl (by kernel_rfl) (by kernel_rfl) (by kernel_rfl) (by kernel_rfl) (fun _ _ _ h => h) (by kernel_rfl) (fun w hw => by (try dsimp only at hw); obtain ⟨hw1, hw2, hw3, hw4⟩ := hw; go_simp) hH ?_
        simp only [List.setIfInBounds_toArray, List.set_cons_zero, List.set_cons_succ]
        refine takeH 5 60 (.int .i64 x) rfl (by kernel_rfl) (by kernel_rfl) (by kernel_rfl) (by kernel_rfl) (fun _ _ _ h => h) (by kernel_rfl) (fun w hw => by (try dsimp only at hw); obtain ⟨hw1, hw2, hw3, hw4⟩ := hw; go_simp) hH ?_
        simp only [List.setIfInBounds_toArray, List.set_cons_zero, List.set_cons_succ]
        refine takeH 6 61 (.tuple #[.slice (some ⟨q, 0, none⟩) 1024 1024, .bool true]) rfl (by kernel_rfl) (by kernel_rfl) (by kernel_rfl) (by kernel_rfl) (fun _ _ _ h => h) (by kernel_rfl) (fun w hw => by (try dsimp only at hw); obtain ⟨hw1, hw2, hw3, hw4⟩ := hw; go_simp) hH ?_
        simp only [List.setIfInBounds_toArray, List.set_cons_zero, List.set_cons_succ]
        refine takeH 7 54 (.tuple #[.slice (some ⟨q, 0, none⟩) 1024 1024, .bool true]) rfl (by kernel_rfl) (by kernel_rfl) (by kernel_rfl) (by kernel_rfl) (fun _ _ _ h => h) (by kernel_rfl) (fun w hw => by kernel_rfl) hH ?_
        simp only [List.setIfInBounds_toArray, List.set_cons_zero, List.set_cons_succ]
        refine takeH 8 62 (.slice (some ⟨q, 0, none⟩) 1024 1024) rfl (by kernel_rfl) (by kernel_rfl) (by kernel_rfl) (by kernel_rfl) (fun _ _ _ h => h) (by kernel_rfl) (fun w hw => by (try dsimp only at hw); obtain ⟨hw1, hw2, hw3, hw4⟩ := hw; go_simp) hH ?_
        simp only [List.setIfInBounds_toArray, List.set_cons_zero, List.set_cons_succ]
        refine takeH 9 63 (.bool true) rfl (by kernel_rfl) (by kernel_rfl) (by kernel_rfl) (by kernel_rfl) (fun _ _ _ h => h) (by kernel_rfl) (fun w hw => by (try dsimp only at hw); obtain ⟨hw1, hw2, hw3, hw4⟩ := hw; go_simp) hH ?_
        simp only [List.setIfInBounds_toArray, List.set_cons_zero, List.set_cons_succ]
        refine takeH 10 9 (.slice (some ⟨q, 0, none⟩) 1024 1024) rfl (by kernel_rfl) (by kernel_rfl) (by kernel_rfl) (by kernel_rfl) (fun _ _ _ h => h) (by kernel_rfl) (fun w hw => by kernel_rfl) hH ?_
        simp only [List.setIfInBounds_toArray, List.set_cons_zero, List.set_cons_succ]
        refine takeH 11 10 (.bool true) rfl (by kernel_rfl) (by kernel_rfl) (by kernel_rfl) (by kernel_rfl) (fun _ _ _ h => h) (by kernel_rfl) (fun w hw => by kernel_rfl) hH ?_
        simp only [List.setIfInBounds_toArray, List.set_cons_zero, List.set_cons_succ]
        refine wpAnyH_done (by kernel_rfl) ?_ _
        dsimp only [Norm]
        clear hH HS0
        gi_wp2_with fail
        refine round_region_held (S := fun W => W.cell? ⟨db, 0, none⟩ = some (.slice (some ⟨g, 0, none⟩) L L) ∧ W.cell? ⟨bx, 1, none⟩ = some (.int .i64 (A : Int)) ∧ W.cell? ⟨bx, 2, none⟩ = some (.int .i64 (F : Int)) ∧ W.cell? ⟨bx, 3, none⟩ = some (.int .i64 (E : Int))) (by kernel_rfl) (by kernel_rfl) HS2.out (fun hH => ?_)
        change wpAnyH Tryz.prog Region.Mode.any _ _ _ 11 _ _ _
        refine takeH 0 65 (.slice (some ⟨g, 0, none⟩) L L) rfl (by kernel_rfl) (by kernel_rfl) (by kernel_rfl) (by kernel_rfl) (fun _ _ _ h => h) (by kernel_rfl) (fun w hw => by (try dsimp only at hw); obtain ⟨hw1, hw2, hw3, hw4⟩ := hw; go_simp) hH ?_
        simp only [List.setIfInBounds_toArray, List.set_cons_zero, List.set_cons_succ]
        refine takeH 1 66 (.pointer (some ⟨bx, 2, none⟩)) rfl (by kernel_rfl) (by kernel_rfl) (by kernel_rfl) (by kernel_rfl) (fun _ _ _ h => h) (by kernel_rfl) (fun w hw => by (try dsimp only at hw); obtain ⟨hw1, hw2, hw3, hw4⟩ := hw; go_simp) hH ?_
        simp only [List.setIfInBounds_toArray, List.set_cons_zero, List.set_cons_succ]
        refine takeH 2 67 (.int .i64 (F : Int)) rfl (by kernel_rfl) (by kernel_rfl) (by kernel_rfl) (by kernel_rfl) (fun _ _ _ h => h) (by kernel_rfl) (fun w hw => by (try dsimp only at hw); obtain ⟨hw1, hw2, hw3, hw4⟩ := hw; go_simp) hH ?_
        simp only [List.setIfInBounds_toArray, List.set_cons_zero, List.set_cons_succ]
        refine takeH 3 68 (.pointer (some ⟨bx, 3, none⟩)) rfl (by kernel_rfl) (by kernel_rfl) (by kernel_rfl) (by kernel_rfl) (fun _ _ _ h => h) (by kernel_rfl) (fun w hw => by (try dsimp only at hw); obtain ⟨hw1, hw2, hw3, hw4⟩ := hw; go_simp) hH ?_
        simp only [List.setIfInBounds_toArray, List.set_cons_zero, List.set_cons_succ]
        refine takeH 4 69 (.int .i64 (E : Int)) rfl (by kernel_rfl) (by kernel_rfl) (by kernel_rfl) (by kernel_rfl) (fun _ _ _ h => h) (by kernel_rfl) (fun w hw => by (try dsimp only at hw); obtain ⟨hw1, hw2, hw3, hw4⟩ := hw; go_simp) hH ?_
        simp only [List.setIfInBounds_toArray, List.set_cons_zero, List.set_cons_succ]
        refine takeH 5 70 (.slice (some ⟨g, F, none⟩) (E - F) (L - F)) rfl (by kernel_rfl) (by kernel_rfl) (by kernel_rfl) (by kernel_rfl) (fun _ _ _ h => h) (by kernel_rfl) (fun w hw => by exact exec_sl3 (s := .tmp 65) (y := .tmp 67) (z := .tmp 69) g L F E HF.out rfl (by kernel_rfl) (by kernel_rfl) (by kernel_rfl)) hH ?_
        simp only [List.setIfInBounds_toArray, List.set_cons_zero, List.set_cons_succ]
        refine takeH 6 71 (.slice (some ⟨q, 0, none⟩) 1024 1024) rfl (by kernel_rfl) (by kernel_rfl) (by kernel_rfl) (by kernel_rfl) (fun _ _ _ h => h) (by kernel_rfl) (fun w hw => by kernel_rfl) hH ?_
        simp only [List.setIfInBounds_toArray, List.set_cons_zero, List.set_cons_succ]
        refine takeH 7 72 (.pointer (some ⟨bx, 1, none⟩)) rfl (by kernel_rfl) (by kernel_rfl) (by kernel_rfl) (by kernel_rfl) (fun _ _ _ h => h) (by kernel_rfl) (fun w hw => by (try dsimp only at hw); obtain ⟨hw1, hw2, hw3, hw4⟩ := hw; go_simp) hH ?_
        simp only [List.setIfInBounds_toArray, List.set_cons_zero, List.set_cons_succ]
        refine takeH 8 73 (.int .i64 (A : Int)) rfl (by kernel_rfl) (by kernel_rfl) (by kernel_rfl) (by kernel_rfl) (fun _ _ _ h => h) (by kernel_rfl) (fun w hw => by (try dsimp only at hw); obtain ⟨hw1, hw2, hw3, hw4⟩ := hw; go_simp) hH ?_
        simp only [List.setIfInBounds_toArray, List.set_cons_zero, List.set_cons_succ]
        refine takeH 9 74 (.slice (some ⟨q, A, none⟩) (1024 - A) (1024 - A)) rfl (by kernel_rfl) (by kernel_rfl) (by kernel_rfl) (by kernel_rfl) (fun _ _ _ h => h) (by kernel_rfl) (fun w hw => by exact exec_sl1 (s := .tmp 71) (y := .tmp 73) q A HA.out rfl (by kernel_rfl) (by kernel_rfl)) hH ?_
        simp only [List.setIfInBounds_toArray, List.set_cons_zero, List.set_cons_succ]
        refine stepH_one 10 (by kernel_rfl) ?_
        refine opH_run 10 75 (.int .i64 ((E - F : Nat) : Int)) W6 rfl (by kernel_rfl) (by kernel_rfl) (exec_cpy (d := .tmp 70) (x := .tmp 74) rfl (by kernel_rfl) (by kernel_rfl) HCP.out) HS6.out ?_
        simp only [List.setIfInBounds_toArray, List.set_cons_zero, List.set_cons_succ]
        refine wpAnyH_done (by kernel_rfl) ?_ _
        dsimp only [Norm]
        clear hH HS2 HS6 HCP
        gi_wp2_with fail
        exact HFIN.out
    case done =>
      rintro D W hD hI hKD
      subst hD
      have h4 := H4.out
      have h3 := HGL.out
      have hL4 := HL4.out
      have hrs2 := (HST.out (w.heap.size + 1) hL4.2.1 (by omega) _ W hI).trans h4.2.1
      have hdb2 := (HST.out db hL4.2.2.2.2.1 (fun e => h3.2.1 e.symm) _ W hI).trans h4.2.2.2.2.1
      have hd1 : W.cell? ⟨db, 0, none⟩ = some (.slice (some ⟨g, 0, none⟩) L L) := by rw [blk_cell hdb2]; rfl
      have g3 : W.heap[w.heap.size + 1]? = _ := hrs2
      have z0 := blk_cell g3 0
      have y0 := blk_free g3 0
      have z1 := blk_cell g3 1
      have y1 := blk_free g3 1
      have z2 := blk_cell g3 2
      have y2 := blk_free g3 2
      have z3 := blk_cell g3 3
      have y3 := blk_free g3 3
      have z4 := blk_cell g3 4
      have y4 := blk_free g3 4
      have z5 := blk_cell g3 5
      have y5 := blk_free g3 5
      have z6 := blk_cell g3 6
      have y6 := blk_free g3 6
      simp at z0 z1 z2 z3 z4 z5 z6
      have HI := Hid.mk hI
      have HKD := Hid.mk hKD
      have HR2 := Hid.mk hrs2
      have HG3 := Hid.mk g3
      clear hI hKD h4 hrs2 hdb2 hI0 hgl h3 hL4 g3
      have HU7 := Hid.mk (box7 HG3.out (.int .i64 0) (.slice (some ⟨g, 0, none⟩) L L) (.int .i64 0) (.int .i64 0) (.int .i64 0) (.slice none 0 0) (.int .i64 0))
      gi_wp2_with fail
      generalize hU : World.setCell (World.setCell (World.setCell (World.setCell (World.setCell (World.setCell (World.setCell W _ _) _ _) _ _) _ _) _ _) _ _) _ _ = U at *
      have hb7 := HU7.out
      clear hU
      have h3 := HGL.out
      have h4 := H4.out
      have hVs : w4.heap.size < W.heap.size := lt_of_block HKD.out
      have hkd : U.heap[w4.heap.size]? = some (.deferred (some [])) := (hb7.2.block _ hVs (fun e => by omega)).trans HKD.out
      have hres : (U.putObj w4.heap.size (.deferred none)).heap[w.heap.size + 1]? = _ := (World.putObj_heap_other (by omega)).trans hb7.1
      have k0 := blk_cell hres 0
      have k1 := blk_cell hres 1
      have k2 := blk_cell hres 2
      have k3 := blk_cell hres 3
      have k4 := blk_cell hres 4
      have k5 := blk_cell hres 5
      have k6 := blk_cell hres 6
      simp at k0 k1 k2 k3 k4 k5 k6
      refine ⟨by simp, .inl ⟨_, _, rfl, run_takeDeferred (by first | exact hkd | rw [← h3.2.2.2.1]; exact hkd), ?_⟩⟩
      try rw [← h3.2.2.2.1]
      have hB1 : Below w.heap.size w W := h4.2.2.2.2.2.2.2.2.trans (HI.out.only.below (Nat.le_of_lt HL4.out.1) (fun k hk => by rw [hk]; omega))
      have hB2 : Below w.heap.size w U := hB1.trans (hb7.2.below hB1.size (fun k hk => by omega))
      refine ⟨.agg #[.int .i64 0, .slice (some ⟨g, 0, none⟩) L L, .int .i64 0, .int .i64 0, .int .i64 0, .slice none 0 0, .int .i64 0], ?_, g, rfl, ⟨hB2.os, hB2.tape, hB2.output, ?_, fun k hk => ?_⟩, ?_, by omega⟩
      · simp [results, Tryz.f31, go_sem, k0, k1, k2, k3, k4, k5, k6]
      · exact Nat.le_trans hB2.size (by simp [World.putObj])
      · rw [World.putObj_heap_other (by have := HL4.out; omega)]
        exact hB2.block k hk
      · have e1 : U.heap[g]? = W.heap[g]? := hb7.2.block g (lt_of_block HI.out.row) (by omega)
        exact (World.putObj_heap_other (by omega)).trans (e1.trans HI.out.row)
    case stop =>
      rintro D W hD hX hKD
      exact hX.elim
end Go.Proofs.YtehaoeclnmelhabGreat
namespace Go.Proofs.YtehaoeclnmelhabGreat
open Go Go.Proofs Go.RowKit Go.Shelf

/-- The byte of a block. -/
def byteD (p : List (Int × List Int)) (x : Int) (a : Nat) : Int := match getP p x with
  | none => 0
  | some d => d.getD a 0
/-- The byte of a file. -/
def byteP (p : List (Int × List Int)) (i : Int) : Int := byteD p (i / 1024) (i % 1024).toNat
theorem byteP_nil (i : Int) : byteP [] i = 0 := rfl
theorem splice_getD {xs ys : List Int} {o : Nat} (h : o + ys.length ≤ xs.length) (i : Nat) : (splice xs o ys).getD i 0 = if o ≤ i ∧ i < o + ys.length then ys.getD (i - o) 0 else xs.getD i 0 := by
  unfold splice
  simp only [List.getD]
  by_cases h1 : i < o
  · rw [if_neg (by omega), List.getElem?_append_left (by rw [List.length_take]; omega), List.getElem?_take, if_pos h1]
  · rw [List.getElem?_append_right (by rw [List.length_take]; omega), List.length_take, Nat.min_eq_left (by omega)]
    by_cases h2 : i < o + ys.length
    · rw [if_pos ⟨by omega, h2⟩, List.getElem?_append_left (by omega)]
    · rw [if_neg (by omega), List.getElem?_append_right (by omega), List.getElem?_drop, show o + ys.length + (i - o - ys.length) = i by omega]
theorem find_append_none {α : Type} {A B : List α} {q : α → Bool} (h : ∀ x ∈ A, q x = false) : (A ++ B).find? q = B.find? q := by
  rw [List.find?_append, List.find?_eq_none.2 (fun x hx => by rw [h x hx]; simp)]
  rfl
theorem find_flt {p : List (Int × List Int)} {y : Int} {P : Int × List Int → Bool} (h : ∀ q : Int × List Int, q.1 = y → P q = true) : (p.filter P).find? (fun q => decide (q.1 = y)) = p.find? (fun q => decide (q.1 = y)) := by
  rw [List.find?_filter]
  congr 1
  funext q
  by_cases e : q.1 = y
  · simp [e, h q e]
  · simp [e]
theorem getP_put (x y : Int) (d : List Int) (p : List (Int × List Int)) : getP (putP x d p) y = if y = x then some d else getP p y := by
  unfold getP putP
  by_cases e : y = x
  · subst e
    rw [if_pos rfl, find_append_none (fun q hq => by
      have := (List.mem_filter.1 hq).2
      simp only [decide_eq_true_eq] at this
      simp only [decide_eq_false_iff_not]
      omega), List.find?_cons_of_pos (by simp)]
    rfl
  · rw [if_neg e]
    rcases Int.lt_or_lt_of_ne e with h | h
    · rw [List.find?_append, find_flt (fun q hq => by simp only [decide_eq_true_eq]; omega)]
      cases hf : p.find? (fun q => decide (q.1 = y)) with
      | some v => rfl
      | none =>
        rw [List.find?_cons_of_neg (by simp only [decide_eq_true_eq]; omega), List.find?_eq_none.2 (fun q hq => by
          have := (List.mem_filter.1 hq).2
          simp only [decide_eq_true_eq] at this ⊢
          omega)]
        rfl
    · rw [find_append_none (fun q hq => by
        have := (List.mem_filter.1 hq).2
        simp only [decide_eq_true_eq] at this
        simp only [decide_eq_false_iff_not]
        omega), List.find?_cons_of_neg (by simp only [decide_eq_true_eq]; omega), find_flt (fun q hq => by simp only [decide_eq_true_eq]; omega)]
/-- Every row is as long as a block. -/
def fullP (p : List (Int × List Int)) : Prop := ∀ x d, getP p x = some d → d.length = 1024
theorem fullP_of {p : List (Int × List Int)} (h : ∀ x ∈ p, x.2.length = 1024) : fullP p := fun x d hd => by
  unfold getP at hd
  cases hf : p.find? (fun q => decide (q.1 = x)) with
  | none => rw [hf] at hd; cases hd
  | some v =>
    rw [hf] at hd
    cases hd
    exact h v (List.mem_of_find?_eq_some hf)
theorem wrSeg_len {off : Int} {xs : List Int} (h0 : 0 ≤ off) {k : Nat} (hk : k < pzN off xs.length) : (wrSeg off xs.length xs k).length = (pzF off xs.length (k + 1) - pzF off xs.length k).toNat := by
  obtain ⟨p0, p1, p2, p3, p4, p5, p6, p7, p8, p9⟩ := pz_in h0 (show (0 : Int) ≤ (xs.length : Int) by omega) hk
  unfold wrSeg
  rw [List.length_take, List.length_drop]
  omega
theorem wr_full {off : Int} {xs : List Int} (h0 : 0 ≤ off) {p : List (Int × List Int)} (hp : fullP p) {k : Nat} (hk : k ≤ pzN off xs.length) : fullP (wrP off xs.length xs p k) := by
  induction k with
  | zero => exact hp
  | succ k ih =>
    have ih := ih (by omega)
    obtain ⟨p0, p1, p2, p3, p4, p5, p6, p7, p8, p9⟩ := pz_in h0 (show (0 : Int) ≤ (xs.length : Int) by omega) (show k < pzN off xs.length by omega)
    have hs := wrSeg_len (xs := xs) h0 (show k < pzN off xs.length by omega)
    intro x d hd
    rw [wrP, getP_put] at hd
    split at hd
    · cases hd
      have hl : ((getP (wrP off xs.length xs p k) (pzB off k)).getD (zeros 1024)).length = 1024 := by
        cases hg : getP (wrP off xs.length xs p k) (pzB off k) with
        | none => exact zeros_length _
        | some d => exact ih _ _ hg
      unfold wrRow
      rw [length_splice _ _ _ (by omega), hl]
    · exact ih x d hd
theorem zeros_getD (n i : Nat) : (zeros n).getD i 0 = 0 := by
  unfold zeros
  simp only [List.getD, List.getElem?_replicate]
  split <;> rfl
theorem byteD_row (p : List (Int × List Int)) (x : Int) (a : Nat) : byteD p x a = ((getP p x).getD (zeros 1024)).getD a 0 := by
  unfold byteD
  cases getP p x with
  | none => exact (zeros_getD _ _).symm
  | some d => rfl
theorem wr_byte {off : Int} {xs : List Int} (h0 : 0 ≤ off) {p : List (Int × List Int)} (hp : fullP p) {k : Nat} (hk : k ≤ pzN off xs.length) (i : Int) : byteP (wrP off xs.length xs p k) i = if off ≤ i ∧ i < off + pzF off xs.length k then xs.getD (i - off).toNat 0 else byteP p i := by
  induction k with
  | zero => rw [if_neg (by unfold pzF; simp)]; rfl
  | succ k ih =>
    have ih := ih (by omega)
    have hf := wr_full (xs := xs) h0 hp (k := k) (by omega)
    obtain ⟨p0, p1, p2, p3, p4, p5, p6, p7, p8, p9⟩ := pz_in h0 (show (0 : Int) ≤ (xs.length : Int) by omega) (show k < pzN off xs.length by omega)
    have hs := wrSeg_len (xs := xs) h0 (show k < pzN off xs.length by omega)
    have hl : ((getP (wrP off xs.length xs p k) (pzB off k)).getD (zeros 1024)).length = 1024 := by
      cases hg : getP (wrP off xs.length xs p k) (pzB off k) with
      | none => exact zeros_length _
      | some d => exact hf _ _ hg
    unfold byteP at ih ⊢
    rw [byteD_row] at ih ⊢
    rw [wrP, getP_put]
    by_cases e : i / 1024 = pzB off k
    · rw [if_pos e, Option.getD_some]
      unfold wrRow
      rw [splice_getD (by omega), hs]
      rw [e] at ih
      by_cases h2 : (pzA off k).toNat ≤ (i % 1024).toNat ∧ (i % 1024).toNat < (pzA off k).toNat + (pzF off xs.length (k + 1) - pzF off xs.length k).toNat
      · rw [if_pos h2, if_pos (by omega)]
        unfold wrSeg
        simp only [List.getD, List.getElem?_take, List.getElem?_drop]
        rw [if_pos (by omega)]
        congr 2
        omega
      · rw [if_neg h2, ih]
        by_cases h3 : off ≤ i ∧ i < off + pzF off xs.length k
        · rw [if_pos h3, if_pos (by omega)]
        · rw [if_neg h3, if_neg (by omega), e]
    · rw [if_neg e, ih]
      by_cases h3 : off ≤ i ∧ i < off + pzF off xs.length k
      · rw [if_pos h3, if_pos (by omega)]
      · rw [if_neg h3, if_neg (by omega)]
/-- What no run has reached is nought. -/
theorem rd_zero {off : Int} {L : Nat} (h0 : 0 ≤ off) {p : List (Int × List Int)} (hp : ∀ x ∈ p, x.2.length = 1024) {k : Nat} (hk : k ≤ pzN off L) (i : Nat) (hi : pzF off L k ≤ (i : Int)) : (rdP off L p k).getD i 0 = 0 := by
  induction k with
  | zero => exact zeros_getD _ _
  | succ k ih =>
    have hl := rd_len (L := L) h0 (p := p) (k := k) (by omega)
    obtain ⟨p0, p1, p2, p3, p4, p5, p6, p7, p8, p9⟩ := pz_in h0 (show (0 : Int) ≤ (L : Int) by omega) (show k < pzN off L by omega)
    have ih := ih (by omega) (by omega)
    rw [rdP]
    cases hg : getP p (pzB off k) with
    | none => exact ih
    | some d =>
      have hd := fullP_of hp _ _ hg
      simp only
      rw [splice_getD (by rw [List.length_take, List.length_drop]; omega), if_neg (by rw [List.length_take, List.length_drop]; omega)]
      exact ih
theorem rd_byte {off : Int} {L : Nat} (h0 : 0 ≤ off) {p : List (Int × List Int)} (hp : ∀ x ∈ p, x.2.length = 1024) {k : Nat} (hk : k ≤ pzN off L) (i : Nat) (hi : (i : Int) < pzF off L k) : (rdP off L p k).getD i 0 = byteP p (off + i) := by
  induction k with
  | zero => unfold pzF at hi; simp at hi; omega
  | succ k ih =>
    have ih := ih (by omega)
    have hl := rd_len (L := L) h0 (p := p) (k := k) (by omega)
    obtain ⟨p0, p1, p2, p3, p4, p5, p6, p7, p8, p9⟩ := pz_in h0 (show (0 : Int) ≤ (L : Int) by omega) (show k < pzN off L by omega)
    rw [rdP]
    by_cases h1 : (i : Int) < pzF off L k
    · rw [← ih h1]
      cases hg : getP p (pzB off k) with
      | none => rfl
      | some d =>
        have hd := fullP_of hp _ _ hg
        simp only
        rw [splice_getD (by rw [List.length_take, List.length_drop]; omega), if_neg (by omega)]
    · have e : (off + i) / 1024 = pzB off k := by omega
      unfold byteP byteD
      rw [e]
      cases hg : getP p (pzB off k) with
      | none =>
        simp only
        exact rd_zero h0 hp (by omega) i (by omega)
      | some d =>
        have hd := fullP_of hp _ _ hg
        simp only
        rw [splice_getD (by rw [List.length_take, List.length_drop]; omega), if_pos (by rw [List.length_take, List.length_drop]; omega)]
        simp only [List.getD, List.getElem?_take, List.getElem?_drop]
        rw [if_pos (by omega)]
        congr 2
        omega
end Go.Proofs.YtehaoeclnmelhabGreat
namespace Go.Proofs.YtehaoeclnmelhabGreat
open Go Go.Proofs Go.RowKit Go.Shelf Go.Sort

/-- A node's links turn by so many. -/
theorem TrAt.moreN {W : World} {t : Nat} {σ : Tr} {Ls : List Lay} (h : TrAt W t σ Ls) {d : Nat} (hd : d < σ.nodes.length) (n : Int) : W.cell? ⟨locL Ls d, 1, none⟩ = some (.int .i64 (nodeAt σ.nodes d).links) ∧ W.frozen? ⟨locL Ls d, 1, none⟩ = false ∧ TrAt (W.setCell ⟨locL Ls d, 1, none⟩ (.int .i64 (w64 ((nodeAt σ.nodes d).links + n)))) t { σ with nodes := σ.nodes.modify d (fun x => x.more n) } Ls := by
  cases hk : (nodeAt σ.nodes d).isDir with
  | true => exact h.more hd hk n
  | false =>
    obtain ⟨b, m, r, l, z, p, q1, q2, q3, q4, q5⟩ := h.fileAt hd hk
    refine ⟨(h.kindAt hd).2.1, by rw [q4]; exact blk_free q3.node 1, ?_⟩
    rw [q4, q5, modify_set q2]
    exact h.flinks (l' := w64 (l + n)) q1 q2
/-- The tree with one name more. -/
def linkT (σ : Tr) (d : Nat) (q : List UInt8) (j : Nat) : Tr :=
  { σ with inodes := w64 (σ.inodes + 0), blocks := w64 (σ.blocks + (nodeAt σ.nodes d).growth), nodes := (σ.nodes.modify d (fun x => x.add q j)).modify j (fun x => x.more 1) }
set_option maxRecDepth 100000 in
set_option maxHeartbeats 4000000 in
theorem link_main (w : World) (t : Nat) (σ : Tr) (Ls : List Lay) (hT : TrAt w t σ Ls) (hOk : ∀ x ∈ σ.nodes, x.Ok) (k : Int) (s s2 : ByteArray) (off m : Int) (dp : Option Addr) (dl dc : Nat) (hs : s.size ≤ 16777216) (hs2 : s2.size ≤ 16777216) (L M : List (List UInt8)) (q : List UInt8) (h1 : splitL (ofS s) = some L) (h2 : splitL (ofS s2) = some (M ++ [q])) (j d : Nat) (hf : wayE σ.nodes 0 L = (some j, 0)) (hjk : (nodeAt σ.nodes j).isDir = false) (he : spotE σ.nodes M q = (0, some ⟨d, q, none⟩)) (hl : (nodeAt σ.nodes j).links < 32000) (hfit : fitsB σ.G σ.I σ.D σ.inodes σ.blocks 0 (nodeAt σ.nodes d).growth = true) :
    Calls Tryz.prog 27 #[ptrV t, callV k s s2 off m (.slice dp dl dc)] w fun e w' => e = .returned (errV 0) ∧ Step (fun k => k ∈ feet t Ls) w t w' (linkT σ d q j) := by
  have HTL : Hid (∀ k ∈ feet t Ls, k < w.heap.size) := Hid.mk (fun k hk => hT.lt k hk)
  obtain ⟨hdl, hdk, hdn⟩ : d < σ.nodes.length ∧ (nodeAt σ.nodes d).isDir = true ∧ lookS (nodeAt σ.nodes d).slots q = none := by
    rcases spotE_or σ.nodes M q with ⟨d', o, h, h1, h2, h3⟩ | ⟨e, h, _⟩
    · rw [he] at h; cases h; exact ⟨wayE_lt hT M h1, h2, h3.symm⟩
    · rw [he] at h; cases h
  have hj : j < σ.nodes.length := wayE_lt hT L hf
  have k1 : (nodeAt σ.nodes j).kind = 1 := by rcases kind_two (nodeAt σ.nodes j) with ⟨k, _⟩ | ⟨_, k⟩; rw [hjk] at k; cases k; exact k
  have HBO : Hid (∀ W, _) := Hid.mk (fun W => both_yes W k s s2 off m dp dl dc hs hs2 h1 h2)
  obtain ⟨b1, b2⟩ := split_bounds h1
  obtain ⟨b3, b4⟩ := split_bounds h2
  have hln2 : (M ++ [q]).length = M.length + 1 := by simp
  rw [hln2] at HBO
  have HFI : Hid (∀ W ao c, Below w.heap.size w W → SAt W ao L.length L → _) := Hid.mk (fun W ao c (hB : Below w.heap.size w W) hS => find_any W t σ Ls (hT.below rfl hB) ao c L hS b1 (by omega))
  have HUN : Hid (∀ W ao c, Below w.heap.size w W → SAt W ao (M.length + 1) (M ++ [q]) → M.length + 1 ≤ c → c ≤ 9223372036854775807 → _) := Hid.mk (fun W ao c (hB : Below w.heap.size w W) hS hc1 hc2 => unnamed_any W t σ Ls (hT.below rfl hB) ao c M q hS b3 (by omega) hc1 hc2)
  have HV : Hid (unE (0, some ⟨d, q, none⟩) = 0) := Hid.mk rfl
  rw [hf] at HFI
  rw [he] at HUN
  simp only [optV, ptrV] at HFI
  simp only [HV.out, spotV, optV, ptrV, strV] at HUN
  have HGR : Hid (∀ W, Below w.heap.size w W → Calls Tryz.prog 44 #[ptrV (locL Ls d)] W fun e w' => e = .returned (.int .i64 (nodeAt σ.nodes d).growth) ∧ Below W.heap.size W w') := Hid.mk (fun W hB => by
    obtain ⟨b, m, r, c, l, z, s, q1, q2, q3, q4, q5⟩ := (hT.below rfl hB).dirAt hdl hdk
    have hdok : (Nd.dir l z s).Ok := hOk _ (List.mem_of_getElem? q2)
    rw [q4, q5]
    exact growth_any W (locL Ls) b m r c l z s q3 hdok.2.2 hdok.1 hdok.2.1)
  have HTK : Hid (∀ W, Below w.heap.size w W → Calls Tryz.prog 43 #[ptrV t, .int .i64 0, .int .i64 (nodeAt σ.nodes d).growth] W fun e w' => e = .returned (.int .i64 0) ∧ TrAt w' t { σ with inodes := w64 (σ.inodes + 0), blocks := w64 (σ.blocks + (nodeAt σ.nodes d).growth) } Ls ∧ Only (fun k => k = t) W w') := Hid.mk (fun W hB => by
    have hTW := hT.below rfl hB
    refine (take_any W t (locL Ls 0) σ.G σ.I σ.D σ.inodes σ.blocks hTW.tree 0 (nodeAt σ.nodes d).growth).mono ?_
    rintro e w' (⟨h1, _, _⟩ | ⟨h1, h2, h3, h4⟩)
    · rw [hfit] at h1; cases h1
    · exact ⟨h2, hTW.count h4 h3, h4⟩)
  obtain ⟨l2, hl2⟩ : ∃ l2, (nodeAt σ.nodes j).links = l2 := ⟨_, rfl⟩
  have hl3 : ¬ (32000 : Int) ≤ l2 := by omega
  have HK : Hid (∀ W, Below w.heap.size w W → W.cell? ⟨locL Ls j, 0, none⟩ = some (.int .i64 1) ∧ W.cell? ⟨locL Ls j, 1, none⟩ = some (.int .i64 l2)) := Hid.mk (fun W hB => ⟨by have := ((hT.below rfl hB).kindAt hj).1; rwa [k1] at this, by have := ((hT.below rfl hB).kindAt hj).2.1; rwa [hl2] at this⟩)
  have HAD : Hid (∀ W, TrAt W t { σ with inodes := w64 (σ.inodes + 0), blocks := w64 (σ.blocks + (nodeAt σ.nodes d).growth) } Ls → Calls Tryz.prog 45 #[ptrV (locL Ls d), strV q, ptrV (locL Ls j)] W fun e w' => e = .returned (.tuple #[]) ∧ StepL W t Ls w' { σ with inodes := w64 (σ.inodes + 0), blocks := w64 (σ.blocks + (nodeAt σ.nodes d).growth), nodes := σ.nodes.modify d (fun x => x.add q j) }) := Hid.mk (fun W hTW => add_tree W t _ Ls hTW hOk d q j hdl hdk hdn hj (b3 q (by simp)))
  unfold ptrV at HGR HTK HAD
  unfold strV at HAD
  have HJ : Hid (j < σ.nodes.length) := Hid.mk hj
  have HLJ : Hid (∀ Ls', locL Ls' = locL Ls → ∀ W σ', TrAt W t σ' Ls' → σ'.nodes.length = σ.nodes.length → locL Ls j ∈ feet t Ls') := Hid.mk (fun Ls' e W σ' hW hlen => by
    obtain ⟨A, n4, a1, a2, a3, a4⟩ := hW.get (i := j) (by rw [hlen]; exact hj)
    rw [← e, a4]
    exact mem_feet a1 A.b_foot)
  generalize L.length = nl at *
  generalize M.length = nm at *
  generalize hgr : (nodeAt σ.nodes d).growth = gr at *
  have HGQ := Hid.mk hgr
  clear hT hOk hs hs2 h1 h2 hf he hl hfit b1 b2 b3 b4 hln2 hl2 hdl hdk hdn hj k1 hjk HV hgr
  unfold callV at HBO
  unfold callV ptrV at *
  go_enter Tryz.func27, Tryz.ntmps27
  go_wp2_with fail
  obtain ⟨X, hX⟩ : ∃ X, X = (w.alloc (.cells #[.int .i64 k, .string s, .string s2, .int .i64 off, .int .i64 m, .slice dp dl dc] 35)).alloc (.cells #[.int .i64 0, .slice none 0 0, .int .i64 0, .int .i64 0, .int .i64 0, .slice none 0 0, .int .i64 0] 32) := ⟨_, rfl⟩
  have hXB : Below w.heap.size w X := by rw [hX]; exact ((Below.refl _ w).alloc (Nat.le_refl _) _).alloc (by simp) _
  have hXs : X.heap.size = w.heap.size + 2 := by rw [hX]; simp
  have hX0 : X.heap[w.heap.size]? = some (.cells #[.int .i64 k, .string s, .string s2, .int .i64 off, .int .i64 m, .slice dp dl dc] 35 (0, 0)) := by rw [hX, Below.heap_alloc _ _ _ (by simp)]; exact blk_new w _
  have hX1 : X.heap[w.heap.size + 1]? = some (.cells #[.int .i64 0, .slice none 0 0, .int .i64 0, .int .i64 0, .int .i64 0, .slice none 0 0, .int .i64 0] 32 (0, 0)) := by
    rw [hX]
    have := blk_new (w.alloc (.cells #[.int .i64 k, .string s, .string s2, .int .i64 off, .int .i64 m, .slice dp dl dc] 35)) (.cells #[.int .i64 0, .slice none 0 0, .int .i64 0, .int .i64 0, .int .i64 0, .slice none 0 0, .int .i64 0] 32)
    rwa [World.size_alloc] at this
  rw [← hX]
  clear hX
  have f0 := blk_cell hX0 0
  have f1 := blk_cell hX0 1
  have f2 := blk_cell hX0 2
  have f3 := blk_cell hX0 3
  have f4 := blk_cell hX0 4
  have f5 := blk_cell hX0 5
  simp at f0 f1 f2 f3 f4 f5
  have HXB := Hid.mk hXB
  have HXS := Hid.mk hXs
  have HX1 := Hid.mk hX1
  clear hXB hXs hX0 hX1
  try go_wp2_with fail
  refine (HBO.out X).mono ?_
  rintro e' W1 ⟨ao, c, bo, dd, rfl, hSA, hSB, hc1, hc2, hd1, hd2, hB1⟩
  have hBw : Below w.heap.size w W1 := HXB.out.trans (hB1.mono (by have := HXS.out; omega))
  have HP1 := Hid.mk (HFI.out W1 ao c hBw hSA)
  have HR1 : Hid (W1.heap[w.heap.size + 1]? = some (.cells #[.int .i64 0, .slice none 0 0, .int .i64 0, .int .i64 0, .int .i64 0, .slice none 0 0, .int .i64 0] 32 (0, 0))) := Hid.mk ((hB1.block _ (by have := HXS.out; omega)).trans HX1.out)
  have HSB := Hid.mk hSB
  have HBW := Hid.mk hBw
  have HD1 := Hid.mk hd1
  have HD2 := Hid.mk hd2
  clear hSA hSB hc1 hc2 hd1 hd2 hB1 hBw HXB HXS HX1 HBO HFI f0 f1 f2 f3 f4 f5
  go_upto_region 7 with (go_at_call 41; refine HP1.out.mono ?_; rintro e' W2 ⟨rfl, hB2⟩; have HB2 := Hid.mk hB2; clear hB2)
  have hw2 : Below w.heap.size w W2 := HBW.out.trans (HB2.out.mono HBW.out.size)
  have HP2 := Hid.mk (HUN.out W2 bo dd hw2 (HSB.out.below HB2.out) HD1.out HD2.out)
  have HR2 := Hid.mk ((HB2.out.block _ (lt_of_block HR1.out)).trans HR1.out)
  obtain ⟨g0, -⟩ := HK.out W2 hw2
  have HW2 := Hid.mk hw2
  clear hw2 HP1 HR1 HSB HBW HD1 HD2 HB2 HUN
  go_upto_region 10 with (go_at_call 42; refine HP2.out.mono ?_; rintro e' W3 ⟨rfl, hB3⟩; have HB3 := Hid.mk hB3; clear hB3)
  obtain ⟨Y, hY⟩ : ∃ Y, Y = W3.alloc (.cells #[.pointer (some ⟨locL Ls d, 0, none⟩), .string (mkS q), .pointer none] 73) := ⟨_, rfl⟩
  have hwY : Below w.heap.size w Y := by rw [hY]; have := HW2.out.trans (HB3.out.mono HW2.out.size); exact this.alloc this.size _
  have hsp : Y.heap[W3.heap.size]? = some (.cells #[.pointer (some ⟨locL Ls d, 0, none⟩), .string (mkS q), .pointer none] 73 (0, 0)) := by rw [hY]; exact blk_new W3 _
  have hbY : Y.heap[w.heap.size + 1]? = some (.cells #[.int .i64 0, .slice none 0 0, .int .i64 0, .int .i64 0, .int .i64 0, .slice none 0 0, .int .i64 0] 32 (0, 0)) := by
    have h3 := (HB3.out.block _ (lt_of_block HR2.out)).trans HR2.out
    rw [hY, Below.heap_alloc _ _ _ (lt_of_block h3)]
    exact h3
  have hsz3 : w.heap.size ≤ W3.heap.size := Nat.le_trans HW2.out.size HB3.out.size
  rw [← hY]
  clear hY
  generalize W3.heap.size = sb at *
  have x0 := blk_cell hsp 0
  simp at x0
  obtain ⟨g0', g1⟩ := HK.out Y hwY
  have HSP := Hid.mk hsp
  have HBY := Hid.mk hbY
  have HWY := Hid.mk hwY
  have HSB := Hid.mk hsz3
  clear hsp hbY hwY hsz3 g0 HP2 HB3 HR2 HW2
  go_upto_region 15 with (first
    | (go_at_call 44; refine (HGR.out _ HWY.out).mono ?_; rintro e' Wg ⟨rfl, hbg⟩; have HG := Hid.mk hbg; clear hbg)
    | (go_at_call 43; refine (HTK.out _ (HWY.out.trans (HG.out.mono HWY.out.size))).mono ?_; rintro e' Wt ⟨rfl, hTt, hOt⟩; have HTt := Hid.mk hTt; have HOt := Hid.mk hOt; clear hTt hOt))
  have hnf : ∀ k, w.heap.size ≤ k → k ∉ feet t Ls := fun k hk h => by have := HTL.out k h; omega
  have htf : t ∈ feet t Ls := by simp [feet]
  have hXt : Only (fun k => k ∈ feet t Ls) Y Wt := (Only.of_new (fun k => k ∈ feet t Ls) HG.out).trans (HOt.out.mono (fun i _ (hi : i = t) => by rw [hi]; exact htf)) (fun i hi => .inl hi)
  have hb0 := (hXt.block sb (lt_of_block HSP.out) (hnf _ HSB.out)).trans HSP.out
  have hb1 := (hXt.block (w.heap.size + 1) (lt_of_block HBY.out) (hnf _ (by omega))).trans HBY.out
  have HON : Hid (Only (fun k => k ∈ feet t Ls) Y Wt) := Hid.mk hXt
  have v0 := blk_cell hb0 0
  have v1 := blk_cell hb0 1
  simp at v0 v1
  have HAA := Hid.mk (HAD.out Wt HTt.out)
  have HB1 := Hid.mk hb1
  have HSZ : Hid (w.heap.size + 1 < Wt.heap.size) := Hid.mk (lt_of_block hb1)
  have HYZ : Hid (w.heap.size + 1 < Y.heap.size) := Hid.mk (lt_of_block HBY.out)
  clear hb0 hb1 hXt x0 g0' g1 HK HGR HTK HG HOt HAD HSP HBY
  go_upto_region 18 with (go_at_call 45; refine HAA.out.mono ?_; rintro e' Wa ⟨rfl, ⟨Ls', hTa, hLo, hFt⟩, hOa⟩; have HTa := Hid.mk hTa; have HLo := Hid.mk hLo; have HFt := Hid.mk hFt; have HOa := Hid.mk hOa; clear hTa hLo hFt hOa)
  obtain ⟨m1, m2, m3⟩ := HTa.out.moreN (d := j) (by simpa using HJ.out) 1
  simp only [HLo.out] at m1 m2 m3
  obtain ⟨l3, hl3'⟩ : ∃ l3, l3 = (nodeAt (σ.nodes.modify d (fun x => x.add q j)) j).links := ⟨_, rfl⟩
  rw [← hl3'] at m1 m3
  have HT3 : Hid (TrAt (Wa.setCell ⟨locL Ls j, 1, none⟩ (.int .i64 (wrap64 (l3 + 1)))) t _ Ls') := Hid.mk m3
  have hba := (HOa.out.block (w.heap.size + 1) HSZ.out (hnf _ (by omega))).trans HB1.out
  have HBA := Hid.mk hba
  have HLF : Hid (locL Ls j ∈ feet t Ls') := Hid.mk (HLJ.out Ls' HLo.out Wa _ HTa.out (by simp))
  have HNB : Hid (¬ w.heap.size + 1 ∈ feet t Ls') := Hid.mk (fun h => by
    rcases HFt.out _ h with h | h
    · exact hnf _ (by omega) h
    · have := HSZ.out; omega)
  clear hba m3 hl3' v0 v1 HB1 HAA HLJ
  go_upto_region 19 with fail
  generalize hV : World.setCell Wa _ _ = V at *
  have hbv : V.heap[w.heap.size + 1]? = some (.cells #[.int .i64 0, .slice none 0 0, .int .i64 0, .int .i64 0, .int .i64 0, .slice none 0 0, .int .i64 0] 32 (0, 0)) := by
    rw [← hV]
    exact (Below.heap_setCell _ _ _ _ (fun e => HNB.out (by rw [e]; exact HLF.out))).trans HBA.out
  have z0 := blk_cell hbv 0
  have y0 := blk_free hbv 0
  have z1 := blk_cell hbv 1
  have y1 := blk_free hbv 1
  have z2 := blk_cell hbv 2
  have y2 := blk_free hbv 2
  have z3 := blk_cell hbv 3
  have y3 := blk_free hbv 3
  have z4 := blk_cell hbv 4
  have y4 := blk_free hbv 4
  have z5 := blk_cell hbv 5
  have y5 := blk_free hbv 5
  have z6 := blk_cell hbv 6
  have y6 := blk_free hbv 6
  simp at z0 z1 z2 z3 z4 z5 z6
  have hgo : Only (fun k => k ∈ feet t Ls) Y V := by
    rw [← hV]
    refine ((HON.out.trans HOa.out (fun i hi => .inl hi))).setCell (p := ⟨locL Ls j, 1, none⟩) ?_ _
    rcases HFt.out _ HLF.out with h | h
    · exact .inl h
    · exact .inr (Nat.le_trans HON.out.size h)
  have hst : Step (fun k => k ∈ feet t Ls) Y t V (linkT σ d q j) := ⟨⟨Ls', by unfold linkT; rw [HGQ.out]; exact HT3.out, fun k hk => by
    rcases HFt.out k hk with h | h
    · exact .inl h
    · exact .inr (Nat.le_trans HON.out.size h)⟩, hgo⟩
  have HST := Hid.mk hst
  have BXX := Hid.mk hbv
  clear hbv hgo hst hV m1 m2 HT3 HTa HLo HFt HOa HON HLF HNB HBA
  go_wp2_with fail
  have hb7 := (box7 BXX.out (.int .i64 0) (.slice none 0 0) (.int .i64 0) (.int .i64 0) (.int .i64 0) (.slice none 0 0) (.int .i64 0)).1
  have ho7 := (box7 BXX.out (.int .i64 0) (.slice none 0 0) (.int .i64 0) (.int .i64 0) (.int .i64 0) (.slice none 0 0) (.int .i64 0)).2
  obtain ⟨U, hU⟩ : ∃ U, U = (((((((V.setCell ⟨w.heap.size + 1, 0, none⟩ (.int .i64 0)).setCell ⟨w.heap.size + 1, 1, none⟩ (.slice none 0 0)).setCell ⟨w.heap.size + 1, 2, none⟩ (.int .i64 0)).setCell ⟨w.heap.size + 1, 3, none⟩ (.int .i64 0)).setCell ⟨w.heap.size + 1, 4, none⟩ (.int .i64 0)).setCell ⟨w.heap.size + 1, 5, none⟩ (.slice none 0 0)).setCell ⟨w.heap.size + 1, 6, none⟩ (.int .i64 0)) := ⟨_, rfl⟩
  rw [← hU] at hb7 ho7 ⊢
  have k0 := blk_cell hb7 0
  have k1 := blk_cell hb7 1
  have k2 := blk_cell hb7 2
  have k3 := blk_cell hb7 3
  have k4 := blk_cell hb7 4
  have k5 := blk_cell hb7 5
  have k6 := blk_cell hb7 6
  simp at k0 k1 k2 k3 k4 k5 k6
  have hnot : w.heap.size + 1 ∉ feet t Ls := hnf _ (by omega)
  have hfin := HST.out.out HWY.out (fun k hk => .inl hk) (ho7.mono (fun i _ hi => by subst hi; exact ⟨by omega, HYZ.out, hnot⟩))
  refine bodyPost_ret (v := errV 0) ?_ rfl ⟨rfl, hfin⟩
  simp [results, Tryz.results27, go_sem, errV, k0, k1, k2, k3, k4, k5, k6]
theorem doo_link (w : World) (t : Nat) (σ : Tr) (Ls : List Lay) (hT : TrAt w t σ Ls) (hOk : ∀ x ∈ σ.nodes, x.Ok) (s s2 : ByteArray) (off m : Int) (dp : Option Addr) (dl dc : Nat) (hs : s.size ≤ 16777216) (hs2 : s2.size ≤ 16777216) (L M : List (List UInt8)) (q : List UInt8) (h1 : splitL (ofS s) = some L) (h2 : splitL (ofS s2) = some (M ++ [q])) (j d : Nat) (hf : wayE σ.nodes 0 L = (some j, 0)) (hjk : (nodeAt σ.nodes j).isDir = false) (he : spotE σ.nodes M q = (0, some ⟨d, q, none⟩)) (hl : (nodeAt σ.nodes j).links < 32000) (hfit : fitsB σ.G σ.I σ.D σ.inodes σ.blocks 0 (nodeAt σ.nodes d).growth = true) :
    Calls Tryz.prog 12 #[ptrV t, callV 3 s s2 off m (.slice dp dl dc)] w fun e w' => e = .returned (errV 0) ∧ Step (fun k => k ∈ feet t Ls) w t w' (linkT σ d q j) := by
  refine (do_link w t (linkT σ d q j) Ls s s2 off m dp dl dc 0 0 0 0 0 (fun x y _ => x = .slice none 0 0 ∧ y = .slice none 0 0) (fun k hk => hT.lt k hk) (fun _ _ _ _ h _ => h) (Hid.mk (fun W hB _ => (link_main W t σ Ls (hT.below rfl hB) hOk 3 s s2 off m dp dl dc hs hs2 L M q h1 h2 j d hf hjk he hl hfit).mono (fun e w' hh => ⟨none, 0, 0, none, 0, 0, hh.1, hh.2, rfl, rfl⟩)))).mono ?_
  rintro e w' ⟨a1, n1, c1, a5, n5, c5, rfl, hst, h1, h2⟩
  cases h1; cases h2
  exact ⟨rfl, hst⟩
end Go.Proofs.YtehaoeclnmelhabGreat
namespace Go.Proofs.YtehaoeclnmelhabGreat
open Go Go.Proofs Go.RowKit Go.Shelf Go.Sort

def hdP (i : Nat) : List UInt8 := [UInt8.ofNat (97 + i)]
/-- The root's slots: the names from i on, up to n. -/
def hdS (i n : Nat) : List Slt := List.replicate i none ++ (List.range (n - i)).map (fun k => some (1, hdP (i + k))) ++ List.replicate (30 - n) none
theorem hd_look : ∀ n, n ≤ 26 → ∀ i, i < n → lookS (hdS i n) (hdP i) = some 1 := by decide +kernel
theorem hd_last : ∀ n, n ≤ 26 → 0 < n → lookS (hdS 0 n) (hdP (n - 1)) = some 1 := by decide +kernel
theorem hd_none : ∀ n, n < 26 → lookS (hdS 0 n) (hdP n) = none := by decide +kernel
theorem hd_a : ∀ n, n ≤ 26 → 0 < n → lookS (hdS 0 n) [97] = some 1 := by decide +kernel
theorem hd_free : ∀ n, n ≤ 26 → freeAt (hdS 0 n) = n ∧ (hdS 0 n).length = 30 := by decide +kernel
theorem hd_set : ∀ n, n < 26 → (hdS 0 n).set n (some (1, hdP n)) = hdS 0 (n + 1) := by decide +kernel
theorem hd_delB : ∀ n, n ≤ 26 → ∀ i, i < n → decide ((hdS i n).set (nameAt (hdS i n) (hdP i)) none = hdS (i + 1) n) = true := by decide +kernel
theorem hd_del (n : Nat) (hn : n ≤ 26) (i : Nat) (hi : i < n) : (hdS i n).set (nameAt (hdS i n) (hdP i)) none = hdS (i + 1) n := of_decide_eq_true (hd_delB n hn i hi)
theorem hd_len : ∀ n, n ≤ 26 → ∀ i, i < n → (hdS i n).length = 30 := by decide +kernel
theorem hd_split : ∀ i, i < 26 → splitL (47 :: hdP i) = some [hdP i] := by decide +kernel
def hdT (k : Nat) : Tr := ⟨1, 1, 60, 2, 1, [.dir 2 1024 (hdS 0 k), .file k 0 []]⟩
theorem hd_first : enterS (newT 1 1 60) [47, 97] newF = (0, hdT 1) := by kernel_rfl
theorem hd_link {k : Nat} (h0 : 0 < k) (h : k < 26) : linkT (hdT k) 0 (hdP k) 1 = hdT (k + 1) := by
  obtain ⟨f1, f2⟩ := hd_free k (by omega)
  have hg : (nodeAt (hdT k).nodes 0).growth = 0 := by
    show (Nd.dir 2 1024 (hdS 0 k)).growth = 0
    unfold Nd.growth Nd.slots
    simp only
    rw [if_pos (by omega)]
  unfold linkT
  rw [hg]
  have e1 : w64 ((hdT k).inodes + 0) = 2 := by simp only [hdT, w64]; unfold wrap64; omega
  have e2 : w64 ((hdT k).blocks + 0) = 1 := by simp only [hdT, w64]; unfold wrap64; omega
  rw [e1, e2]
  have e3 : ((hdT k).nodes.modify 0 (fun x => x.add (hdP k) 1)).modify 1 (fun x => x.more 1) = (hdT (k + 1)).nodes := by
    simp only [hdT, List.modify_succ_cons, List.modify_zero_cons, Nd.add, Nd.more]
    rw [f1, if_pos (by omega), hd_set k h]
    have : w64 ((k : Int) + 1) = ((k + 1 : Nat) : Int) := by unfold w64 wrap64; omega
    rw [this]
  rw [e3]
  rfl
/-- The file's blocks. -/
def hwB (xs : List Int) : List (Int × List Int) := wrP 0 xs.length xs [] (pzN 0 xs.length)
def hdF (xs : List Int) (n i : Nat) : Tr := ⟨1, 1, 60, 2, 1 + (pzN 0 xs.length : Int), [.dir 2 1024 (hdS i n), .file ((n : Int) - i) xs.length (hwB xs)]⟩
theorem hd_pz {n : Nat} (h0 : 0 < n) (h1 : n ≤ 2000) : pzN 0 n = 1 ∨ pzN 0 n = 2 := by
  unfold pzN
  rw [if_neg (by omega)]
  omega
theorem hd_keys {xs : List Int} (h0 : 0 < xs.length) (h1 : xs.length ≤ 2000) : (hwB xs).map (·.1) = upto (pzN 0 xs.length) := by
  unfold hwB
  rcases hd_pz h0 h1 with h | h
  · rw [h]
    simp only [wrP, putP, pzB]
    simp
    decide
  · rw [h]
    simp only [wrP, putP, pzB]
    simp
    decide
theorem hd_fill {xs : List Int} (h0 : 0 < xs.length) (h1 : xs.length ≤ 2000) : fillN 0 xs.length [] = (pzN 0 xs.length : Int) := by
  unfold fillN
  rcases hd_pz h0 h1 with h | h
  · rw [h]
    decide +kernel
  · rw [h]
    decide +kernel
theorem hd_write {xs : List Int} (h0 : 0 < xs.length) (h1 : xs.length ≤ 2000) {n : Nat} : writeT (hdT n) 0 xs 1 = hdF xs n 0 := by
  unfold writeT
  have hp : (nodeAt (hdT n).nodes 1).parts = [] := rfl
  rw [hp, hd_fill h0 h1]
  have hz := hd_pz h0 h1
  have e1 : w64 ((hdT n).inodes + 0) = 2 := by simp only [hdT, w64]; unfold wrap64; omega
  have e2 : w64 ((hdT n).blocks + (pzN 0 xs.length : Int)) = 1 + (pzN 0 xs.length : Int) := by simp only [hdT, w64]; unfold wrap64; omega
  rw [e1, e2]
  have e3 : (hdT n).nodes.modify 1 (fun x => x.wr 0 xs) = (hdF xs n 0).nodes := by
    simp only [hdT, hdF, List.modify_succ_cons, List.modify_zero_cons, Nd.wr, hwB]
    have a1 : max 0 (0 + (xs.length : Int)) = xs.length := by omega
    have a2 : (n : Int) - ((0 : Nat) : Int) = n := by omega
    rw [a1, a2]
  rw [e3]
  rfl
theorem hd_full (xs : List Int) : fullP (hwB xs) := wr_full (xs := xs) (Int.le_refl 0) (p := []) (fun x d h => by cases h) (Nat.le_refl _)
theorem getP_mem {p : List (Int × List Int)} (hp : (p.map (·.1)).Pairwise (· < ·)) {x : Int × List Int} (h : x ∈ p) : getP p x.1 = some x.2 := by
  unfold getP
  induction p with
  | nil => cases h
  | cons a p ih =>
    rw [List.map_cons, List.pairwise_cons] at hp
    rcases List.mem_cons.1 h with rfl | h
    · rw [List.find?_cons_of_pos (by simp)]; rfl
    · have hlt := hp.1 x.1 (List.mem_map.2 ⟨x, h, rfl⟩)
      rw [List.find?_cons_of_neg (by simp only [decide_eq_true_eq]; omega)]
      exact ih hp.2 h
theorem hd_rows (xs : List Int) : ∀ x ∈ hwB xs, x.2.length = 1024 := fun x hx => hd_full xs x.1 x.2 (getP_mem (wr_len 0 xs.length xs [] _ List.Pairwise.nil).1 hx)
/-- What was written is read. -/
theorem hd_read (xs : List Int) : rdP 0 xs.length (hwB xs) (pzN 0 xs.length) = xs := by
  have hl := rd_len (L := xs.length) (Int.le_refl 0) (p := hwB xs) (k := pzN 0 xs.length) (Nat.le_refl _)
  have ho : pzF 0 xs.length (pzN 0 xs.length) = xs.length := pz_out (Int.le_refl 0) (by omega)
  refine List.ext_getElem hl (fun i h1 h2 => ?_)
  have e1 := rd_byte (L := xs.length) (Int.le_refl 0) (hd_rows xs) (Nat.le_refl _) i (by rw [ho]; omega)
  have e2 := wr_byte (xs := xs) (Int.le_refl 0) (p := []) (fun x d h => by cases h) (Nat.le_refl _) (0 + (i : Int))
  rw [ho, if_pos (by omega)] at e2
  unfold hwB at e1
  rw [e2] at e1
  have g1 : (rdP 0 xs.length (hwB xs) (pzN 0 xs.length)).getD i 0 = (rdP 0 xs.length (hwB xs) (pzN 0 xs.length))[i] := by simp only [List.getD, List.getElem?_eq_getElem h1, Option.getD_some]
  have g2 : xs.getD (0 + (i : Int) - 0).toNat 0 = xs[i] := by
    rw [show (0 + (i : Int) - 0).toNat = i by omega]
    simp only [List.getD, List.getElem?_eq_getElem h2, Option.getD_some]
  rw [← g1, ← g2]
  exact e1
theorem hd_unlink {xs : List Int} {n i : Nat} (hn : n ≤ 26) (hi : i + 1 < n) : loseM { hdF xs n i with nodes := (hdF xs n i).nodes.modify 0 (fun x => x.del (hdP i)) } 1 = hdF xs n (i + 1) := by
  unfold loseM
  simp only [hdF, List.modify_succ_cons, List.modify_zero_cons, Nd.del, Nd.more]
  rw [hd_del n hn i (by omega)]
  have : w64 ((n : Int) - (i : Int) + -1) = (n : Int) - ((i + 1 : Nat) : Int) := by unfold w64 wrap64; omega
  rw [this]
/-- Behind the last name. -/
def hdG (xs : List Int) (n : Nat) : Tr := loseL { hdF xs n (n - 1) with nodes := (hdF xs n (n - 1)).nodes.modify 0 (fun x => x.del (hdP (n - 1))) } 1
theorem hd_used {xs : List Int} (h0 : 0 < xs.length) (h1 : xs.length ≤ 2000) (n : Nat) : (hdG xs n).inodes = 1 ∧ (hdG xs n).blocks = 1 := by
  constructor
  · show w64 (2 - 1) = 1
    unfold w64 wrap64
    omega
  · show w64 (1 + (pzN 0 xs.length : Int) - roomL ((hwB xs).map (·.1))) = 1
    rw [hd_keys h0 h1]
    have hr : roomL (upto (pzN 0 xs.length)) = (pzN 0 xs.length : Int) := by
      rcases hd_pz h0 h1 with h | h
      · rw [h]; decide +kernel
      · rw [h]; decide +kernel
    rw [hr]
    unfold w64 wrap64
    omega
theorem hdT_ok {k : Nat} (h : k ≤ 26) : ∀ x ∈ (hdT k).nodes, x.Ok := by
  intro x hx
  simp only [hdT, List.mem_cons, List.mem_nil_iff, or_false] at hx
  rcases hx with rfl | rfl
  · exact ⟨by omega, by omega, by rw [(hd_free k h).2]; omega⟩
  · exact ⟨⟨List.Pairwise.nil, fun x hx => by cases hx⟩, by simp⟩
theorem hdF_ok {xs : List Int} (h0 : 0 < xs.length) (h1 : xs.length ≤ 2000) {n i : Nat} (hn : n ≤ 26) (hi : i < n) : ∀ x ∈ (hdF xs n i).nodes, x.Ok := by
  intro x hx
  simp only [hdF, List.mem_cons, List.mem_nil_iff, or_false] at hx
  have hk := hd_keys h0 h1
  have hz := hd_pz h0 h1
  rcases hx with rfl | rfl
  · exact ⟨by omega, by omega, by rw [hd_len n hn i hi]; omega⟩
  · refine ⟨⟨(wr_len 0 xs.length xs [] _ List.Pairwise.nil).1, fun x hx => ?_⟩, ?_⟩
    · have : x.1 ∈ (hwB xs).map (·.1) := List.mem_map.2 ⟨x, hx, rfl⟩
      rw [hk] at this
      have := mem_upto' this
      omega
    · have : (hwB xs).length = ((hwB xs).map (·.1)).length := by simp
      rw [this, hk]
      simp [upto]
      omega
end Go.Proofs.YtehaoeclnmelhabGreat
namespace Go.Proofs.YtehaoeclnmelhabGreat
open Go Go.Proofs Go.RowKit Go.Shelf Go.Sort

set_option maxRecDepth 100000 in
theorem lR_any (w : World) (s : ByteArray) (off n : Int) : Calls Tryz.prog 18 #[.string s, .int .i64 off, .int .i64 n] w fun x w' => x = .returned (callV 7 s ⟨#[]⟩ off n (.slice none 0 0)) ∧ Below w.heap.size w w' := by
  go_enter Tryz.func18, Tryz.ntmps18
  go_wp2
  refine bodyPost_ret (v := callV 7 s ⟨#[]⟩ off n (.slice none 0 0)) ?_ rfl ⟨rfl, ?_⟩
  · simp [results, Tryz.results18, go_sem, callV]
  · exact (Below.refl _ w).alloc (Nat.le_refl _) _
/-- What a read answers. -/
def readV (g L : Nat) : Value := .agg #[.int .i64 0, .slice (some ⟨g, 0, none⟩) L L, .int .i64 0, .int .i64 0, .int .i64 0, .slice none 0 0, .int .i64 0]
def BytesQ (B L : Nat) (xs : List Int) (x y : Value) (W : World) : Prop := y = .slice none 0 0 ∧ ∃ g, x = .slice (some ⟨g, 0, none⟩) L L ∧ RAt W g xs ∧ B ≤ g
theorem doo_read (w : World) (t : Nat) (σ : Tr) (Ls : List Lay) (hT : TrAt w t σ Ls) (hOk : ∀ x ∈ σ.nodes, x.Ok) (s s2 : ByteArray) (off N : Int) (dp : Option Addr) (dl dc : Nat) (hs : s.size ≤ 16777216) (j : Nat) (he : fileE σ.nodes (ofS s) = (some j, 0)) (hj : j < σ.nodes.length) (hjk : (nodeAt σ.nodes j).isDir = false) (h0 : 0 ≤ off) (h1 : off ≤ 67379200) (hN0 : 0 ≤ N) (hN1 : N ≤ 8192) (hz : 0 ≤ (nodeAt σ.nodes j).size ∧ (nodeAt σ.nodes j).size ≤ 67379200) (L : Nat) (hL : (L : Int) = max 0 (min N ((nodeAt σ.nodes j).size - off))) :
    Calls Tryz.prog 12 #[ptrV t, callV 7 s s2 off N (.slice dp dl dc)] w fun e w' => ∃ g, e = .returned (readV g L) ∧ RAt w' g (rdP off L (nodeAt σ.nodes j).parts (pzN off L)) ∧ w.heap.size + 2 ≤ g ∧ Step (fun k => k ∈ feet t Ls) w t w' σ := by
  refine (do_read w t σ Ls s s2 off N dp dl dc 0 0 0 0 0 (BytesQ (w.heap.size + 2) L (rdP off L (nodeAt σ.nodes j).parts (pzN off L))) (fun k hk => hT.lt k hk) (fun x y W1 W2 h ho => ?_) (Hid.mk (fun W hB hsz => (read_main W t σ Ls (hT.below rfl hB) hOk 7 s s2 off N dp dl dc hs j he hj hjk h0 h1 hN0 hN1 hz L hL).mono (fun e w' hh => ?_)))).mono ?_
  · obtain ⟨h1, g, h2, h3, h4⟩ := h
    exact ⟨h1, g, h2, (ho.block g (lt_of_block h3) (by omega)).trans h3, h4⟩
  · obtain ⟨g, h1, h2, h3, h4⟩ := hh
    exact ⟨_, _, _, none, 0, 0, h1, Step.still (hT.below rfl hB) (fun k hk => hk) h2, rfl, g, rfl, h3, by omega⟩
  · rintro e w' ⟨a1, n1, c1, a5, n5, c5, rfl, hst, h1, g, h2, h3, h4⟩
    cases h1; cases h2
    exact ⟨_, rfl, h3, h4, hst⟩
/-- As own_do, with what the answer brings along; the tree's blocks are new. -/
theorem own_doQ {w W : World} {t : Nat} {σ σ' : Tr} {B : Nat → Prop} {F : FuncId} {vs : Array Value} {Q : Ending → World → Prop} (hO : OwnT w W t σ B) (hB : ∀ k, B k → k < W.heap.size) (hC : ∀ Ls, TrAt W t σ Ls → (∀ k ∈ feet t Ls, w.heap.size ≤ k ∧ ¬ B k) → Calls Tryz.prog F vs W fun e w' => Q e w' ∧ Step (fun k => k ∈ feet t Ls) W t w' σ') :
    Calls Tryz.prog F vs W fun e w' => Q e w' ∧ OwnT w w' t σ' B ∧ (∀ k, B k → w'.heap[k]? = W.heap[k]?) ∧ W.heap.size ≤ w'.heap.size := by
  obtain ⟨h1, Ls, h2, h3⟩ := hO
  refine (hC Ls h2 h3).mono ?_
  rintro e w' ⟨hq, ⟨⟨Ls', h4, h5⟩, h6⟩⟩
  refine ⟨hq, ⟨?_, Ls', h4, fun k hk => ?_⟩, fun k hk => h6.block k (hB k hk) (fun hf => (h3 k hf).2 hk), h6.size⟩
  · exact ((Only.of_below (S := fun _ => False) h1 (fun k h1 h2 => by omega)).trans h6 (fun i hi => .inr (h3 i hi).1)).below (Nat.le_refl _) (fun _ h => h.elim)
  · rcases h5 k hk with h | h
    · exact h3 k h
    · exact ⟨Nat.le_trans h1.size h, fun hb => by have := hB k hb; omega⟩
end Go.Proofs.YtehaoeclnmelhabGreat
namespace Go.Proofs.YtehaoeclnmelhabGreat
open Go Go.Proofs Go.RowKit Go.Shelf Go.Sort

def hdPath (i : Nat) : ByteArray := mkS (47 :: hdP i)
theorem hd_cat (i : Nat) : (⟨#[47]⟩ : ByteArray) ++ rmLet i = hdPath i := by
  apply ofS_inj
  unfold hdPath
  rw [of_mk]
  show ((⟨#[47]⟩ : ByteArray) ++ rmLet i).data.toList = _
  rw [ByteArray.data_append]
  simp [rmLet, hdP]
theorem hd_size (i : Nat) : (hdPath i).size = 2 := by unfold hdPath; rw [mkS_size]; rfl
theorem hd_of (i : Nat) : ofS (hdPath i) = 47 :: hdP i := of_mk _
set_option maxRecDepth 100000 in
theorem exec_hd {ev : Operand → Value} {oi : Oper} {x y : Operand} {s : Operand} {w : World} (q : Nat) (hq : q < 26) (ho : oi.op = .slice 9 s (some x) (some y) none) (hv : ev s = .string ⟨#[97, 98, 99, 100, 101, 102, 103, 104, 105, 106, 107, 108, 109, 110, 111, 112, 113, 114, 115, 116, 117, 118, 119, 120, 121, 122]⟩) (hx : ev x = .int .i64 q) (hy : ev y = .int .i64 ((q : Int) + 1)) :
    (execOp ev oi).run Tryz.prog w = .ok (.value (.string (rmLet q))) w := by
  unfold execOp
  rw [ho]
  simp only [hx, hy, hv, Option.map]
  have h : q = 0 ∨ q = 1 ∨ q = 2 ∨ q = 3 ∨ q = 4 ∨ q = 5 ∨ q = 6 ∨ q = 7 ∨ q = 8 ∨ q = 9 ∨ q = 10 ∨ q = 11 ∨ q = 12 ∨ q = 13 ∨ q = 14 ∨ q = 15 ∨ q = 16 ∨ q = 17 ∨ q = 18 ∨ q = 19 ∨ q = 20 ∨ q = 21 ∨ q = 22 ∨ q = 23 ∨ q = 24 ∨ q = 25 := by omega
  rcases h with rfl | rfl | rfl | rfl | rfl | rfl | rfl | rfl | rfl | rfl | rfl | rfl | rfl | rfl | rfl | rfl | rfl | rfl | rfl | rfl | rfl | rfl | rfl | rfl | rfl | rfl <;> rfl
/-- The first file. -/
theorem hd_do1 (w W : World) (t : Nat) (B : Nat → Prop) (hO : OwnT w W t (newT 1 1 60) B) (hB : ∀ k, B k → k < W.heap.size) : Calls Tryz.prog 12 #[ptrV t, callV 1 ⟨#[47, 97]⟩ ⟨#[]⟩ 0 0 (.slice none 0 0)] W fun e w' => e = .returned (errV 0) ∧ OwnT w w' t (hdT 1) B ∧ (∀ k, B k → w'.heap[k]? = W.heap[k]?) ∧ W.heap.size ≤ w'.heap.size :=
  own_do hO hB (fun Ls hT => by
    have := doo_create W t _ Ls hT (rmA_ok (d := 60) (k := 0) (by omega)) ⟨#[47, 97]⟩ ⟨#[]⟩ 0 0 none 0 0 (by decide)
    rw [show ofS (⟨#[47, 97]⟩ : ByteArray) = [47, 97] from rfl, hd_first] at this
    exact this)
theorem hd_way {N : List Nd} {l z : Int} {s : List Slt} {p : List UInt8} (h : N[0]? = some (.dir l z s)) (hl : lookS s p = some 1) : wayE N 0 [p] = (some 1, 0) := by
  have := (way_dir [] h hl).2
  unfold wayE
  rw [this]
  rfl
theorem hd_spot {N : List Nd} {l z : Int} {s : List Slt} (p : List UInt8) (h : nodeAt N 0 = .dir l z s) : spotE N [] p = (0, some ⟨0, p, lookS s p⟩) := by
  show (if (nodeAt N 0).isDir = true then ((0, some ⟨0, p, lookS (nodeAt N 0).slots p⟩) : Int × Option Sp) else (12, none)) = _
  rw [h]
  rfl
theorem hd_good : inoI 1 1 60 = 16 ∧ blkI 1 1 60 = 60 := rm_good (by omega) (by omega)
/-- A name more. -/
theorem hd_do2 (w W : World) (t : Nat) (k : Nat) (B : Nat → Prop) (h0 : 0 < k) (h1 : k < 26) (hO : OwnT w W t (hdT k) B) (hB : ∀ k, B k → k < W.heap.size) : Calls Tryz.prog 12 #[ptrV t, callV 3 ⟨#[47, 97]⟩ (hdPath k) 0 0 (.slice none 0 0)] W fun e w' => e = .returned (errV 0) ∧ OwnT w w' t (hdT (k + 1)) B ∧ (∀ k, B k → w'.heap[k]? = W.heap[k]?) ∧ W.heap.size ≤ w'.heap.size :=
  own_do hO hB (fun Ls hT => by
    have hg : (nodeAt (hdT k).nodes 0).growth = 0 := by
      show (Nd.dir 2 1024 (hdS 0 k)).growth = 0
      obtain ⟨f1, f2⟩ := hd_free k (by omega)
      unfold Nd.growth Nd.slots
      simp only
      rw [if_pos (by omega)]
    have hf : fitsB (hdT k).G (hdT k).I (hdT k).D (hdT k).inodes (hdT k).blocks 0 (nodeAt (hdT k).nodes 0).growth = true := by
      rw [hg]
      show fitsB 1 1 60 2 1 0 0 = true
      decide +kernel
    have := doo_link W t _ Ls hT (hdT_ok (by omega)) ⟨#[47, 97]⟩ (hdPath k) 0 0 none 0 0 (by decide) (by rw [hd_size]; omega) [[97]] [] (hdP k) (by decide +kernel) (by rw [hd_of, hd_split k h1]; rfl) 1 0 (hd_way (l := 2) (z := 1024) rfl (hd_a k (by omega) h0)) rfl (by rw [hd_spot (l := 2) (z := 1024) (s := hdS 0 k) _ rfl, hd_none k h1]) (by show (k : Int) < 32000; omega) hf
    rw [hd_link h0 h1] at this
    exact this)
theorem hd_node {xs : List Int} {n i : Nat} (hn : n ≤ 26) (hi : i < n) : nodeE (hdF xs n i).nodes (ofS (hdPath i)) = (some 1, 0) := by
  unfold nodeE
  rw [hd_of, hd_split i (by omega)]
  exact hd_way (l := 2) (z := 1024) rfl (hd_look n hn i hi)
theorem hd_file {xs : List Int} {n i : Nat} (hn : n ≤ 26) (hi : i < n) : fileE (hdF xs n i).nodes (ofS (hdPath i)) = (some 1, 0) := by
  unfold fileE
  rw [hd_node hn hi]
  rfl
theorem hd_fileT {n : Nat} (hn : n ≤ 26) (h0 : 0 < n) : fileE (hdT n).nodes (ofS (hdPath (n - 1))) = (some 1, 0) := by
  unfold fileE nodeE
  rw [hd_of, hd_split (n - 1) (by omega)]
  simp only
  rw [hd_way (l := 2) (z := 1024) (s := hdS 0 n) rfl (hd_last n hn h0)]
  rfl
/-- The write. -/
theorem hd_do3 (w W : World) (t : Nat) (n : Nat) (xs : List Int) (a : Addr) (dc : Nat) (B : Nat → Prop) (hn0 : 0 < n) (hn : n ≤ 26) (h0 : 0 < xs.length) (h1 : xs.length ≤ 2000) (hdc : xs.length ≤ dc) (hdc2 : dc ≤ 9223372036854775807) (hO : OwnT w W t (hdT n) B) (hX : BAt W (some a) xs.length xs) (ha : a.block < w.heap.size) (hB : ∀ k, B k → k < W.heap.size) : Calls Tryz.prog 12 #[ptrV t, callV 8 (hdPath (n - 1)) ⟨#[]⟩ 0 0 (.slice (some a) xs.length dc)] W fun e w' => e = .returned (.agg #[.int .i64 0, .slice none 0 0, .int .i64 0, .int .i64 0, .int .i64 0, .slice none 0 0, .int .i64 xs.length]) ∧ OwnT w w' t (hdF xs n 0) B ∧ (∀ k, B k → w'.heap[k]? = W.heap[k]?) ∧ W.heap.size ≤ w'.heap.size := by
  refine own_doQ (Q := fun e _ => e = .returned (.agg #[.int .i64 0, .slice none 0 0, .int .i64 0, .int .i64 0, .int .i64 0, .slice none 0 0, .int .i64 xs.length])) hO hB (fun Ls2 hT hno => ?_)
  have hap : a.block ∉ feet t Ls2 := fun h => by have := (hno _ h).1; omega
  have hf : fitsB (hdT n).G (hdT n).I (hdT n).D (hdT n).inodes (hdT n).blocks 0 (fillN 0 xs.length (nodeAt (hdT n).nodes 1).parts) = true := by
    show fitsB 1 1 60 2 1 0 (fillN 0 xs.length []) = true
    rw [hd_fill h0 h1]
    rcases hd_pz h0 h1 with h | h
    · rw [h]; decide +kernel
    · rw [h]; decide +kernel
  have := doo_write W t (hdT n) Ls2 hT (hdT_ok hn) (hdPath (n - 1)) ⟨#[]⟩ 0 0 a xs.length dc xs (by rw [hd_size]; omega) 1 (hd_fileT hn hn0) (by simp [hdT]) rfl (by omega) h0 (by omega) hdc hdc2 (by omega) hX hap (by show ([] : List (Int × List Int)).length ≤ 70000; simp) hf
  rw [hd_write h0 h1] at this
  exact this
/-- The tree before the k-th round. -/
def hdE (xs : List Int) (n k : Nat) : Tr := if k < n then hdF xs n k else hdG xs n
theorem hdE_lt {xs : List Int} {n k : Nat} (h : k < n) : hdE xs n k = hdF xs n k := if_pos h
/-- What the file's stat answers. -/
def hdStat (xs : List Int) (n k : Nat) : Value := .agg #[.int .i64 0, .slice none 0 0, .int .i64 1, .int .i64 xs.length, .int .i64 ((n : Int) - k), .slice none 0 0, .int .i64 0]
theorem hd_do4 (w W : World) (t : Nat) (xs : List Int) (n k : Nat) (B : Nat → Prop) (hn : n ≤ 26) (hk : k < n) (hO : OwnT w W t (hdE xs n k) B) (hB : ∀ k, B k → k < W.heap.size) : Calls Tryz.prog 12 #[ptrV t, callV 10 (hdPath k) ⟨#[]⟩ 0 0 (.slice none 0 0)] W fun e w' => e = .returned (hdStat xs n k) ∧ OwnT w w' t (hdE xs n k) B ∧ (∀ k, B k → w'.heap[k]? = W.heap[k]?) ∧ W.heap.size ≤ w'.heap.size := by
  rw [hdE_lt hk] at hO ⊢
  refine own_do hO hB (fun Ls hT => ?_)
  exact doo_stat W t _ Ls hT (hdPath k) ⟨#[]⟩ 0 0 none 0 0 (by rw [hd_size]; omega) 0 1 xs.length ((n : Int) - k) (by unfold statV; rw [hd_node hn hk]; rfl)
theorem hd_do5 (w W : World) (t : Nat) (xs : List Int) (n k : Nat) (B : Nat → Prop) (h0 : 0 < xs.length) (h1 : xs.length ≤ 2000) (hn : n ≤ 26) (hk : k < n) (hO : OwnT w W t (hdE xs n k) B) (hB : ∀ k, B k → k < W.heap.size) : Calls Tryz.prog 12 #[ptrV t, callV 7 (hdPath k) ⟨#[]⟩ 0 4000 (.slice none 0 0)] W fun e w' => (∃ g, e = .returned (readV g xs.length) ∧ RAt w' g xs ∧ W.heap.size ≤ g) ∧ OwnT w w' t (hdE xs n k) B ∧ (∀ k, B k → w'.heap[k]? = W.heap[k]?) ∧ W.heap.size ≤ w'.heap.size := by
  rw [hdE_lt hk] at hO ⊢
  refine own_doQ (Q := fun e w' => ∃ g, e = .returned (readV g xs.length) ∧ RAt w' g xs ∧ W.heap.size ≤ g) hO hB (fun Ls hT _ => ?_)
  have := doo_read W t _ Ls hT (hdF_ok h0 h1 hn hk) (hdPath k) ⟨#[]⟩ 0 4000 none 0 0 (by rw [hd_size]; omega) 1 (hd_file hn hk) (by simp [hdF]) rfl (by omega) (by omega) (by omega) (by omega) (by show (0 : Int) ≤ xs.length ∧ (xs.length : Int) ≤ 67379200; omega) xs.length (by show (xs.length : Int) = max 0 (min 4000 ((xs.length : Int) - 0)); omega)
  rw [show (nodeAt (hdF xs n k).nodes 1).parts = hwB xs from rfl, hd_read] at this
  refine this.mono ?_
  rintro e w' ⟨g, g1, g2, g3, g4⟩
  exact ⟨⟨g, g1, g2, by omega⟩, g4⟩
theorem hd_do6 (w W : World) (t : Nat) (xs : List Int) (n k : Nat) (B : Nat → Prop) (h0 : 0 < xs.length) (h1 : xs.length ≤ 2000) (hn : n ≤ 26) (hk : k < n) (hO : OwnT w W t (hdE xs n k) B) (hB : ∀ k, B k → k < W.heap.size) : Calls Tryz.prog 12 #[ptrV t, callV 4 (hdPath k) ⟨#[]⟩ 0 0 (.slice none 0 0)] W fun e w' => e = .returned (errV 0) ∧ OwnT w w' t (hdE xs n (k + 1)) B ∧ (∀ k, B k → w'.heap[k]? = W.heap[k]?) ∧ W.heap.size ≤ w'.heap.size := by
  rw [hdE_lt hk] at hO
  have hnm : namedE (hdF xs n k).nodes (ofS (hdPath k)) = (0, some ⟨0, hdP k, some 1⟩) := by
    unfold namedE
    rw [hd_of, hd_split k (by omega)]
    show (nmE (spotE (hdF xs n k).nodes [] (hdP k)), (spotE (hdF xs n k).nodes [] (hdP k)).2) = _
    rw [hd_spot (l := 2) (z := 1024) (s := hdS k n) _ rfl, hd_look n hn k hk]
    rfl
  have hok := del_ok (hdF_ok h0 h1 hn hk) 0 (hdP k)
  refine own_do hO hB (fun Ls hT => ?_)
  by_cases hl : k + 1 < n
  · rw [hdE_lt hl]
    refine doo_unlink W t (hdF xs n k) Ls hT (hdPath k) ⟨#[]⟩ 0 0 none 0 0 (by rw [hd_size]; omega) 0 (hdP k) 1 hnm (by simp [hdF]) rfl (hd_look n hn k hk) (by simp [hdF]) rfl (by simp [hdP]) (hdF xs n (k + 1)) (Hid.mk (fun W' hT' => ?_))
    have := lose_more W' t { hdF xs n k with nodes := (hdF xs n k).nodes.modify 0 (fun x => x.del (hdP k)) } Ls hT' hok 0 1 (mkS (hdP k)) (by simp [hdF]) rfl (by show 0 < wrap64 ((n : Int) - k - 1); unfold wrap64; omega)
    rw [hd_unlink hn hl] at this
    exact this
  · obtain rfl : k = n - 1 := by omega
    rw [show hdE xs n (n - 1 + 1) = hdG xs n from if_neg (by omega)]
    exact doo_unlink W t (hdF xs n (n - 1)) Ls hT (hdPath (n - 1)) ⟨#[]⟩ 0 0 none 0 0 (by rw [hd_size]; omega) 0 (hdP (n - 1)) 1 hnm (by simp [hdF]) rfl (hd_look n hn (n - 1) hk) (by simp [hdF]) rfl (by simp [hdP]) (hdG xs n) (Hid.mk (fun W' hT' => lose_last W' t { hdF xs n (n - 1) with nodes := (hdF xs n (n - 1)).nodes.modify 0 (fun x => x.del (hdP (n - 1))) } Ls hT' hok 0 1 (mkS (hdP (n - 1))) (by simp [hdF]) rfl (by show ¬ 0 < wrap64 ((n : Int) - ((n - 1 : Nat) : Int) - 1); unfold wrap64; omega)))
end Go.Proofs.YtehaoeclnmelhabGreat
